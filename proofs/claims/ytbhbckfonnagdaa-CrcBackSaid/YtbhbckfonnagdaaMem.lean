/-
  Slices of bytes in memory: what is owned is read; what is appended; what a cut holds.
-/
import Derived.Test.YtbhbckfonnagdaaAdd
import Derived.OwnWalk
import Derived.Laws.MakeOwn
import Derived.Laws.BytesArg
namespace Go.Proofs.Ytbhbckfonnagdaa
open Go.RowKit

theorem plain_add (g o j : Nat) : (⟨g, o, none⟩ : Addr).add j = ⟨g, o + j, none⟩ := by unfold Addr.add; split <;> simp_all
theorem infoU8 : (Try.prog.info? 5).map (fun i => (i.zero, i.size, i.bytes)) = some (some (.int .u8 0), 1, 1) := by kernel_rfl

/-- The slice v owns the bytes xs, in blocks from B on. -/
def Own (w : World) (B : Nat) (v : Value) (xs : List (BitVec 8)) : Prop := w.ownsRow B 5 1 v xs.length (xs.map cel)

theorem Own.byts {w : World} {B : Nat} {v : Value} {xs : List (BitVec 8)} (h : Own w B v xs) : Byts w v xs := by
  rcases h.2 with ⟨rfl, hn⟩ | ⟨g, cap, cur, rfl, hB, hg, hcap, hm, hs, ht⟩
  · exact .inl ⟨List.length_eq_zero_iff.1 hn, .inl rfl⟩
  · refine .inr ⟨g, 0, cap, rfl, hcap, fun j x hx => ?_⟩
    have hj : j < xs.length := by
      rcases Nat.lt_or_ge j xs.length with h1 | h1
      · exact h1
      · rw [List.getElem?_eq_none h1] at hx; cases hx
    have := World.ownsRow.cellAt (g := g) (cap := cap) h j (by omega)
    rw [Nat.zero_add, this]
    simp [hx]

theorem Own.below {w w' : World} {B : Nat} {v : Value} {xs : List (BitVec 8)} (h : Own w B v xs) (hb : Below w.heap.size w w') : Own w' B v xs := by
  refine ⟨h.1, ?_⟩
  rcases h.2 with hn | ⟨g, cap, cur, hv, hB, hg, rest⟩
  · exact .inl hn
  · refine .inr ⟨g, cap, cur, hv, hB, ?_, rest⟩
    have hlt : g < w.heap.size := by
      rcases Nat.lt_or_ge g w.heap.size with h1 | h1
      · exact h1
      · rw [Array.getElem?_eq_none h1] at hg; cases hg
    rw [hb.block g hlt]; exact hg
theorem Own.mono {w : World} {B B' : Nat} {v : Value} {xs : List (BitVec 8)} (h : Own w B v xs) (hB : B' ≤ B) : Own w B' v xs := by
  refine ⟨h.1, ?_⟩
  rcases h.2 with hn | ⟨g, cap, cur, hv, hb, rest⟩
  · exact .inl hn
  · exact .inr ⟨g, cap, cur, hv, by omega, rest⟩

theorem cel_one (xs : List (BitVec 8)) : ∀ u ∈ xs.map cel, u.oneCell' = true := by
  intro u hu
  obtain ⟨x, _, rfl⟩ := List.mem_map.1 hu
  rfl

theorem run_app {w : World} (base : Nat) (ty : TypeId) (v : Value) (xs : List (BitVec 8)) (hown : Own w base v xs) (u : Value) (ys : List (BitVec 8)) (hu : Byts w u ys)
    (hm : xs.length + ys.length ≤ 140737488355328) (hbase : base ≤ w.heap.size) :
    ∃ v' w', (Builtin.append_ #[23, 23] ty #[v, u]).run Try.prog w = .ok v' w' ∧ Own w' base v' (xs ++ ys) ∧ w.grownBy w' v.ownBlock := by
  obtain ⟨i0, hi, hz0, hz1, hz2⟩ := info_parts infoU8
  have key : ∀ (a : Addr) (c : Nat), u = .slice (some a) ys.length c → (∀ (j : Nat) x, ys[j]? = some x → w.cell? (a.add j) = some (cel x)) →
      ∃ v' w', (Builtin.append_ #[23, 23] ty #[v, u]).run Try.prog w = .ok v' w' ∧ Own w' base v' (xs ++ ys) ∧ w.grownBy w' v.ownBlock := by
    intro a c hu' hc
    subst hu'
    obtain ⟨v', w', h1, h2, h3, _⟩ := run_append_own (P := Try.prog) w base 23 ty 5 i0 (.int .u8 0) 1 1 Try.underlying23 hi hz0 hz1 hz2 rfl (by decide) v xs.length (xs.map cel) hown
      a ys.length c (ys.map cel) (by simp) (fun j x hx => by
        rw [List.getElem?_map] at hx
        cases hy : ys[j]? with
        | none => rw [hy] at hx; cases hx
        | some y => rw [hy] at hx; cases hx; exact hc j y hy) (cel_one ys) (by unfold maxLen; omega) (by omega) hbase
    refine ⟨v', w', h1, ?_, h3⟩
    unfold Own
    rw [List.length_append, List.map_append]
    exact h2
  rcases hu with ⟨rfl, rfl | ⟨a, c, rfl⟩⟩ | ⟨g, o, cap, hv, hc, h⟩
  · refine ⟨v, w, run_append_owned_none (P := Try.prog) (w := w) base 23 ty 5 i0 1 Try.underlying23 hi v xs.length (xs.map cel) hown, ?_, World.grownBy.refl w _⟩
    rw [List.append_nil]
    exact hown
  · exact key a c rfl (fun j x hx => by simp at hx)
  · exact key _ cap hv (fun j x hx => by rw [plain_add]; exact h j x hx)

theorem wpList_app {w : World} {ops : Array Oper} {rest : List Oper} {o : Oper} {a : Act} {Q : Exit → Act → World → Prop} (hgd : o.guard = none) (s x : Operand)
    (ho : o.op = .call { callee := .builtin .append, args := #[s, x], argTypes := #[23, 23] })
    (base : Nat) (v : Value) (xs : List (BitVec 8)) (hs : a.eval s = v) (hown : Own w base v xs) (u : Value) (ys : List (BitVec 8)) (hx : a.eval x = u) (hu : Byts w u ys)
    (hm : xs.length + ys.length ≤ 140737488355328) (hbase : base ≤ w.heap.size)
    (h : ∀ v' w', Own w' base v' (xs ++ ys) → w.grownBy w' v.ownBlock → wpList Try.prog ops Q rest (a.put o.dst v') w') : wpList Try.prog ops Q (o :: rest) a w := by
  obtain ⟨v', w', hrun, h1, h2⟩ := run_app base o.type v xs hown u ys hu hm hbase
  refine wpList_plain hgd fun K hK => ?_
  unfold Oper.wp
  simp [execOp, ho, resolve, invoke, builtin, hs, hx, hrun, Result.andThen]
  exact hK _ _ (h v' w' h1 h2)

theorem Own.grown {w0 w w1 : World} {v : Value} {xs : List (BitVec 8)} (hb : Below w0.heap.size w0 w) (hown : Own w w0.heap.size v xs) (hg : w.grownBy w1 v.ownBlock) : Below w0.heap.size w0 w1 :=
  hb.grown hg hb.size fun k hk => (World.ownsRow.lt hown k hk).1

/-- What make lays. -/
theorem run_make_u8 (n : Nat) (hn : n ≤ 140737488355328) (l : Nat) (hl : l ≤ n) : ∃ M : Array Value, M.size = n ∧ (∀ j, j < n → M[j]? = some (cel 0#8)) ∧
    ∀ w : World, (Instr.makeSlice 23 (.int .i64 (l : Int)) (.int .i64 (n : Int))).run Try.prog w = .ok (.slice (some ⟨w.heap.size, 0, none⟩) l n) (w.alloc (.cells M 5)) := by
  obtain ⟨i0, hi, hz0, hz1, hz2⟩ := info_parts infoU8
  refine ⟨madeCells (Value.int .u8 0).cells (n * 1), by rw [size_madeCells]; omega, ?_, fun w => ?_⟩
  · intro j hj
    have h1 : j % 1 = 0 := Nat.mod_one j
    simp [madeCells, Value.cells, cel, hj, h1]
  · have := run_make (P := Try.prog) w 23 5 i0 (.int .u8 0) Try.underlying23 hi hz0 .i64 .i64 (l : Int) (n : Int) (by omega) (by omega) (by rw [hz2]; omega) (by omega)
    rw [hz1] at this
    simpa using this

theorem own_lit (w : World) (B : Nat) (xs : List (BitVec 8)) (hB : B ≤ w.heap.size) (hm : xs.length ≤ maxLen) : Own (w.alloc (.cells (xs.map cel).toArray 5)) B (.slice (some ⟨w.heap.size, 0, none⟩) xs.length xs.length) xs := by
  have := World.ownsRow_lit (e := 5) (size := 1) w (xs.map cel).toArray xs.length hB hm (by simp)
  unfold Own
  simpa using this
theorem own_made (w : World) (B : Nat) (M : Array Value) (n : Nat) (hM : M.size = n) (hB : B ≤ w.heap.size) (hm : n ≤ maxLen) : Own (w.alloc (.cells M 5)) B (.slice (some ⟨w.heap.size, 0, none⟩) 0 n) [] :=
  World.ownsRow_made (e := 5) (size := 1) w M n hB hm (by omega)

theorem strNums (xs : List (BitVec 8)) (w : World) (v : Value) (h : Byts w v xs) : (convert 23 9 v).run Try.prog w = .ok (.string (strOfNums (xs.map fun x => (x.toNat : Int)))) w := by
  rcases h with ⟨rfl, rfl | ⟨a, c, rfl⟩⟩ | ⟨g, o, cap, rfl, hc, h⟩
  · exact run_convert_bytes_nil w 23 5 Try.underlying23 Try.underlying5 0 0 9 Try.underlying9
  · rw [run_convert_bytes_string w 23 9 5 _ 0 c Try.underlying23 Try.underlying5 Try.underlying9, run_bytesToString w a 0 c [] rfl]
    rfl
  · have := run_convert_bytes_arg (P := Try.prog) w 23 5 Try.underlying23 Try.underlying5 g o xs.length cap (xs.map fun x => (x.toNat : Int)) (by simp) (fun i hi => by
      rw [h i xs[i] (List.getElem?_eq_getElem hi)]
      simp [cel, List.getD, hi]) 9 Try.underlying9
    exact this
theorem Byts.take {w : World} {g o cap : Nat} {xs : List (BitVec 8)} (h : ∀ (j : Nat) x, xs[j]? = some x → w.cell? ⟨g, o + j, none⟩ = some (cel x)) (hc : xs.length ≤ cap) (n : Nat) (hn : n ≤ xs.length) : Byts w (.slice (some ⟨g, o, none⟩) n cap) (xs.take n) :=
  .inr ⟨g, o, cap, by simp; omega, by simp; omega, fun j x hx => h j x (by
    rw [List.getElem?_take] at hx
    split at hx
    · exact hx
    · cases hx)⟩
theorem Byts.drop {w : World} {g o cap : Nat} {xs : List (BitVec 8)} (h : ∀ (j : Nat) x, xs[j]? = some x → w.cell? ⟨g, o + j, none⟩ = some (cel x)) (hc : xs.length ≤ cap) (n : Nat) (hn : n ≤ xs.length) : Byts w (.slice (some ⟨g, o + n, none⟩) (xs.length - n) (cap - n)) (xs.drop n) :=
  .inr ⟨g, o + n, cap - n, by simp, by simp; omega, fun j x hx => by
    rw [List.getElem?_drop] at hx
    have := h _ x hx
    rwa [show o + n + j = o + (n + j) by omega]⟩
end Go.Proofs.Ytbhbckfonnagdaa

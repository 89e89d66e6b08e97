/-
  Slices of bytes in memory: what is held, owned, appended, cut, made; texts. No word of any layer.
-/
import Derived.Test.YtalfcbgffgikkaaCore
import Derived.WalkKit
import Derived.Lib.Hide
import Derived.Laws.BitsAllLaws
import Derived.Below
import Derived.Laws.OwnMore
import Derived.OwnWalk
import Derived.Laws.MakeOwn
import Derived.Laws.BytesArg
import Derived.Lib.SlBytesConst
namespace Go.Proofs.Ytalfcbgffgikkaa
open Go.RowKit

/-- A byte as a cell. -/
def cel (x : BitVec 8) : Value := .int .u8 (x.toNat : Int)
/-- The slice v holds the bytes xs. -/
def Byts (w : World) (v : Value) (xs : List (BitVec 8)) : Prop :=
  (xs = [] ∧ (v = .slice none 0 0 ∨ ∃ a c, v = .slice (some a) 0 c)) ∨ ∃ g o cap, v = .slice (some ⟨g, o, none⟩) xs.length cap ∧ xs.length ≤ cap ∧ ∀ (j : Nat) x, xs[j]? = some x → w.cell? ⟨g, o + j, none⟩ = some (cel x)

theorem Byts.below {w w' : World} {v : Value} {xs : List (BitVec 8)} (h : Byts w v xs) (hb : Below w.heap.size w w') : Byts w' v xs := by
  rcases h with h | ⟨g, o, cap, hv, hc, h⟩
  · exact .inl h
  · refine .inr ⟨g, o, cap, hv, hc, fun j x hx => ?_⟩
    have hj := h j x hx
    rw [hb.cell (p := ⟨g, o + j, none⟩) (lt_of_cell hj)]
    exact hj
theorem Byts.len {w : World} {v : Value} {xs : List (BitVec 8)} (h : Byts w v xs) : ∃ a c, v = .slice a xs.length c := by
  rcases h with ⟨h2, h | ⟨a, c, h⟩⟩ | ⟨g, o, cap, hv, _⟩
  · subst h2; exact ⟨_, _, h⟩
  · subst h2; exact ⟨_, _, h⟩
  · exact ⟨_, _, hv⟩
theorem Byts.at_ {w : World} {v : Value} {xs : List (BitVec 8)} (h : Byts w v xs) (k : Nat) (hk : k < xs.length) :
    ∃ g o cap x, v = .slice (some ⟨g, o, none⟩) xs.length cap ∧ xs.length ≤ cap ∧ g < w.heap.size ∧ xs[k]? = some x ∧ w.cell? ⟨g, o + k, none⟩ = some (.int .u8 (x.toNat : Int)) := by
  rcases h with ⟨h, _⟩ | ⟨g, o, cap, hv, hc, h⟩
  · subst h; simp at hk
  · have hx := h k _ (List.getElem?_eq_getElem hk)
    exact ⟨g, o, cap, xs[k], hv, hc, lt_of_cell hx, List.getElem?_eq_getElem hk, hx⟩
theorem byts_nil (w : World) : Byts w (.slice none 0 0) [] := .inl ⟨rfl, .inl rfl⟩

theorem infoU8 : (Try.prog.info? 5).map (fun i => (i.zero, i.size, i.bytes)) = some (some (.int .u8 0), 1, 1) := by kernel_rfl

/-- The slice v owns the bytes xs, in blocks from B on. -/
def Own (w : World) (B : Nat) (v : Value) (xs : List (BitVec 8)) : Prop := w.ownsRow B 5 1 v xs.length (xs.map cel)

theorem Own.byts {w : World} {B : Nat} {v : Value} {xs : List (BitVec 8)} (h : Own w B v xs) : Byts w v xs := by
  rcases h.2 with ⟨rfl, hn⟩ | ⟨g, cap, cur, rfl, hB, hg, hcap, hm, hs, ht⟩
  · exact .inl ⟨List.length_eq_zero_iff.1 hn, .inl rfl⟩
  · refine .inr ⟨g, 0, cap, rfl, hcap, fun j x hx => ?_⟩
    have hj : j < xs.length := by
      rcases Nat.lt_or_ge j xs.length with h1 | h1
      · exact h1
      · rw [List.getElem?_eq_none h1] at hx; cases hx
    have := World.ownsRow.cellAt (g := g) (cap := cap) h j (by omega)
    rw [Nat.zero_add, this]
    simp [hx]
theorem Own.below {w w' : World} {B : Nat} {v : Value} {xs : List (BitVec 8)} (h : Own w B v xs) (hb : Below w.heap.size w w') : Own w' B v xs := by
  refine ⟨h.1, ?_⟩
  rcases h.2 with hn | ⟨g, cap, cur, hv, hB, hg, rest⟩
  · exact .inl hn
  · refine .inr ⟨g, cap, cur, hv, hB, ?_, rest⟩
    have hlt : g < w.heap.size := by
      rcases Nat.lt_or_ge g w.heap.size with h1 | h1
      · exact h1
      · rw [Array.getElem?_eq_none h1] at hg; cases hg
    rw [hb.block g hlt]; exact hg
theorem Own.mono {w : World} {B B' : Nat} {v : Value} {xs : List (BitVec 8)} (h : Own w B v xs) (hB : B' ≤ B) : Own w B' v xs := by
  refine ⟨h.1, ?_⟩
  rcases h.2 with hn | ⟨g, cap, cur, hv, hb, rest⟩
  · exact .inl hn
  · exact .inr ⟨g, cap, cur, hv, by omega, rest⟩
theorem Own.form {w : World} {B : Nat} {v : Value} {xs : List (BitVec 8)} (h : Own w B v xs) (h0 : 0 < xs.length) : ∃ g cap, v = .slice (some ⟨g, 0, none⟩) xs.length cap ∧ xs.length ≤ cap ∧ B ≤ g := by
  rcases h.2 with ⟨_, hn⟩ | ⟨g, cap, cur, hv, hB, hg, hcap, _⟩
  · omega
  · exact ⟨g, cap, hv, hcap, hB⟩
theorem Own.cell {w : World} {B g n cap : Nat} {xs : List (BitVec 8)} (h : Own w B (.slice (some ⟨g, 0, none⟩) n cap) xs) (hn : n = xs.length) (k : Nat) (x : BitVec 8) (hx : xs[k]? = some x) : w.cell? ⟨g, k, none⟩ = some (.int .u8 (x.toNat : Int)) := by
  subst hn
  have hk : k < xs.length := by
    rcases Nat.lt_or_ge k xs.length with h1 | h1
    · exact h1
    · rw [List.getElem?_eq_none h1] at hx; cases hx
  rw [World.ownsRow.cellAt h k (by omega)]
  simp [hx, cel]
theorem Own.frozen {w : World} {B g n cap : Nat} {xs : List (BitVec 8)} (h : Own w B (.slice (some ⟨g, 0, none⟩) n cap) xs) (hn : n = xs.length) (k : Nat) : w.frozen? ⟨g, k, none⟩ = false := by
  subst hn
  exact World.ownsRow.frozenAt h k
theorem Own.set_ {w : World} {B g n cap : Nat} {xs : List (BitVec 8)} (h : Own w B (.slice (some ⟨g, 0, none⟩) n cap) xs) (hn : n = xs.length) (k : Nat) (x : BitVec 8) :
    Own (w.setCell ⟨g, k, none⟩ (.int .u8 (x.toNat : Int))) B (.slice (some ⟨g, 0, none⟩) n cap) (xs.set k x) := by
  subst hn
  have := (World.ownsRow.stored h k (.int .u8 (x.toNat : Int))).1
  unfold Own
  rw [List.length_set, List.map_set]
  exact this
theorem Own.alloc {w : World} {B : Nat} {v : Value} {xs : List (BitVec 8)} (h : Own w B v xs) (o : Obj) : Own (w.alloc o) B v xs := World.ownsRow.alloc h o

theorem cel_one (xs : List (BitVec 8)) : ∀ u ∈ xs.map cel, u.oneCell' = true := by
  intro u hu
  obtain ⟨x, _, rfl⟩ := List.mem_map.1 hu
  rfl

theorem run_app {w : World} (base : Nat) (ty : TypeId) (v : Value) (xs : List (BitVec 8)) (hown : Own w base v xs) (u : Value) (ys : List (BitVec 8)) (hu : Byts w u ys)
    (hm : xs.length + ys.length ≤ 140737488355328) (hbase : base ≤ w.heap.size) :
    ∃ v' w', (Builtin.append_ #[27, 27] ty #[v, u]).run Try.prog w = .ok v' w' ∧ Own w' base v' (xs ++ ys) ∧ w.grownBy w' v.ownBlock := by
  obtain ⟨i0, hi, hz0, hz1, hz2⟩ := info_parts infoU8
  have key : ∀ (a : Addr) (c : Nat), u = .slice (some a) ys.length c → (∀ (j : Nat) x, ys[j]? = some x → w.cell? (a.add j) = some (cel x)) →
      ∃ v' w', (Builtin.append_ #[27, 27] ty #[v, u]).run Try.prog w = .ok v' w' ∧ Own w' base v' (xs ++ ys) ∧ w.grownBy w' v.ownBlock := by
    intro a c hu' hc
    subst hu'
    obtain ⟨v', w', h1, h2, h3, _⟩ := run_append_own (P := Try.prog) w base 27 ty 5 i0 (.int .u8 0) 1 1 Try.underlying27 hi hz0 hz1 hz2 rfl (by decide) v xs.length (xs.map cel) hown
      a ys.length c (ys.map cel) (by simp) (fun j x hx => by
        rw [List.getElem?_map] at hx
        cases hy : ys[j]? with
        | none => rw [hy] at hx; cases hx
        | some y => rw [hy] at hx; cases hx; exact hc j y hy) (cel_one ys) (by unfold maxLen; omega) (by omega) hbase
    refine ⟨v', w', h1, ?_, h3⟩
    unfold Own
    rw [List.length_append, List.map_append]
    exact h2
  rcases hu with ⟨rfl, rfl | ⟨a, c, rfl⟩⟩ | ⟨g, o, cap, hv, hc, h⟩
  · refine ⟨v, w, run_append_owned_none (P := Try.prog) (w := w) base 27 ty 5 i0 1 Try.underlying27 hi v xs.length (xs.map cel) hown, ?_, World.grownBy.refl w _⟩
    rw [List.append_nil]
    exact hown
  · exact key a c rfl (fun j x hx => by simp at hx)
  · exact key _ cap hv (fun j x hx => by rw [plain_add]; exact h j x hx)

theorem wpList_app {w : World} {ops : Array Oper} {rest : List Oper} {o : Oper} {a : Act} {Q : Exit → Act → World → Prop} (hgd : o.guard = none) (s x : Operand)
    (ho : o.op = .call { callee := .builtin .append, args := #[s, x], argTypes := #[27, 27] })
    (base : Nat) (v : Value) (xs : List (BitVec 8)) (hs : a.eval s = v) (hown : Own w base v xs) (u : Value) (ys : List (BitVec 8)) (hx : a.eval x = u) (hu : Byts w u ys)
    (hm : xs.length + ys.length ≤ 140737488355328) (hbase : base ≤ w.heap.size)
    (h : ∀ v' w', Own w' base v' (xs ++ ys) → w.grownBy w' v.ownBlock → wpList Try.prog ops Q rest (a.put o.dst v') w') : wpList Try.prog ops Q (o :: rest) a w := by
  obtain ⟨v', w', hrun, h1, h2⟩ := run_app base o.type v xs hown u ys hu hm hbase
  refine wpList_plain hgd fun K hK => ?_
  unfold Oper.wp
  simp [execOp, ho, resolve, invoke, builtin, hs, hx, hrun, Result.andThen]
  exact hK _ _ (h v' w' h1 h2)

theorem Own.grown {w0 w w1 : World} {v : Value} {xs : List (BitVec 8)} (hb : Below w0.heap.size w0 w) (hown : Own w w0.heap.size v xs) (hg : w.grownBy w1 v.ownBlock) : Below w0.heap.size w0 w1 :=
  hb.grown hg hb.size fun k hk => (World.ownsRow.lt hown k hk).1

/-- What make lays. -/
theorem run_make_u8 (n : Nat) (hn : n ≤ 140737488355328) (l : Nat) (hl : l ≤ n) : ∃ M : Array Value, M.size = n ∧ (∀ j, j < n → M[j]? = some (cel 0#8)) ∧
    ∀ w : World, (Instr.makeSlice 27 (.int .i64 (l : Int)) (.int .i64 (n : Int))).run Try.prog w = .ok (.slice (some ⟨w.heap.size, 0, none⟩) l n) (w.alloc (.cells M 5)) := by
  obtain ⟨i0, hi, hz0, hz1, hz2⟩ := info_parts infoU8
  refine ⟨madeCells (Value.int .u8 0).cells (n * 1), by rw [size_madeCells]; omega, ?_, fun w => ?_⟩
  · intro j hj
    have h1 : j % 1 = 0 := Nat.mod_one j
    simp [madeCells, Value.cells, cel, hj, h1]
  · have := run_make (P := Try.prog) w 27 5 i0 (.int .u8 0) Try.underlying27 hi hz0 .i64 .i64 (l : Int) (n : Int) (by omega) (by omega) (by rw [hz2]; omega) (by omega)
    rw [hz1] at this
    simpa using this

theorem own_lit (w : World) (B : Nat) (xs : List (BitVec 8)) (hB : B ≤ w.heap.size) (hm : xs.length ≤ maxLen) : Own (w.alloc (.cells (xs.map cel).toArray 5)) B (.slice (some ⟨w.heap.size, 0, none⟩) xs.length xs.length) xs := by
  have := World.ownsRow_lit (e := 5) (size := 1) w (xs.map cel).toArray xs.length hB hm (by simp)
  unfold Own
  simpa using this
theorem own_made (w : World) (B : Nat) (M : Array Value) (n : Nat) (hM : M.size = n) (hB : B ≤ w.heap.size) (hm : n ≤ maxLen) : Own (w.alloc (.cells M 5)) B (.slice (some ⟨w.heap.size, 0, none⟩) 0 n) [] :=
  World.ownsRow_made (e := 5) (size := 1) w M n hB hm (by omega)

/-- The text of bytes. -/
def txt (xs : List (BitVec 8)) : ByteArray := strOfNums (xs.map fun x => (x.toNat : Int))
theorem txt_run (xs : List (BitVec 8)) (w : World) (v : Value) (h : Byts w v xs) : (convert 27 9 v).run Try.prog w = .ok (.string (txt xs)) w := by
  unfold txt
  rcases h with ⟨rfl, rfl | ⟨a, c, rfl⟩⟩ | ⟨g, o, cap, rfl, hc, h⟩
  · exact run_convert_bytes_nil w 27 5 Try.underlying27 Try.underlying5 0 0 9 Try.underlying9
  · rw [run_convert_bytes_string w 27 9 5 _ 0 c Try.underlying27 Try.underlying5 Try.underlying9, run_bytesToString w a 0 c [] rfl]
    rfl
  · have := run_convert_bytes_arg (P := Try.prog) w 27 5 Try.underlying27 Try.underlying5 g o xs.length cap (xs.map fun x => (x.toNat : Int)) (by simp) (fun i hi => by
      rw [h i xs[i] (List.getElem?_eq_getElem hi)]
      simp [cel, List.getD, hi]) 9 Try.underlying9
    exact this
theorem Byts.take {w : World} {g o cap : Nat} {xs : List (BitVec 8)} (h : ∀ (j : Nat) x, xs[j]? = some x → w.cell? ⟨g, o + j, none⟩ = some (cel x)) (hc : xs.length ≤ cap) (n : Nat) (hn : n ≤ xs.length) : Byts w (.slice (some ⟨g, o, none⟩) n cap) (xs.take n) :=
  .inr ⟨g, o, cap, by simp; omega, by simp; omega, fun j x hx => h j x (by
    rw [List.getElem?_take] at hx
    split at hx
    · exact hx
    · cases hx)⟩
theorem Byts.drop {w : World} {g o cap : Nat} {xs : List (BitVec 8)} (h : ∀ (j : Nat) x, xs[j]? = some x → w.cell? ⟨g, o + j, none⟩ = some (cel x)) (hc : xs.length ≤ cap) (n : Nat) (hn : n ≤ xs.length) : Byts w (.slice (some ⟨g, o + n, none⟩) (xs.length - n) (cap - n)) (xs.drop n) :=
  .inr ⟨g, o + n, cap - n, by simp, by simp; omega, fun j x hx => by
    rw [List.getElem?_drop] at hx
    have := h _ x hx
    rwa [show o + n + j = o + (n + j) by omega]⟩
theorem le_alloc {B : Nat} {w : World} (h : B ≤ w.heap.size) (o : Obj) : B ≤ (w.alloc o).heap.size := by simp; omega


theorem lit_byts (w : World) (C : Array Value) (n : Nat) (fr : Nat × Nat) (xs : List (BitVec 8)) (hC : C.toList = xs.map cel) (hn : xs.length = n) : Byts (w.alloc (.cells C 5 fr)) (.slice (some ⟨w.heap.size, 0, none⟩) n n) xs := by
  subst hn
  refine .inr ⟨w.heap.size, 0, xs.length, rfl, Nat.le_refl _, fun j x hx => ?_⟩
  have h := heap_alloc_new w (.cells C 5 fr)
  rw [cell_of_row _ _ _ _ _ _ h, ← Array.getElem?_toList, hC]
  simp [hx]

theorem made_byts (w : World) (M : Array Value) (n : Nat) (hz : ∀ j, j < n → M[j]? = some (cel 0#8)) : Byts (w.alloc (.cells M 5)) (.slice (some ⟨w.heap.size, 0, none⟩) n n) (List.replicate n 0#8) := by
  refine .inr ⟨w.heap.size, 0, n, by simp, by simp, fun j x hx => ?_⟩
  have h := heap_alloc_new w (.cells M 5)
  have hj : j < n := by
    have := (List.getElem?_eq_some_iff.1 hx).1
    simpa using this
  rw [cell_of_row _ _ _ _ _ _ h, Nat.zero_add, hz j hj]
  rw [List.getElem?_replicate, if_pos hj] at hx
  rw [← Option.some.inj hx]

theorem sizeU8 (w : World) : (sizeOf 5).run Try.prog w = .ok 1 w := by kernel_rfl
theorem elemB : Try.prog.elem 27 = 5 := by kernel_rfl
theorem add_zero (a : Addr) : a.add 0 = a := by unfold Addr.add; simp
/-- b[k:], and where it lies. -/
theorem cutR {w : World} {v : Value} {xs : List (BitVec 8)} (h : Byts w v xs) (k : Nat) (hk : k ≤ xs.length) : ∃ v2,
    (∀ w', (Instr.slice 27 v (some (.int .i64 (k : Int))) none none).run Try.prog w' = .ok v2 w') ∧ Byts w v2 (xs.drop k) ∧
    ∀ a n c, v2 = .slice (some a) n c → ∃ a' n' c', v = .slice (some a') n' c' ∧ a.block = a'.block := by
  have hu : Try.prog.underlying 27 = some (.slice (Try.prog.elem 27)) := by rw [elemB]; exact Try.underlying27
  rcases h with ⟨rfl, rfl | ⟨a, c, rfl⟩⟩ | ⟨g, o, cap, rfl, hc, h⟩
  · obtain rfl : k = 0 := by simpa using hk
    refine ⟨.slice none 0 0, fun w' => ?_, .inl ⟨rfl, .inl rfl⟩, fun a n c h => by cases h⟩
    rw [run_slice_l _ _ _ _ _ hu _ _ (by simp) (by simp), elemB, sizeU8]; rfl
  · obtain rfl : k = 0 := by simpa using hk
    refine ⟨.slice (some a) 0 c, fun w' => ?_, .inl ⟨rfl, .inr ⟨a, c, rfl⟩⟩, fun a' n' c' h => ⟨_, _, _, h, rfl⟩⟩
    rw [run_slice_l _ _ _ _ _ hu _ _ (by simp) (by simp), elemB, sizeU8]
    simp [Result.andThen, sliced, add_zero]
  · by_cases hck : cap = k
    · subst hck
      have hl : xs.length = cap := by omega
      refine ⟨.slice (some ⟨g, o, none⟩) 0 0, fun w' => ?_, .inl ⟨by rw [List.drop_eq_nil_of_le (by omega)], .inr ⟨_, _, rfl⟩⟩, fun a' n' c' h => ⟨_, _, _, rfl, by cases h; rfl⟩⟩
      rw [run_slice_l _ _ _ _ _ hu _ _ (by omega) (by omega), elemB, sizeU8]
      simp [Result.andThen, sliced, hl]
    · refine ⟨.slice (some ⟨g, o + k, none⟩) (xs.length - k) (cap - k), fun w' => ?_, Byts.drop h hc k hk, fun a' n' c' h => ⟨_, _, _, rfl, by cases h; rfl⟩⟩
      rw [run_slice_l _ _ _ _ _ hu _ _ (by omega) (by omega), elemB, sizeU8]
      simp [Result.andThen, sliced, hck, plain_add]
end Go.Proofs.Ytalfcbgffgikkaa

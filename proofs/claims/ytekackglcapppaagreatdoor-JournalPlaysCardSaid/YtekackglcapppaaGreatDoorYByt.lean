/-
  BytK Clone Cut Mark Txt: merged.
-/
import Derived.WalkSpells
import Derived.ArgAppend
import Derived.Lib.SlBytesConst
import Derived.MapKept
import Derived.Laws.StructEq
import Derived.Test.YtekackglcapppaaGreatDoorBytes
import Derived.Test.YtekackglcapppaaGreatDoorKeep
/-
  Bytes where blocks of G alone have changed.
-/
namespace Go.Proofs.YtekackglcapppaaGreatDoor
open Go.RowKit

theorem Byts.keep {G : Nat → Prop} {w w' : World} {v : Value} {xs : List (BitVec 8)} (h : Byts w v xs) (hk : Keep G w w') (hn : ∀ a n c, v = .slice (some a) n c → n = 0 ∨ ¬ G a.block) : Byts w' v xs := by
  rcases h with h | ⟨g, o, cap, hv, hc, h⟩
  · exact .inl h
  · refine .inr ⟨g, o, cap, hv, hc, fun j x hx => ?_⟩
    have hj := h j x hx
    have hg : ¬ G g := by
      rcases hn _ _ _ hv with h0 | h0
      · have := (List.getElem?_eq_some_iff.1 hx).1; omega
      · exact h0
    rw [World.cell?_of_block (w := w) (a := ⟨g, o + j, none⟩) (hk.block g (lt_of_cell hj) hg)]
    exact hj

theorem Own.keepB {G : Nat → Prop} {w w' : World} {B : Nat} {v : Value} {xs : List (BitVec 8)} (h : Own w B v xs) (hk : Keep G w w') (hn : ∀ g, v.ownBlock = some g → ¬ G g) : Own w' B v xs := by
  refine ⟨h.1, ?_⟩
  rcases h.2 with h1 | ⟨g, cap, cur, rfl, hB, hg, rest⟩
  · exact .inl h1
  · refine .inr ⟨g, cap, cur, rfl, hB, ?_, rest⟩
    rw [hk.block g (lt_of_block hg) (hn g rfl)]; exact hg
/-- The slice v holds the bytes xs, in a block from lo on. -/
def Far (w : World) (lo : Nat) (v : Value) (xs : List (BitVec 8)) : Prop := Byts w v xs ∧ ∀ a n c, v = .slice (some a) n c → n = 0 ∨ lo ≤ a.block
theorem Own.far {w : World} {B : Nat} {v : Value} {xs : List (BitVec 8)} (h : Own w B v xs) : Far w B v xs := by
  refine ⟨h.byts, fun a n c e => ?_⟩
  right
  rcases h.2 with ⟨h1, _⟩ | ⟨g, cap, cur, h1, hB, _⟩
  · rw [h1] at e; cases e
  · rw [h1] at e; cases e; exact hB
theorem Far.keep {G : Nat → Prop} {w w' : World} {lo : Nat} {v : Value} {xs : List (BitVec 8)} (h : Far w lo v xs) (hk : Keep G w w') (hG : ∀ g, G g → g < lo) : Far w' lo v xs :=
  ⟨h.1.keep hk fun a n c e => (h.2 a n c e).imp id fun h1 h2 => by have := hG _ h2; omega, h.2⟩
theorem Far.below {w w' : World} {lo : Nat} {v : Value} {xs : List (BitVec 8)} (h : Far w lo v xs) (hb : Below w.heap.size w w') : Far w' lo v xs := ⟨h.1.below hb, h.2⟩
end Go.Proofs.YtekackglcapppaaGreatDoor
/-
  bytes.Clone by contract.
-/
namespace Go.Proofs.YtekackglcapppaaGreatDoor
open Go.RowKit

theorem clone_any (v : Value) (xs : List (BitVec 8)) (w : World) (hv : Byts w v xs) (hl : xs.length ≤ 1000000) :
    Calls Tryz.prog 33 #[v] w fun e w' => ∃ r, e = .returned r ∧ Own w' w.heap.size r xs ∧ Below w.heap.size w w' := by
  have HV := Lib.hid hv
  have HL := Lib.hid hl
  have hq := fun (w : World) (a : Option Addr) (n c n' c' : Nat) => Lib.run_eql_slice_nil (P := Tryz.prog) w 22 _ a n c n' c' Tryz.underlying22
  rcases show v = .slice none 0 0 ∨ ∃ a n c, v = .slice (some a) n c by
    rcases hv with ⟨_, h | ⟨a, c, h⟩⟩ | ⟨g, o, cap, h, _⟩
    · exact .inl h
    · exact .inr ⟨_, _, _, h⟩
    · exact .inr ⟨_, _, _, h⟩ with rfl | ⟨a, n, c, rfl⟩
  · have HX := Lib.hid (show xs = [] by
      obtain ⟨a, c, e⟩ := hv.len
      simp only [Value.slice.injEq] at e
      exact List.length_eq_zero_iff.1 e.2.1.symm)
    clear hv hl
    go_enter Tryz.func33, Tryz.ntmps33
    go_wp2_with fail
    go_ret
    exact ⟨_, rfl, by rw [HX.out]; exact World.ownsRow_nil w _ 5 1, Below.refl _ w⟩
  · clear hv hl
    have HB := Lib.hid (below_alloc (Below.refl _ w) (.cells #[] 5))
    have HO := Lib.hid (own_lit w w.heap.size [] (Nat.le_refl _) (by unfold maxLen; simp))
    have HV1 := Lib.hid (HV.out.below HB.out)
    have hsz := HB.out.size
    have HLL := Lib.hid (show ([] : List (BitVec 8)).length + xs.length ≤ 140737488355328 by have := HL.out; simp; omega)
    go_enter Tryz.func33, Tryz.ntmps33
    go_wp2_with (at_builtin; refine wpList_app rfl _ _ rfl w.heap.size _ [] rfl HO.out _ xs rfl HV1.out HLL.out hsz ?_; intro v1 w2 hown1 hg1; have HO1 := Lib.hid hown1; have HB2 := Lib.hid (HO.out.grown HB.out hg1); clear hown1 hg1 HO HB HV1 hsz)
    go_ret
    exact ⟨_, rfl, by simpa using HO1.out, HB2.out⟩
end Go.Proofs.YtekackglcapppaaGreatDoor
/-
  b[:k] of a slice of bytes.
-/
namespace Go.Proofs.YtekackglcapppaaGreatDoor
open Go.RowKit

/-- b[:k]. -/
theorem cutL {w : World} {v : Value} {xs : List (BitVec 8)} (h : Byts w v xs) (k : Nat) (hk : k ≤ xs.length) : ∃ v1,
    (∀ w', (Instr.slice 22 v none (some (.int .i64 (k : Int))) none).run Tryz.prog w' = .ok v1 w') ∧ Byts w v1 (xs.take k) := by
  have hu : Tryz.prog.underlying 22 = some (.slice (Tryz.prog.elem 22)) := by rw [elemB]; exact Tryz.underlying22
  rcases h with ⟨rfl, rfl | ⟨a, c, rfl⟩⟩ | ⟨g, o, cap, rfl, hc, h⟩
  · obtain rfl : k = 0 := by simpa using hk
    refine ⟨.slice none 0 0, fun w' => ?_, .inl ⟨rfl, .inl rfl⟩⟩
    rw [run_slice_h _ _ _ _ _ hu _ _ (by simp) (by simp), elemB, sizeU8]; rfl
  · obtain rfl : k = 0 := by simpa using hk
    refine ⟨.slice (some a) 0 c, fun w' => ?_, .inl ⟨rfl, .inr ⟨a, c, rfl⟩⟩⟩
    rw [run_slice_h _ _ _ _ _ hu _ _ (by simp) (by simp), elemB, sizeU8]
    simp [Result.andThen, sliced, add_zero]
  · refine ⟨.slice (some ⟨g, o, none⟩) k cap, fun w' => ?_, Byts.take h hc k hk⟩
    rw [run_slice_h _ _ _ _ _ hu _ _ (by omega) (by omega), elemB, sizeU8]
    simp [Result.andThen, sliced, add_zero]
end Go.Proofs.YtekackglcapppaaGreatDoor
/-
  Bytes of a constant: the conversion, and what is appended behind them (new memory). No word of any layer.
-/
namespace Go.Proofs.YtekackglcapppaaGreatDoor
open Go.RowKit

/-- The bytes of a constant bear a mark behind the last one. -/
theorem conv_mark (w : World) (C : Array Value) (n : Nat) (h : C.size = n := by rfl) : (convert 22 22 (.slice (some ⟨w.heap.size, 0, none⟩) n n)).run Tryz.prog (w.alloc (.cells C 5)) = .ok (.slice (some ⟨w.heap.size, 0, none⟩) n n) (w.alloc (.cells C 5 (n, n + 1))) := by
  subst h
  exact Lib.run_convert_bytes_const w 22 5 C _ _ Tryz.underlying22 Tryz.underlying5
theorem Byts.cells_of {w : World} {a : Addr} {n c : Nat} {xs : List (BitVec 8)} (h : Byts w (.slice (some a) n c) xs) : ∀ (j : Nat) u, (xs.map cel)[j]? = some u → w.cell? (a.add j) = some u := by
  intro j u hu
  rw [List.getElem?_map] at hu
  cases hx : xs[j]? with
  | none => rw [hx] at hu; cases hu
  | some x =>
    rw [hx] at hu
    cases hu
    rcases h with ⟨rfl, _⟩ | ⟨g, o, cap, hv, _, h⟩
    · simp at hx
    · simp only [Value.slice.injEq, Option.some.injEq] at hv
      rw [hv.1, plain_add]
      exact h j x hx
/-- append to a slice without room: new memory. -/
theorem wpList_appG {w : World} {ops : Array Oper} {rest : List Oper} {o : Oper} {a : Act} {Q : Exit → Act → World → Prop} (hgd : o.guard = none) (s x : Operand)
    (ho : o.op = .call { callee := .builtin .append, args := #[s, x], argTypes := #[22, 22] })
    (ad : Addr) (n : Nat) (xs : List (BitVec 8)) (hs : a.eval s = .slice (some ad) n n) (hn : xs.length = n) (hv : Byts w (.slice (some ad) n n) xs)
    (bd : Addr) (m c : Nat) (ys : List (BitVec 8)) (hx : a.eval x = .slice (some bd) m c) (hm : ys.length = m) (hu : Byts w (.slice (some bd) m c) ys)
    (hl : 0 < m ∧ n + m ≤ 1000000)
    (h : ∀ v' w', Own w' w.heap.size v' (xs ++ ys) → Below w.heap.size w w' → wpList Tryz.prog ops Q rest (a.put o.dst v') w') : wpList Tryz.prog ops Q (o :: rest) a w := by
  obtain ⟨i0, hi, hz0, hz1, hz2⟩ := info_parts infoU8
  refine wpList_append_grows w hgd s x 22 ho 5 i0 (.int .u8 0) 1 1 Tryz.underlying22 hi hz0 hz1 hz2 rfl (by decide) (some ad) n n (xs.map cel) hs (fun h => by cases h) (by simp [hn]) (fun b hb j u hj => by cases hb; exact hv.cells_of j u hj) bd m c (ys.map cel) hx (by simp [hm]) hu.cells_of (cel_one ys) (by omega) (by unfold maxLen; omega) (by omega) ?_
  intro v' w' hown hg
  refine h v' w' ?_ ((Below.refl _ w).grown hg (Nat.le_refl _) (fun k hk => by cases hk))
  unfold Own
  rw [List.length_append, List.map_append, hn, hm]
  exact hown
end Go.Proofs.YtekackglcapppaaGreatDoor
/-
  Two rows of bytes are the same just when their texts are.
-/
namespace Go.Proofs.YtekackglcapppaaGreatDoor
open Go.RowKit

theorem txt_inj {xs ys : List (BitVec 8)} (h : txt xs = txt ys) : xs = ys := by
  have h1 := congrArg (fun s => s.data.toList) h
  simp only [txt, strOfNums_data, List.map_map] at h1
  refine (List.map_inj_right ?_).1 h1
  intro x y hxy
  have h2 := congrArg UInt8.toNat hxy
  simp at h2
  have := x.isLt
  have := y.isLt
  exact BitVec.eq_of_toNat_eq (by omega)
theorem txt_same (xs : List (BitVec 8)) : ((txt xs).toList == (txt xs).toList) = true := by simp
theorem txt_other {xs ys : List (BitVec 8)} (h : xs ≠ ys) : ((txt xs).toList == (txt ys).toList) = false := by
  rw [← beq_toListBytes]
  cases hb : (txt xs == txt ys) with
  | false => rfl
  | true => exact absurd (txt_inj ((Go.MapKept.bytes_beq _ _).1 hb)) h
end Go.Proofs.YtekackglcapppaaGreatDoor

/-
  Rest of pair, and Step, by contracts that tell what comes of it.
-/
import Derived.Test.YteknfjnfaedebaaPrStep
namespace Go.Proofs.Yteknfjnfaedebaa
open Go.RowKit

/-- A pair of the call's own, boxed. -/
theorem box3 (w : World) (l s : Int) (j : Bool) : Blk (w.alloc (.cells #[.int .i64 l, .int .i64 s, .bool j] 29)) w.heap.size #[.int .i64 l, .int .i64 s, .bool j] 29 := blk_new w _ _
theorem rest_any (l s : Int) (j : Bool) (w : World) : Calls Try.prog 15 #[.agg #[.int .i64 l, .int .i64 s, .bool j]] w fun e w' => e = .returned (.bool (decide (l % 4 = 0) && !j)) ∧ Below w.heap.size w w' := by
  have HB := Lib.hid (below_alloc (Below.refl _ w) (.cells #[.int .i64 l, .int .i64 s, .bool j] 29))
  obtain ⟨x0, x1, x2⟩ := (box3 w l s j).three
  have h3 := and3 l
  obtain ⟨y, hy⟩ : ∃ y, y = l % 4 := ⟨_, rfl⟩
  rw [← hy] at h3 ⊢
  clear hy
  by_cases h0 : y = 0
  · subst h0
    go_enter Try.func15, Try.ntmps15
    go_wp2_with fail
    go_ret
    exact ⟨by simp, HB.out⟩
  · have q0 : (y == 0) = false := by simp [h0]
    rw [decide_eq_false h0]
    clear h0
    go_enter Try.func15, Try.ntmps15
    go_wp2_with fail
    go_ret
    exact ⟨by simp, HB.out⟩
/-- The same, with what comes of it told. -/
theorem rest_to (l s : Int) (j : Bool) (r : Bool) (hr : (decide (l % 4 = 0) && !j) = r) (w : World) : Calls Try.prog 15 #[.agg #[.int .i64 l, .int .i64 s, .bool j]] w fun e w' => e = .returned (.bool r) ∧ Below w.heap.size w w' := by
  rw [← hr]; exact rest_any l s j w
theorem step_to (l s : Int) (j : Bool) (m l' s' : Int) (j' : Bool) (h : stp ⟨l, s, j⟩ m = ⟨l', s', j'⟩) (hs : PosR s) (w : World) : Calls Try.prog 11 #[.agg #[.int .i64 l, .int .i64 s, .bool j], .int .i64 m] w fun e w' => e = .returned (.agg #[.int .i64 l', .int .i64 s', .bool j']) ∧ Below w.heap.size w w' := by
  have := step_any l s j m w hs
  rw [h] at this
  exact this
/-- A pair's block, stored into whole. -/
theorem Blk.put3 {w : World} {g : Nat} {c0 c1 c2 : Value} {T : TypeId} (h : Blk w g #[c0, c1, c2] T) (u0 u1 u2 : Value) : Blk (((w.setCell ⟨g, 0, none⟩ u0).setCell ⟨g, 1, none⟩ u1).setCell ⟨g, 2, none⟩ u2) g #[u0, u1, u2] T := ((h.set_ 0 u0).set_ 1 u1).set_ 2 u2
theorem Blk.far3 {w : World} {g : Nat} {C : Array Value} {T : TypeId} (h : Blk w g C T) {b : Nat} (hb : g ≠ b) (u0 u1 u2 : Value) : Blk (((w.setCell ⟨b, 0, none⟩ u0).setCell ⟨b, 1, none⟩ u1).setCell ⟨b, 2, none⟩ u2) g C T := ((h.far b 0 u0 hb).far b 1 u1 hb).far b 2 u2 hb
theorem bel_put3 {w0 w : World} (h : Below w0.heap.size w0 w) {b : Nat} (hb : w0.heap.size ≤ b) (u0 u1 u2 : Value) : Below w0.heap.size w0 (((w.setCell ⟨b, 0, none⟩ u0).setCell ⟨b, 1, none⟩ u1).setCell ⟨b, 2, none⟩ u2) := bel_set (bel_set (bel_set h hb 0 u0) hb 1 u1) hb 2 u2
theorem Keep.put3 {F : Nat → Prop} {w : World} {b : Nat} (hb : F b) (u0 u1 u2 : Value) : Keep F w (((w.setCell ⟨b, 0, none⟩ u0).setCell ⟨b, 1, none⟩ u1).setCell ⟨b, 2, none⟩ u2) := (((Keep.refl F w).store b 0 u0 hb).store b 1 u1 hb).store b 2 u2 hb
end Go.Proofs.Yteknfjnfaedebaa

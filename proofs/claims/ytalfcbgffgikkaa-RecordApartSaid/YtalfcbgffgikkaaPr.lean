/-
  Print of record, told by whether there are bytes: true is answered, and nothing older changes. Conditions: none.
-/
import Derived.Test.YtalfcbgffgikkaaSmall
namespace Go.Proofs.Ytalfcbgffgikkaa
open Go.RowKit

theorem pr_yes (r : Rc) (p wr j : Int) (hr : r = ⟨p, wr, j⟩) (h : rcok r = true) (W : World) : Calls Try.prog 12 #[.agg #[.int .i64 p, .int .i64 wr, .int .i64 j]] W fun e w' => ∃ a c, e = .returned (.slice a 3 c) ∧ Byts w' (.slice a 3 c) (rcpr r) ∧ Below W.heap.size W w' := by
  refine (rcprint_to r p wr j hr W).mono ?_
  rintro e w1 ⟨v, rfl, hv, hb⟩
  obtain ⟨a, c, ev⟩ := hv.len
  rw [rcpr_len, if_pos h] at ev
  subst ev
  exact ⟨a, c, rfl, hv, hb⟩
theorem pr_no (r : Rc) (p wr j : Int) (hr : r = ⟨p, wr, j⟩) (h : rcok r = false) (W : World) : Calls Try.prog 12 #[.agg #[.int .i64 p, .int .i64 wr, .int .i64 j]] W fun e w' => ∃ a c, e = .returned (.slice a 0 c) ∧ Byts w' (.slice a 0 c) (rcpr r) ∧ Below W.heap.size W w' := by
  refine (rcprint_to r p wr j hr W).mono ?_
  rintro e w1 ⟨v, rfl, hv, hb⟩
  obtain ⟨a, c, ev⟩ := hv.len
  rw [rcpr_len, if_neg (by rw [h]; simp)] at ev
  subst ev
  exact ⟨a, c, rfl, hv, hb⟩
end Go.Proofs.Ytalfcbgffgikkaa

/-
  Enter by a contract.
-/
import Derived.Test.YtalfcbgffgikkaaBlk
import Derived.Test.YtalfcbgffgikkaaPhMath
namespace Go.Proofs.Ytalfcbgffgikkaa
open Go.RowKit

theorem enter_to (p q : Int) (hq : q = if 0 ≤ p ∧ p ≤ 7 then p else 7) (w : World) : Calls Try.prog 14 #[.int .i64 p] w fun e w' => e = .returned (.agg #[.int .i64 q, .int .i64 1]) ∧ Below w.heap.size w w' := by
  have HB := Lib.hid (fun u : Value => below_alloc (Below.refl _ w) (.cells #[u, .int .i64 1] 23))
  have HZ := blk_new w #[.int .i64 0, .int .i64 0] 23
  obtain ⟨z0, z1⟩ := box2 HZ
  have z2 := HZ.frz 0
  have z3 := HZ.frz 1
  clear HZ
  rcases (show (p < 0 ∧ q = 7) ∨ (¬ p < 0 ∧ 7 < p ∧ q = 7) ∨ (¬ p < 0 ∧ ¬ 7 < p ∧ q = p) by split at hq <;> omega) with ⟨h1, rfl⟩ | ⟨h1, h2, rfl⟩ | ⟨h1, h2, rfl⟩
  all_goals
    clear hq
    go_enter Try.func14, Try.ntmps14
    go_wp2_with fail
    (try simp only [Exit.inBlock, Exit.then])
    refine bodyPost_ret ?_ rfl ⟨rfl, HB.out _⟩
    rw [results_cell1 rfl]
    go_simp
end Go.Proofs.Ytalfcbgffgikkaa

/-
  has and begin of policy by contracts.
-/
import Derived.Test.YtalfcbgffgikkaaPoBits
import Derived.Test.YtalfcbgffgikkaaBlk
namespace Go.Proofs.Ytalfcbgffgikkaa
open Go.RowKit

theorem has_to (x : Int) (k : Nat) (hk : k ≤ 64) (q : Bool) (hq : pobit x k = q) (w : World) : Calls Try.prog 21 #[.int .i64 x, .int .i64 (k : Int)] w fun e w' => e = .returned (.bool q) ∧ w' = w := by
  have hs := po_shr x k hk .i64
  obtain ⟨y, hy⟩ : ∃ y, x / 2 ^ k = y := ⟨_, rfl⟩
  have ha := po_one y
  unfold pobit at hq
  rw [hy] at hs hq
  subst hq
  clear hy hk
  go_enter Try.func21, Try.ntmps21
  go_wp2_with fail
  go_ret
  exact ⟨rfl, rfl⟩
/-- The phase that begins again behind p. -/
def pobeg (p : Int) : Int := if 0 ≤ p ∧ p ≤ 6 then (if p = 0 then 6 else p) else 3
theorem begin_to (p q : Int) (hq : pobeg p = q) (w : World) : Calls Try.prog 22 #[.int .i64 p] w fun e w' => e = .returned (.int .i64 q) ∧ w' = w := by
  unfold pobeg at hq
  rcases (show (p < 0 ∧ q = 3) ∨ (¬ p < 0 ∧ 6 < p ∧ q = 3) ∨ (p = 0 ∧ q = 6) ∨ (¬ p < 0 ∧ ¬ 6 < p ∧ ¬ p = 0 ∧ q = p) by split at hq <;> (try split at hq) <;> omega) with ⟨h1, rfl⟩ | ⟨h1, h2, rfl⟩ | ⟨rfl, rfl⟩ | ⟨h1, h2, h3, rfl⟩
  all_goals
    try have e0 : (q == 0) = false := by simpa using h3
    clear hq
    go_enter Try.func22, Try.ntmps22
    go_wp2_with fail
    go_ret
    exact ⟨rfl, rfl⟩
end Go.Proofs.Ytalfcbgffgikkaa

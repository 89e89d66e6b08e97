/-
  Which telegrams are encoded: frame.fits, by contract.
-/
import Derived.Test.YtdgehinmkbhjlaaDoorCrcRopen
import Derived.Test.YtdgehinmkbhjlaaDoorErrs
namespace Go.Proofs.YtdgehinmkbhjlaaDoor
open Go.RowKit

/-- A telegram's numbers are within the limits. -/
def Fit (c q : Int) (n : Nat) : Prop := 0 ≤ c ∧ c ≤ 15 ∧ 0 ≤ q ∧ q ≤ 255 ∧ n ≤ 16
instance (c q : Int) (n : Nat) : Decidable (Fit c q n) := by unfold Fit; infer_instance

theorem fits_yes (c q : Int) (a : Option Addr) (n cap : Nat) (w : World) (h : Fit c q n) :
    Calls Tryd.prog 17 #[.agg #[.int .i64 c, .int .i64 q, .slice a n cap]] w fun e w' => e = .returned (.bool true) ∧ Below w.heap.size w w' := by
  obtain ⟨h1, h2, h3, h4, h5⟩ := h
  have q1 : decide (0 ≤ c) = true := decide_eq_true h1
  have q2 : decide (c ≤ 15) = true := decide_eq_true h2
  have q3 : decide (0 ≤ q) = true := decide_eq_true h3
  have q4 : decide (q ≤ 255) = true := decide_eq_true h4
  have q5 : decide ((n : Int) ≤ 16) = true := decide_eq_true (by omega)
  clear h1 h2 h3 h4 h5
  go_enter Tryd.func17, Tryd.ntmps17
  go_wp2_with fail
  go_ret
  exact ⟨rfl, below_alloc (Below.refl _ w) _⟩
theorem fits_no (c q : Int) (a : Option Addr) (n cap : Nat) (w : World) (h : ¬ Fit c q n) :
    Calls Tryd.prog 17 #[.agg #[.int .i64 c, .int .i64 q, .slice a n cap]] w fun e w' => e = .returned (.bool false) ∧ Below w.heap.size w w' := by
  have HF := Lib.hid h
  clear h
  by_cases h1 : 0 ≤ c
  · have q1 : decide (0 ≤ c) = true := decide_eq_true h1
    by_cases h2 : c ≤ 15
    · have q2 : decide (c ≤ 15) = true := decide_eq_true h2
      by_cases h3 : 0 ≤ q
      · have q3 : decide (0 ≤ q) = true := decide_eq_true h3
        by_cases h4 : q ≤ 255
        · have q4 : decide (q ≤ 255) = true := decide_eq_true h4
          have q5 : decide ((n : Int) ≤ 16) = false := decide_eq_false fun h5 => HF.out ⟨h1, h2, h3, h4, by omega⟩
          clear h1 h2 h3 h4
          go_enter Tryd.func17, Tryd.ntmps17
          go_wp2_with fail
          go_ret
          exact ⟨rfl, below_alloc (Below.refl _ w) _⟩
        · have q4 : decide (q ≤ 255) = false := decide_eq_false h4
          clear h1 h2 h3 h4
          go_enter Tryd.func17, Tryd.ntmps17
          go_wp2_with fail
          go_ret
          exact ⟨rfl, below_alloc (Below.refl _ w) _⟩
      · have q3 : decide (0 ≤ q) = false := decide_eq_false h3
        clear h1 h2 h3
        go_enter Tryd.func17, Tryd.ntmps17
        go_wp2_with fail
        go_ret
        exact ⟨rfl, below_alloc (Below.refl _ w) _⟩
    · have q2 : decide (c ≤ 15) = false := decide_eq_false h2
      clear h1 h2
      go_enter Tryd.func17, Tryd.ntmps17
      go_wp2_with fail
      go_ret
      exact ⟨rfl, below_alloc (Below.refl _ w) _⟩
  · have q1 : decide (0 ≤ c) = false := decide_eq_false h1
    clear h1
    go_enter Tryd.func17, Tryd.ntmps17
    go_wp2_with fail
    go_ret
    exact ⟨rfl, below_alloc (Below.refl _ w) _⟩
end Go.Proofs.YtdgehinmkbhjlaaDoor

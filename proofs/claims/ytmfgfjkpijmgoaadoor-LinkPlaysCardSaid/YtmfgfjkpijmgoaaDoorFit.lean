/-
  Which numbers a telegram may have.
-/
import Derived.WalkKit
import Derived.Test.YtmfgfjkpijmgoaaDoorCrcMath
namespace Go.Proofs.YtmfgfjkpijmgoaaDoor
open Go.RowKit


/-- A telegram's numbers are within the limits. -/
def Fit (c q : Int) (n : Nat) : Prop := 0 ≤ c ∧ c ≤ 15 ∧ 0 ≤ q ∧ q ≤ 255 ∧ n ≤ 16
instance (c q : Int) (n : Nat) : Decidable (Fit c q n) := by unfold Fit; infer_instance

end Go.Proofs.YtmfgfjkpijmgoaaDoor

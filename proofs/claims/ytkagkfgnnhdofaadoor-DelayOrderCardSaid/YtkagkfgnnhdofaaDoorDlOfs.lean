/-
  What a line's trains may wait: plain mathematics.
-/
import Derived.Test.YtkagkfgnnhdofaaDoorDlMath
import Derived.Test.YtkagkfgnnhdofaaDoorCfA
namespace Go.Proofs.YtkagkfgnnhdofaaDoor
open Go.RowKit

/-- What a line's trains may wait. -/
def ofs (l : Ln) (warn : Int) (j : Nat) : Int := spr l.k (spd l j) warn
end Go.Proofs.YtkagkfgnnhdofaaDoor

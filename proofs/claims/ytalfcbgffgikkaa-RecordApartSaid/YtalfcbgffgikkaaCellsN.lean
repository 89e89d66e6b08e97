/-
  How many cells a number and a truth take.
-/
import Derived.Test.YtalfcbgffgikkaaElg
import Derived.Test.YtalfcbgffgikkaaKeep
import Derived.OpenShut
namespace Go.Proofs.Ytalfcbgffgikkaa
open Go.ChangeShapes Go.WideShapes Go.ChangeAt Go.RowKit Go.Joins

theorem cells_int : Try.prog.cellsOf 3 = 1 := by kernel_rfl
theorem cells_bool : Try.prog.cellsOf 4 = 1 := by kernel_rfl
end Go.Proofs.Ytalfcbgffgikkaa

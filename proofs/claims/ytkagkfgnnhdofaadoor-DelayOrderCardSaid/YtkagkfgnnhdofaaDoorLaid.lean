/-
  A world for the witnesses, where errors.errorType is listed: its cell laid.
-/
import Derived.Test.YtkagkfgnnhdofaaDoorCards
import Derived.Test.YtkagkfgnnhdofaaDoorTie
import Derived.Test.YtkagkfgnnhdofaaDoorOpen
import Derived.Deep.DeepHandedRow
import Derived.LaidHandle
import Derived.Stop.Joined
import Derived.Lib.LaidTab
namespace Go.Proofs.YtkagkfgnnhdofaaDoor
open Go.ChangeShapes Go.WideShapes Go.ChangeAt Go.RowKit

/-- A world for the witnesses: the settled one, the listed variable's cell laid. -/
noncomputable def laidWorld (os : Os) : World :=
  { World.holding Tryd.prog os ⟨#[], #[], []⟩ with heap := ((World.holding Tryd.prog os ⟨#[], #[], []⟩).heap.modify 0 fun
      | .cells _ t frozen => .cells #[.iface 85 (.agg #[.pointer (some ⟨1, 24, none⟩)])] t frozen
      | o => o) }
end Go.Proofs.YtkagkfgnnhdofaaDoor

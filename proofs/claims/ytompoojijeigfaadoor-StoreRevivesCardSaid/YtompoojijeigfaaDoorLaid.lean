/-
  A world for the witnesses, where errors.errorType is listed: its cell laid.
-/
import Derived.Test.YtompoojijeigfaaDoorCards
import Derived.Test.YtompoojijeigfaaDoorTie
import Derived.Test.YtompoojijeigfaaDoorOpen
import Derived.Deep.DeepHandedRow
import Derived.LaidHandle
import Derived.Stop.Joined
import Derived.Lib.LaidTab
namespace Go.Proofs.YtompoojijeigfaaDoor
open Go.ChangeShapes Go.WideShapes Go.ChangeAt Go.RowKit

/-- A world for the witnesses: the settled one, the listed variable's cell laid. -/
noncomputable def laidWorld (os : Os) : World :=
  { World.holding Tryd.prog os ⟨#[], #[], []⟩ with heap := ((World.holding Tryd.prog os ⟨#[], #[], []⟩).heap.modify 1 fun
      | .cells _ t frozen => .cells #[.iface 75 (.agg #[.pointer (some ⟨2, 27, none⟩)])] t frozen
      | o => o) }
end Go.Proofs.YtompoojijeigfaaDoor

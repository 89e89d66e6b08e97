/-
  A world for the witnesses, where errors.errorType is listed: its cell laid.
-/
import Derived.Test.YtekackglcapppaaGreatDoorCards
import Derived.Test.YtekackglcapppaaGreatDoorTie
import Derived.Deep.DeepHandedRow
import Derived.LaidHandle
import Derived.Stop.Joined
import Derived.Lib.LaidTab
import Derived.Test.YtekackglcapppaaGreatDoorOpen

namespace Go.Proofs.YtekackglcapppaaGreatDoor
open Go.ChangeShapes Go.WideShapes Go.ChangeAt Go.RowKit

/-- A world for the witnesses: the settled one, the listed variable's cell laid. -/
noncomputable def laidWorld (os : Os) : World :=
  { World.holding Tryz.prog os ⟨#[], #[], []⟩ with heap := ((World.holding Tryz.prog os ⟨#[], #[], []⟩).heap.modify 0 fun
      | .cells _ t frozen => .cells #[.iface 115 (.agg #[.pointer (some ⟨2, 39, none⟩)])] t frozen
      | o => o) }
end Go.Proofs.YtekackglcapppaaGreatDoor

/-
  A world for the witnesses, where errors.errorType is listed: its cell laid.
-/
import Derived.Test.YtekackglcapppaaDoorCards
import Derived.Test.YtekackglcapppaaDoorTie
import Derived.Deep.DeepHandedRow
import Derived.LaidHandle
import Derived.Stop.Joined
import Derived.Lib.LaidTab
import Derived.Test.YtekackglcapppaaDoorOpen

namespace Go.Proofs.YtekackglcapppaaDoor
open Go.ChangeShapes Go.WideShapes Go.ChangeAt Go.RowKit

/-- A world for the witnesses: the settled one, the listed variable's cell laid. -/
noncomputable def laidWorld (os : Os) : World :=
  { World.holding Tryd.prog os ⟨#[], #[], []⟩ with heap := ((World.holding Tryd.prog os ⟨#[], #[], []⟩).heap.modify 1 fun
      | .cells _ t frozen => .cells #[.iface 99 (.agg #[.pointer (some ⟨2, 36, none⟩)])] t frozen
      | o => o) }
end Go.Proofs.YtekackglcapppaaDoor

/-
  A row of what a signal may show.
-/
import Derived.Test.YtdgaaikmhbppeaaSmall
import Derived.Test.YtdgaaikmhbppeaaBools
namespace Go.Proofs.Ytdgaaikmhbppeaa

/-- What is said at i. -/
def sais (ls : List Bool) (i : Nat) : Bool := (ls[i]?).getD false
theorem sais_at {ls : List Bool} {i : Nat} {y : Bool} (h : ls[i]? = some y) : sais ls i = y := by simp [sais, h]
end Go.Proofs.Ytdgaaikmhbppeaa

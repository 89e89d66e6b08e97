/-
  What is told of a track, as numbers.
-/
import Derived.Test.YtgkihalokedmaaaCore
namespace Go.Proofs.Ytgkihalokedmaaa

/-- What is told of a track. -/
structure Ct where
  fr : Bool
  i : Int
  o : Int
  cs : Int
  l : Int
end Go.Proofs.Ytgkihalokedmaaa

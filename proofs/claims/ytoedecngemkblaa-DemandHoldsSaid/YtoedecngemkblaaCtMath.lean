/-
  What is told of a track, as numbers.
-/
import Derived.Test.YtoedecngemkblaaCore
namespace Go.Proofs.Ytoedecngemkblaa

/-- What is told of a track. -/
structure Ct where
  fr : Bool
  i : Int
  o : Int
  cs : Int
  l : Int
end Go.Proofs.Ytoedecngemkblaa

/-
  A track, cell by cell. No type of the program is named.
-/
import Derived.Test.YtalfcbgffgikkaaCore
namespace Go.Proofs.Ytalfcbgffgikkaa

/-- A track, cell by cell. -/
structure Tk where
  h : Bool
  i : Int
  o : Int
  g : Bool
  l : Int
  s : Int
  j : Bool
  cl : Bool
  n : Int
  f : Bool
  c : Bool
end Go.Proofs.Ytalfcbgffgikkaa

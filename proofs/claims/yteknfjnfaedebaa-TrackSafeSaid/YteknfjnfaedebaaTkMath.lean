/-
  Tracks as numbers: one step.
-/
import Derived.Test.YteknfjnfaedebaaPrMath
import Derived.Test.YteknfjnfaedebaaAxMath
namespace Go.Proofs.Yteknfjnfaedebaa
open Go.RowKit

/-- A track, cell by cell. -/
structure Tk where
  h : Bool
  i : Int
  o : Int
  g : Bool
  l : Int
  s : Int
  j : Bool
  cl : Bool
  n : Int
  f : Bool
  c : Bool
/-- What is told of it. -/
structure Ct where
  fr : Bool
  i : Int
  o : Int
  cs : Int
  l : Int
/-- How long it is taken, one tick later. -/
def lng (n : Int) : Int := min (max n 0) 1073741823 + 1
/-- The delay of a class. -/
def wtt (a b c k : Int) : Int := if k = 0 then a else if k = 1 then b else if k = 2 then c else 0
/-- The counters ahead of a reset. -/
def ax1 (t : Tk) (c : Ct) : Ax := if c.fr then stx ⟨t.h, t.i, t.o, t.g⟩ c.i c.o else ⟨t.h, t.i, t.o, t.g⟩
/-- The treadles ahead of a reset. -/
def pr1 (t : Tk) (c : Ct) : Pr := if c.fr then stp ⟨t.l, t.s, t.j⟩ c.l else ⟨t.l, t.s, t.j⟩
/-- The counters behind it. -/
def ax2 (a : Ax) (rs : Bool) : Ax := if rs then ⟨a.had, a.i, a.o, rst a.i a.o a.wrong⟩ else a
/-- The treadles behind it. -/
def pr2 (p : Pr) (rs : Bool) : Pr := if rs then ⟨p.lie, p.pos, p.jump && !decide (p.lie % 4 = 0)⟩ else p
/-- What is told behind all that. -/
def tk3 (a : Ax) (p : Pr) (fr : Bool) (n wt : Int) : Tk :=
  let f := !fr || a.wrong || p.jump
  let cl := !f && clr a.had a.i a.o a.wrong && decide (p.lie % 4 = 0)
  let n' := if cl then 0 else lng n
  ⟨a.had, a.i, a.o, a.wrong, p.lie, p.pos, p.jump, cl, n', f, !cl && (f || decide (wt < n'))⟩
/-- The track one tick later. -/
def tks (t : Tk) (c : Ct) (d0 d1 d2 : Int) (rs : Bool) : Tk := tk3 (ax2 (ax1 t c) rs) (pr2 (pr1 t c) rs) c.fr t.n (wtt d0 d1 d2 c.cs)
theorem lng_range (n : Int) : 1 ≤ lng n ∧ lng n ≤ 1073741824 := by unfold lng; omega
theorem tks_posR {t : Tk} (c : Ct) (d0 d1 d2 : Int) (rs : Bool) (h : PosR t.s) : PosR (tks t c d0 d1 d2 rs).s := by
  show PosR (pr2 (pr1 t c) rs).pos
  unfold pr2 pr1
  cases rs <;> cases c.fr <;> first | exact h | exact stp_range (p := ⟨t.l, t.s, t.j⟩) _ h
end Go.Proofs.Yteknfjnfaedebaa

/-
  Whether the road is to be closed, as plain data.
-/
import Derived.Test.YtgkihalokedmaaaTkDat
namespace Go.Proofs.Ytgkihalokedmaaa

/-- Does a track tell a fault? -/
def dfault (t : Tk) : Bool := t.f
/-- Does a track ask for a closed road? -/
def dask (op : Bool) (t : Tk) : Bool := t.c || (!op && !t.cl)
/-- Is there one of which p is so? -/
def dany (p : Tk → Bool) (ls : List Tk) : Bool := ls.any p
/-- Is nothing wrong? -/
def dgood (m : Int) (mn l : Bool) (ls : List Tk) : Bool := m != 1 && mn && l && !dany dfault ls
/-- Is the road to be closed? u: is it urgent? -/
def dshut (u : Bool) (r : Int) (ls : List Tk) (lk op : Bool) : Bool := u || lk || r != 0 || dany (dask op) ls
theorem dany_nil (p : Tk → Bool) (ls : List Tk) : dany p (ls.take 0) = false := by simp [dany]
theorem dany_take (p : Tk → Bool) (ls : List Tk) (j : Nat) (y : Tk) (hy : ls[j]? = some y) : dany p (ls.take (j + 1)) = (dany p (ls.take j) || p y) := by
  unfold dany
  rw [List.take_add_one, hy]
  simp
theorem dany_hit {p : Tk → Bool} {ls : List Tk} {j : Nat} {y : Tk} (hy : ls[j]? = some y) (h : p y = true) : dany p ls = true :=
  List.any_eq_true.2 ⟨y, List.mem_of_getElem? hy, h⟩
end Go.Proofs.Ytgkihalokedmaaa

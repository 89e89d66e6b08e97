/-
  A crossing's delays, and its bound: plain mathematics.
-/
import Derived.Test.YtkagkfgnnhdofaaDoorDlOfs
namespace Go.Proofs.YtkagkfgnnhdofaaDoor

/-- Of each line what its trains may wait. -/
def tab (T : Nat → Int) (ls : List Ln) : List (Nat → Int) := ls.map fun l => ofs l (T 9)
theorem tab_length (T : Nat → Int) (ls : List Ln) : (tab T ls).length = ls.length := List.length_map _
theorem tab_at {T : Nat → Int} {ls : List Ln} {j : Nat} {l : Ln} (h : ls[j]? = some l) : (tab T ls)[j]? = some (ofs l (T 9)) := by unfold tab; rw [List.getElem?_map, h]; rfl
/-- Behind how many quiet ticks the road is open. -/
def bnd (T : Nat → Int) : Int := T 8 + 2 * T 7 + T 3 + 8
/-- What may be has numbers that are small. -/
theorem okL_small {l : Ln} (h : OkL l) : Rng l.k := by obtain ⟨h1, h2, h3, _⟩ := h; omega
theorem okC_line {T : Nat → Int} {ls : List Ln} (h : OkC T ls) {j : Nat} {l : Ln} (hj : ls[j]? = some l) : OkL l := h.2.2 l (List.mem_of_getElem? hj)
theorem okC_time {T : Nat → Int} {ls : List Ln} (h : OkC T ls) {i : Nat} (hi : i < 10) : 1 ≤ T i ∧ T i ≤ 6000 := h.2.1 i hi
end Go.Proofs.YtkagkfgnnhdofaaDoor

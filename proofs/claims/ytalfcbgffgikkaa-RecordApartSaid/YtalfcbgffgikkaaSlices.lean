/-
  Slices of one-cell elements among the arguments, of whatever kind.
-/
import Derived.Test.YtalfcbgffgikkaaCore
namespace Go.Proofs.Ytalfcbgffgikkaa
open Go.RowKit

/-- The slice v holds the elements xs, each as f lays it. -/
def Sl {α : Type} (f : α → Value) (w : World) (v : Value) (xs : List α) : Prop :=
  (xs = [] ∧ (v = .slice none 0 0 ∨ ∃ a c, v = .slice (some a) 0 c)) ∨ ∃ g o cap, v = .slice (some ⟨g, o, none⟩) xs.length cap ∧ xs.length ≤ cap ∧ ∀ (j : Nat) x, xs[j]? = some x → w.cell? ⟨g, o + j, none⟩ = some (f x)
theorem Sl.below {α : Type} {f : α → Value} {w w' : World} {v : Value} {xs : List α} (h : Sl f w v xs) (hb : Below w.heap.size w w') : Sl f w' v xs := by
  rcases h with h | ⟨g, o, cap, hv, hc, h⟩
  · exact .inl h
  · refine .inr ⟨g, o, cap, hv, hc, fun j x hx => ?_⟩
    have hj := h j x hx
    rw [hb.cell (p := ⟨g, o + j, none⟩) (lt_of_cell hj)]
    exact hj
theorem Sl.len {α : Type} {f : α → Value} {w : World} {v : Value} {xs : List α} (h : Sl f w v xs) : ∃ a c, v = .slice a xs.length c := by
  rcases h with ⟨h2, h | ⟨a, c, h⟩⟩ | ⟨g, o, cap, hv, _⟩
  · subst h2; exact ⟨_, _, h⟩
  · subst h2; exact ⟨_, _, h⟩
  · exact ⟨_, _, hv⟩
theorem Sl.at_ {α : Type} {f : α → Value} {w : World} {v : Value} {xs : List α} (h : Sl f w v xs) (k : Nat) (hk : k < xs.length) :
    ∃ g o cap x, v = .slice (some ⟨g, o, none⟩) xs.length cap ∧ xs.length ≤ cap ∧ g < w.heap.size ∧ xs[k]? = some x ∧ w.cell? ⟨g, o + k, none⟩ = some (f x) := by
  rcases h with ⟨h, _⟩ | ⟨g, o, cap, hv, hc, h⟩
  · subst h; simp at hk
  · have hx := h k _ (List.getElem?_eq_getElem hk)
    exact ⟨g, o, cap, xs[k], hv, hc, lt_of_cell hx, List.getElem?_eq_getElem hk, hx⟩
end Go.Proofs.Ytalfcbgffgikkaa

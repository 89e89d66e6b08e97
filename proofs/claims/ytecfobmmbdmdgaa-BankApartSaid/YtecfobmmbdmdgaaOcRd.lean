/-
  A reader in memory, and what a call that touches it alone leaves as it was.
-/
import Derived.Test.YtecfobmmbdmdgaaBytes
import Derived.Test.YtecfobmmbdmdgaaOcMath
namespace Go.Proofs.Ytecfobmmbdmdgaa
open Go.RowKit

/-- The slice v holds the bytes xs, in a block from lo on and below L. -/
def Left (w : World) (lo L : Nat) (v : Value) (xs : List (BitVec 8)) : Prop := Byts w v xs ∧ ∀ a n c, v = .slice (some a) n c → n = 0 ∨ (lo ≤ a.block ∧ a.block < L)
theorem Byts.left {w : World} {v : Value} {xs : List (BitVec 8)} (h : Byts w v xs) : Left w 0 w.heap.size v xs := by
  refine ⟨h, fun a n c hv => ?_⟩
  rcases h with ⟨h2, h | ⟨a', c', h⟩⟩ | ⟨g, o, cap, hv', hc, h⟩
  · rw [h] at hv; cases hv
  · rw [h] at hv; cases hv; exact .inl rfl
  · rw [hv'] at hv
    cases hv
    by_cases h0 : xs.length = 0
    · exact .inl h0
    · exact .inr ⟨Nat.zero_le _, lt_of_cell (h 0 _ (List.getElem?_eq_getElem (by omega)))⟩
theorem Own.left {w : World} {B : Nat} {v : Value} {xs : List (BitVec 8)} (h : Own w B v xs) : Left w B w.heap.size v xs := by
  refine ⟨h.byts, fun a n c hv => ?_⟩
  rcases h.byts.left.2 a n c hv with h0 | ⟨_, h0⟩
  · exact .inl h0
  · right
    refine ⟨?_, h0⟩
    rcases h.2 with ⟨h2, hn⟩ | ⟨g, cap, cur, h2, hB, hg, hcap, _⟩
    · rw [h2] at hv; cases hv
    · rw [h2] at hv; cases hv; exact hB
theorem Left.apart {w w' : World} {lo L b : Nat} {v : Value} {xs : List (BitVec 8)} (h : Left w lo L v xs) (ha : Apart b w w') (hL : b < lo ∨ L ≤ b) : Left w' lo L v xs := by
  refine ⟨?_, h.2⟩
  obtain ⟨h, hl⟩ := h
  rcases h with h | ⟨g, o, cap, hv, hc, h⟩
  · exact .inl h
  · refine .inr ⟨g, o, cap, hv, hc, fun j x hx => ?_⟩
    have hj := h j x hx
    have hg : lo ≤ g ∧ g < L := by
      rcases hl _ _ _ hv with h0 | h0
      · have := (List.getElem?_eq_some_iff.1 hx).1; omega
      · exact h0
    rw [World.cell?_of_block (w := w) (a := ⟨g, o + j, none⟩) (ha.block g (lt_of_cell hj) (by omega))]
    exact hj
theorem Left.below {w w' : World} {lo L : Nat} {v : Value} {xs : List (BitVec 8)} (h : Left w lo L v xs) (hb : Below w.heap.size w w') : Left w' lo L v xs := ⟨h.1.below hb, h.2⟩
theorem Left.nil (w : World) (lo L : Nat) : Left w lo L (.slice none 0 0) [] := ⟨byts_nil w, fun a n c h => by cases h⟩

/-- A reader (a block of two cells of type T) at block b: xs are left, in a block from lo on and below L; bad: too few were there once. -/
def Rd (w : World) (T b lo L : Nat) (xs : List (BitVec 8)) (bad : Bool) : Prop := ∃ v, w.heap[b]? = some (.cells #[v, .bool bad] T (0, 0)) ∧ Left w lo L v xs ∧ L ≤ b
theorem Rd.lt {w : World} {T b lo L : Nat} {xs : List (BitVec 8)} {bad : Bool} (h : Rd w T b lo L xs bad) : b < w.heap.size := by
  obtain ⟨v, h, _⟩ := h
  rcases Nat.lt_or_ge b w.heap.size with h1 | h1
  · exact h1
  · rw [Array.getElem?_eq_none h1] at h; cases h
theorem Rd.apart {w w' : World} {T b c lo L : Nat} {xs : List (BitVec 8)} {bad : Bool} (h : Rd w T c lo L xs bad) (ha : Apart b w w') (hn : c ≠ b) (hL : b < lo ∨ L ≤ b) : Rd w' T c lo L xs bad := by
  have hlt := h.lt
  obtain ⟨v, h, hl, hle⟩ := h
  exact ⟨v, by rw [ha.block c hlt hn]; exact h, hl.apart ha hL, hle⟩
theorem Rd.below {w w' : World} {T c lo L : Nat} {xs : List (BitVec 8)} {bad : Bool} (h : Rd w T c lo L xs bad) (hb : Below w.heap.size w w') : Rd w' T c lo L xs bad := by
  have hlt := h.lt
  obtain ⟨v, h, hl, hle⟩ := h
  exact ⟨v, by rw [hb.block c hlt]; exact h, hl.below hb, hle⟩
theorem Rd.cells {w : World} {T b lo L : Nat} {xs : List (BitVec 8)} {bad : Bool} (h : Rd w T b lo L xs bad) :
    ∃ v, w.cell? ⟨b, 0, none⟩ = some v ∧ w.cell? ⟨b, 1, none⟩ = some (.bool bad) ∧ w.frozen? ⟨b, 0, none⟩ = false ∧ w.frozen? ⟨b, 1, none⟩ = false ∧ Left w lo L v xs := by
  obtain ⟨v, h, hl, hle⟩ := h
  refine ⟨v, ?_, ?_, frozen_of_row w b 0 _ _ h, frozen_of_row w b 1 _ _ h, hl⟩
  · rw [cell_of_row w b 0 _ _ _ h]; rfl
  · rw [cell_of_row w b 1 _ _ _ h]; rfl
theorem Rd.le {w : World} {T b lo L : Nat} {xs : List (BitVec 8)} {bad : Bool} (h : Rd w T b lo L xs bad) : L ≤ b := h.choose_spec.2.2
/-- What is stored as left. -/
theorem Rd.setLeft {w : World} {T b lo L : Nat} {xs ys : List (BitVec 8)} {bad : Bool} (h : Rd w T b lo L xs bad) {u : Value} (hu : Left w lo L u ys) : Rd (w.setCell ⟨b, 0, none⟩ u) T b lo L ys bad := by
  obtain ⟨v, h, hl, hle⟩ := h
  refine ⟨u, ?_, hu.apart (Apart.set_ b 0 w u) (.inr hle), hle⟩
  rw [heap_setCell_same w b 0 _ _ u h]
  rfl
theorem Rd.setBad {w : World} {T b lo L : Nat} {xs : List (BitVec 8)} {bad : Bool} (h : Rd w T b lo L xs bad) (c : Bool) : Rd (w.setCell ⟨b, 1, none⟩ (.bool c)) T b lo L xs c := by
  obtain ⟨v, h, hl, hle⟩ := h
  refine ⟨v, ?_, hl.apart (Apart.set_ b 1 w _) (.inr hle), hle⟩
  rw [heap_setCell_same w b 1 _ _ _ h]
  rfl
theorem Rd.made {w : World} (T : Nat) {v : Value} {xs : List (BitVec 8)} (lo L : Nat) (h : Left w lo L v xs) (hL : L ≤ w.heap.size) (bad : Bool) : Rd (w.alloc (.cells #[v, .bool bad] T)) T w.heap.size lo L xs bad :=
  ⟨v, heap_alloc_new w _, h.below (below_alloc (Below.refl _ w) _), hL⟩
end Go.Proofs.Ytecfobmmbdmdgaa

/-
  Bytes where blocks of G alone have changed.
-/
import Derived.Test.YtecfobmmbdmdgaaBytes
import Derived.Test.YtecfobmmbdmdgaaKeep
namespace Go.Proofs.Ytecfobmmbdmdgaa
open Go.RowKit

theorem Byts.keep {G : Nat → Prop} {w w' : World} {v : Value} {xs : List (BitVec 8)} (h : Byts w v xs) (hk : Keep G w w') (hn : ∀ a n c, v = .slice (some a) n c → n = 0 ∨ ¬ G a.block) : Byts w' v xs := by
  rcases h with h | ⟨g, o, cap, hv, hc, h⟩
  · exact .inl h
  · refine .inr ⟨g, o, cap, hv, hc, fun j x hx => ?_⟩
    have hj := h j x hx
    have hg : ¬ G g := by
      rcases hn _ _ _ hv with h0 | h0
      · have := (List.getElem?_eq_some_iff.1 hx).1; omega
      · exact h0
    rw [World.cell?_of_block (w := w) (a := ⟨g, o + j, none⟩) (hk.block g (lt_of_cell hj) hg)]
    exact hj

theorem Own.keepB {G : Nat → Prop} {w w' : World} {B : Nat} {v : Value} {xs : List (BitVec 8)} (h : Own w B v xs) (hk : Keep G w w') (hn : ∀ g, v.ownBlock = some g → ¬ G g) : Own w' B v xs := by
  refine ⟨h.1, ?_⟩
  rcases h.2 with h1 | ⟨g, cap, cur, rfl, hB, hg, rest⟩
  · exact .inl h1
  · refine .inr ⟨g, cap, cur, rfl, hB, ?_, rest⟩
    rw [hk.block g (lt_of_block hg) (hn g rfl)]; exact hg
/-- The slice v holds the bytes xs, in a block from lo on. -/
def Far (w : World) (lo : Nat) (v : Value) (xs : List (BitVec 8)) : Prop := Byts w v xs ∧ ∀ a n c, v = .slice (some a) n c → n = 0 ∨ lo ≤ a.block
theorem Own.far {w : World} {B : Nat} {v : Value} {xs : List (BitVec 8)} (h : Own w B v xs) : Far w B v xs := by
  refine ⟨h.byts, fun a n c e => ?_⟩
  right
  rcases h.2 with ⟨h1, _⟩ | ⟨g, cap, cur, h1, hB, _⟩
  · rw [h1] at e; cases e
  · rw [h1] at e; cases e; exact hB
theorem Far.keep {G : Nat → Prop} {w w' : World} {lo : Nat} {v : Value} {xs : List (BitVec 8)} (h : Far w lo v xs) (hk : Keep G w w') (hG : ∀ g, G g → g < lo) : Far w' lo v xs :=
  ⟨h.1.keep hk fun a n c e => (h.2 a n c e).imp id fun h1 h2 => by have := hG _ h2; omega, h.2⟩
theorem Far.below {w w' : World} {lo : Nat} {v : Value} {xs : List (BitVec 8)} (h : Far w lo v xs) (hb : Below w.heap.size w w') : Far w' lo v xs := ⟨h.1.below hb, h.2⟩
end Go.Proofs.Ytecfobmmbdmdgaa

/-
  Channels in memory: how long they are fresh, and of each of sixteen what is known; their data lie in blocks of D.
-/
import Derived.Test.YtmfgfjkpijmgoaaDoorBytes
import Derived.Test.YtmfgfjkpijmgoaaDoorKeep
import Derived.Test.YtmfgfjkpijmgoaaDoorLkMath
namespace Go.Proofs.YtmfgfjkpijmgoaaDoor
open Go.RowKit

theorem Byts.keep {G : Nat → Prop} {w w' : World} {v : Value} {xs : List (BitVec 8)} (h : Byts w v xs) (hk : Keep G w w') (hn : ∀ a n c, v = .slice (some a) n c → n = 0 ∨ ¬ G a.block) : Byts w' v xs := by
  rcases h with h | ⟨g, o, cap, hv, hc, h⟩
  · exact .inl h
  · refine .inr ⟨g, o, cap, hv, hc, fun j x hx => ?_⟩
    have hj := h j x hx
    have hg : ¬ G g := by
      rcases hn _ _ _ hv with h0 | h0
      · have := (List.getElem?_eq_some_iff.1 hx).1; omega
      · exact h0
    rw [World.cell?_of_block (w := w) (a := ⟨g, o + j, none⟩) (hk.block g (lt_of_cell hj) hg)]
    exact hj

theorem Own.keepB {G : Nat → Prop} {w w' : World} {B : Nat} {v : Value} {xs : List (BitVec 8)} (h : Own w B v xs) (hk : Keep G w w') (hn : ∀ g, v.ownBlock = some g → ¬ G g) : Own w' B v xs := by
  refine ⟨h.1, ?_⟩
  rcases h.2 with h1 | ⟨g, cap, cur, rfl, hB, hg, rest⟩
  · exact .inl h1
  · refine .inr ⟨g, cap, cur, rfl, hB, ?_, rest⟩
    rw [hk.block g (lt_of_block hg) (hn g rfl)]; exact hg
/-- The slice v holds the bytes xs, in a block from lo on. -/
def Far (w : World) (lo : Nat) (v : Value) (xs : List (BitVec 8)) : Prop := Byts w v xs ∧ ∀ a n c, v = .slice (some a) n c → n = 0 ∨ lo ≤ a.block
theorem Own.far {w : World} {B : Nat} {v : Value} {xs : List (BitVec 8)} (h : Own w B v xs) : Far w B v xs := by
  refine ⟨h.byts, fun a n c e => ?_⟩
  right
  rcases h.2 with ⟨h1, _⟩ | ⟨g, cap, cur, h1, hB, _⟩
  · rw [h1] at e; cases e
  · rw [h1] at e; cases e; exact hB
theorem Far.keep {G : Nat → Prop} {w w' : World} {lo : Nat} {v : Value} {xs : List (BitVec 8)} (h : Far w lo v xs) (hk : Keep G w w') (hG : ∀ g, G g → g < lo) : Far w' lo v xs :=
  ⟨h.1.keep hk fun a n c e => (h.2 a n c e).imp id fun h1 h2 => by have := hG _ h2; omega, h.2⟩
theorem Far.below {w w' : World} {lo : Nat} {v : Value} {xs : List (BitVec 8)} (h : Far w lo v xs) (hb : Below w.heap.size w w') : Far w' lo v xs := ⟨h.1.below hb, h.2⟩
/-- The channels f (s: the data of those that are stale are as f says, too), at block b of type T; v: the data as values. -/
structure Lk (s : Bool) (w : World) (T b F : Nat) (f : Nat → Ch) (v : Nat → Value) (D : Nat → Prop) : Prop where
  row : ∃ c : Array Value, w.heap[b]? = some (.cells c T (0, 0)) ∧ c.size = 65 ∧ c[0]? = some (.int .i64 (F : Int)) ∧ ∀ k, k < 16 → c[1 + k * 4]? = some (.bool (f k).had) ∧ c[1 + k * 4 + 1]? = some (.int .i64 (f k).seq) ∧ c[1 + k * 4 + 2]? = some (.int .i64 ((f k).age : Int)) ∧ c[1 + k * 4 + 3]? = some (v k)
  ok : ∀ k, k < 16 → OkCh F (f k)
  sl : ∀ k, k < 16 → ∃ a n c, v k = .slice a n c
  dat : ∀ k, k < 16 → s = true ∨ isF F (f k) = true → Byts w (v k) (f k).xs
  inD : ∀ k, k < 16 → ∀ a n c, v k = .slice (some a) n c → n = 0 ∨ D a.block
  lt : ∀ g, D g → g < w.heap.size ∧ g ≠ b
  F1 : 1 ≤ F ∧ F ≤ 6000
variable {s : Bool} {w w' : World} {T b F : Nat} {f : Nat → Ch} {v : Nat → Value} {D : Nat → Prop}
theorem Lk.blt (h : Lk s w T b F f v D) : b < w.heap.size := let ⟨_, h, _⟩ := h.row; lt_of_block h
theorem Lk.keep (h : Lk s w T b F f v D) {G : Nat → Prop} (hk : Keep G w w') (hb : ¬ G b) (hD : ∀ g, D g → ¬ G g) : Lk s w' T b F f v D := by
  refine ⟨?_, h.ok, h.sl, fun k hk' hf => (h.dat k hk' hf).keep hk fun a n c e => (h.inD k hk' a n c e).imp id (hD _), h.inD, fun g hg => ?_, h.F1⟩
  · obtain ⟨c, h1, h2⟩ := h.row
    exact ⟨c, by rw [hk.block b h.blt hb]; exact h1, h2⟩
  · have := h.lt g hg; have := hk.size; omega
theorem Lk.below (h : Lk s w T b F f v D) (hb : Below w.heap.size w w') : Lk s w' T b F f v D := h.keep (Keep.of_below (F := fun _ => False) hb) id fun _ _ => id
theorem Lk.drw (h : Lk s w T b F f v D) : Lk s w.drew T b F f v D := h.below (bel_drewN w 1)
theorem Lk.F_ (h : Lk s w T b F f v D) : w.cell? ⟨b, 0, none⟩ = some (.int .i64 (F : Int)) := by
  obtain ⟨c, h1, _, h2, _⟩ := h.row
  rw [cell_of_row w b 0 _ _ _ h1]; exact h2
theorem Lk.frz (h : Lk s w T b F f v D) (j : Nat) : w.frozen? ⟨b, j, none⟩ = false := by
  obtain ⟨c, h1, _⟩ := h.row
  exact frozen_of_row w b j _ _ h1
theorem Lk.at_ (h : Lk s w T b F f v D) (k : Nat) (hk : k < 16) : w.cell? ⟨b, 1 + k * 4, none⟩ = some (.bool (f k).had) ∧ w.cell? ⟨b, 1 + k * 4 + 1, none⟩ = some (.int .i64 (f k).seq) ∧
    w.cell? ⟨b, 1 + k * 4 + 2, none⟩ = some (.int .i64 ((f k).age : Int)) ∧ w.cell? ⟨b, 1 + k * 4 + 3, none⟩ = some (v k) := by
  obtain ⟨c, h1, _, _, h2⟩ := h.row
  obtain ⟨a0, a1, a2, a3⟩ := h2 k hk
  refine ⟨?_, ?_, ?_, ?_⟩ <;> (rw [cell_of_row w b _ _ _ _ h1]; assumption)
theorem Lk.rowcell (h : Lk s w T b F f v D) (j : Nat) (hj : j < 65) : ∃ u, w.cell? ⟨b, j, none⟩ = some u := by
  obtain ⟨c, h1, h2, _⟩ := h.row
  exact ⟨c[j], by rw [cell_of_row w b j _ _ _ h1]; simp [h2, hj]⟩
theorem Lk.mono {D' : Nat → Prop} (h : Lk s w T b F f v D) (hD : ∀ g, D g → D' g) (hl : ∀ g, D' g → g < w.heap.size ∧ g ≠ b) : Lk s w T b F f v D' :=
  ⟨h.row, h.ok, h.sl, h.dat, fun k hk a n c e => (h.inD k hk a n c e).imp id (hD _), hl, h.F1⟩
theorem keep_put (w : World) (b o : Nat) (c0 c1 c2 c3 : Value) : Keep (fun g => g = b) w ((((w.setCell ⟨b, o, none⟩ c0).setCell ⟨b, o + 1, none⟩ c1).setCell ⟨b, o + 2, none⟩ c2).setCell ⟨b, o + 3, none⟩ c3) :=
  ((((Keep.refl (fun g => g = b) w).store b _ _ rfl).store b _ _ rfl).store b _ _ rfl).store b _ _ rfl
theorem Lk.ext {f' : Nat → Ch} (h : Lk s w T b F f v D) (hf : ∀ k, k < 16 → f k = f' k) : Lk s w T b F f' v D := by
  refine ⟨?_, fun k hk => ?_, h.sl, fun k hk => ?_, h.inD, h.lt, h.F1⟩
  · obtain ⟨c, h1, h2, h3, h4⟩ := h.row
    exact ⟨c, h1, h2, h3, fun k hk => by rw [← hf k hk]; exact h4 k hk⟩
  · rw [← hf k hk]; exact h.ok k hk
  · rw [← hf k hk]; exact h.dat k hk
/-- One channel, laid anew. -/
theorem Lk.put (h : Lk s w T b F f v D) (k : Nat) (hk : k < 16) (c : Ch) (u : Value) (hc : OkCh F c) (hu : Byts w u c.xs) (hD : ∀ a n cp, u = .slice (some a) n cp → n = 0 ∨ D a.block) :
    Lk s ((((w.setCell ⟨b, 1 + k * 4, none⟩ (.bool c.had)).setCell ⟨b, 1 + k * 4 + 1, none⟩ (.int .i64 c.seq)).setCell ⟨b, 1 + k * 4 + 2, none⟩ (.int .i64 (c.age : Int))).setCell ⟨b, 1 + k * 4 + 3, none⟩ u) T b F (upd f k c) (upd v k u) D := by
  have K : Keep (fun g => g = b) w ((((w.setCell ⟨b, 1 + k * 4, none⟩ (.bool c.had)).setCell ⟨b, 1 + k * 4 + 1, none⟩ (.int .i64 c.seq)).setCell ⟨b, 1 + k * 4 + 2, none⟩ (.int .i64 (c.age : Int))).setCell ⟨b, 1 + k * 4 + 3, none⟩ u) :=
    keep_put w b (1 + k * 4) _ _ _ _
  obtain ⟨C, h1, h2, h3, h4⟩ := h.row
  refine ⟨?_, fun j hj => ?_, fun j hj => ?_, fun j hj hf => ?_, fun j hj a n cp e => ?_, fun g hg => ?_, h.F1⟩
  · have r1 := heap_setCell_same w b (1 + k * 4) _ _ (.bool c.had) h1
    have r2 := heap_setCell_same _ b (1 + k * 4 + 1) _ _ (.int .i64 c.seq) r1
    have r3 := heap_setCell_same _ b (1 + k * 4 + 2) _ _ (.int .i64 (c.age : Int)) r2
    have r4 := heap_setCell_same _ b (1 + k * 4 + 3) _ _ u r3
    refine ⟨_, r4, by simpa using h2, ?_, fun j hj => ?_⟩
    · rw [Array.getElem?_setIfInBounds_ne (by omega), Array.getElem?_setIfInBounds_ne (by omega), Array.getElem?_setIfInBounds_ne (by omega), Array.getElem?_setIfInBounds_ne (by omega)]; exact h3
    · by_cases e : j = k
      · subst e
        rw [upd_same, upd_same]
        refine ⟨?_, ?_, ?_, ?_⟩
        · rw [Array.getElem?_setIfInBounds_ne (by omega), Array.getElem?_setIfInBounds_ne (by omega), Array.getElem?_setIfInBounds_ne (by omega), Array.getElem?_setIfInBounds_self_of_lt (by omega)]
        · rw [Array.getElem?_setIfInBounds_ne (by omega), Array.getElem?_setIfInBounds_ne (by omega), Array.getElem?_setIfInBounds_self_of_lt (by simp; omega)]
        · rw [Array.getElem?_setIfInBounds_ne (by omega), Array.getElem?_setIfInBounds_self_of_lt (by simp; omega)]
        · rw [Array.getElem?_setIfInBounds_self_of_lt (by simp; omega)]
      · rw [upd_other _ _ _ e, upd_other _ _ _ e]
        obtain ⟨a0, a1, a2, a3⟩ := h4 j hj
        refine ⟨?_, ?_, ?_, ?_⟩ <;>
          (rw [Array.getElem?_setIfInBounds_ne (by omega), Array.getElem?_setIfInBounds_ne (by omega), Array.getElem?_setIfInBounds_ne (by omega), Array.getElem?_setIfInBounds_ne (by omega)]; assumption)
  · by_cases e : j = k
    · subst e; rw [upd_same]; exact hc
    · rw [upd_other _ _ _ e]; exact h.ok j hj
  · by_cases e : j = k
    · subst e; rw [upd_same]
      obtain ⟨a, cp, e⟩ := hu.len
      exact ⟨_, _, _, e⟩
    · rw [upd_other _ _ _ e]; exact h.sl j hj
  · by_cases e : j = k
    · subst e; rw [upd_same, upd_same]
      exact hu.keep K fun a n cp e => (hD a n cp e).imp id fun hd he => (h.lt _ hd).2 he
    · rw [upd_other _ _ _ e] at hf ⊢
      rw [upd_other _ _ _ e]
      exact (h.dat j hj hf).keep K fun a n cp e => (h.inD j hj a n cp e).imp id fun hd he => (h.lt _ hd).2 he
  · by_cases e2 : j = k
    · subst e2; rw [upd_same] at e; exact hD a n cp e
    · rw [upd_other _ _ _ e2] at e; exact h.inD j hj a n cp e
  · have := h.lt g hg; have := K.size; omega
/-- One channel's age, laid anew. -/
theorem Lk.age (h : Lk s w T b F f v D) (k : Nat) (hk : k < 16) (c : Ch) (hc : OkCh F c) (h1 : c.had = (f k).had) (h2 : c.seq = (f k).seq) (hd : s = true ∨ isF F c = true → Byts w (v k) c.xs) :
    Lk s (w.setCell ⟨b, 1 + k * 4 + 2, none⟩ (.int .i64 (c.age : Int))) T b F (upd f k c) v D := by
  have K : Keep (fun g => g = b) w (w.setCell ⟨b, 1 + k * 4 + 2, none⟩ (.int .i64 (c.age : Int))) := (Keep.refl (fun g => g = b) w).store b _ _ rfl
  obtain ⟨C, r1, r2, r3, r4⟩ := h.row
  refine ⟨⟨_, heap_setCell_same w b (1 + k * 4 + 2) _ _ (.int .i64 (c.age : Int)) r1, by simpa using r2, ?_, fun j hj => ?_⟩, fun j hj => ?_, h.sl, fun j hj hf => ?_, h.inD, fun g hg => ?_, h.F1⟩
  · rw [Array.getElem?_setIfInBounds_ne (by omega)]; exact r3
  · obtain ⟨a0, a1, a2, a3⟩ := r4 j hj
    by_cases e : j = k
    · subst e
      rw [upd_same, h1, h2]
      refine ⟨?_, ?_, ?_, ?_⟩
      · rw [Array.getElem?_setIfInBounds_ne (by omega)]; exact a0
      · rw [Array.getElem?_setIfInBounds_ne (by omega)]; exact a1
      · rw [Array.getElem?_setIfInBounds_self_of_lt (by omega)]
      · rw [Array.getElem?_setIfInBounds_ne (by omega)]; exact a3
    · rw [upd_other _ _ _ e]
      refine ⟨?_, ?_, ?_, ?_⟩ <;> (rw [Array.getElem?_setIfInBounds_ne (by omega)]; assumption)
  · by_cases e : j = k
    · subst e; rw [upd_same]; exact hc
    · rw [upd_other _ _ _ e]; exact h.ok j hj
  · have hB : Byts w (v j) (upd f k c j).xs := by
      by_cases e : j = k
      · subst e; rw [upd_same] at hf ⊢; exact hd hf
      · rw [upd_other _ _ _ e] at hf ⊢; exact h.dat j hj hf
    exact hB.keep K fun a n cp e => (h.inD j hj a n cp e).imp id fun hd he => (h.lt _ hd).2 he
  · have := h.lt g hg; have := K.size; omega
end Go.Proofs.YtmfgfjkpijmgoaaDoor

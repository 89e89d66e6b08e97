/-
  What is kept but blocks of F. No type of the program is named.
-/
import Derived.Test.YtalfcbgffgikkaaCore
import Derived.Laws.AppendOwn
import Derived.Deep.QuietTactic
namespace Go.Proofs.Ytalfcbgffgikkaa
open Go.RowKit

/-- Nothing older has changed but blocks of F. -/
structure Keep (F : Nat → Prop) (w w' : World) : Prop where
  os : w'.os = w.os
  tape : w'.tape = w.tape
  output : w'.output = w.output
  size : w.heap.size ≤ w'.heap.size
  block : ∀ k, k < w.heap.size → ¬ F k → w'.heap[k]? = w.heap[k]?
theorem Keep.refl (F : Nat → Prop) (w : World) : Keep F w w := ⟨rfl, rfl, rfl, Nat.le_refl _, fun _ _ _ => rfl⟩
theorem Keep.trans {F G : Nat → Prop} {w w1 w2 : World} (h : Keep F w w1) (k : Keep G w1 w2) (hs : ∀ g, G g → F g ∨ w.heap.size ≤ g) : Keep F w w2 :=
  ⟨k.os.trans h.os, k.tape.trans h.tape, k.output.trans h.output, Nat.le_trans h.size k.size, fun i hi hn => (k.block i (Nat.lt_of_lt_of_le hi h.size) (fun hg => (hs i hg).elim hn (fun h => by omega))).trans (h.block i hi hn)⟩
theorem Keep.mono {F G : Nat → Prop} {w w1 : World} (h : Keep F w w1) (hs : ∀ g, F g → G g) : Keep G w w1 := ⟨h.os, h.tape, h.output, h.size, fun i hi hn => h.block i hi fun hf => hn (hs i hf)⟩
theorem Keep.of_below {F : Nat → Prop} {w w' : World} (h : Below w.heap.size w w') : Keep F w w' := ⟨h.os, h.tape, h.output, h.size, fun k hk _ => h.block k hk⟩
theorem Keep.below {F : Nat → Prop} {B : Nat} {w w' : World} (h : Keep F w w') (hb : ∀ g, F g → B ≤ g) (hB : B ≤ w.heap.size) : Below B w w' :=
  ⟨h.os, h.tape, h.output, h.size, fun k hk => h.block k (by omega) (fun hf => by have := hb k hf; omega)⟩
theorem Keep.set_ {F : Nat → Prop} (w : World) (b o : Nat) (u : Value) (hb : F b) : Keep F w (w.setCell ⟨b, o, none⟩ u) :=
  ⟨rfl, rfl, rfl, by simp [World.setCell], fun k _ hn => Below.heap_setCell _ _ _ _ (fun h => hn (by rw [h]; exact hb))⟩
theorem Keep.store {F : Nat → Prop} {w w' : World} (h : Keep F w w') (b o : Nat) (u : Value) (hb : F b) : Keep F w (w'.setCell ⟨b, o, none⟩ u) := h.trans (Keep.set_ (F := F) w' b o u hb) (fun _ h => .inl h)
theorem Keep.alloc {F : Nat → Prop} {w w' : World} (h : Keep F w w') (o : Obj) : Keep F w (w'.alloc o) :=
  h.trans (Keep.of_below (F := fun _ => False) (below_alloc (Below.refl _ w') o)) (fun _ h => h.elim)
theorem Keep.grown {F : Nat → Prop} {w w' : World} {r : Option Nat} (h : w.grownBy w' r) (hr : ∀ g, r = some g → F g) : Keep F w w' :=
  ⟨h.os, h.tape, h.output, h.size, fun k hk hn => h.block k hk (fun e => hn (hr k e.symm))⟩
theorem Keep.drewN {F : Nat → Prop} (w : World) (m : Nat) : Keep F w (w.drewN m) := ⟨rfl, rfl, rfl, Nat.le_refl _, fun _ _ _ => rfl⟩
theorem below_keep {F : Nat → Prop} {w0 w w' : World} (h0 : Below w0.heap.size w0 w) (h : Keep F w w') (hb : ∀ g, F g → w0.heap.size ≤ g) : Below w0.heap.size w0 w' := h0.trans (h.below hb h0.size)

theorem Keep.cell {F : Nat → Prop} {g o : Nat} {w w' : World} {v : Value} (h : Keep F w w') (hc : w.cell? ⟨g, o, none⟩ = some v) (hn : ¬ F g) : w'.cell? ⟨g, o, none⟩ = some v := by
  rw [World.cell?_of_block (w := w) (a := ⟨g, o, none⟩) (h.block g (lt_of_cell hc) hn)]; exact hc
theorem Keep.more {F : Nat → Prop} {w wr : World} (h : Keep F w wr) (m : Nat) : Keep F w (wr.drewN m) := ⟨h.os, h.tape, h.output, h.size, h.block⟩
theorem bel_drewN (w : World) (m : Nat) : Below w.heap.size w (w.drewN m) := ⟨rfl, rfl, rfl, Nat.le_refl _, fun _ _ => rfl⟩
theorem bel_drew (w : World) : Below w.heap.size w w.drew := bel_drewN w 1
theorem lt_of_block {w : World} {g : Nat} {o : Obj} (h : w.heap[g]? = some o) : g < w.heap.size := by
  rcases Nat.lt_or_ge g w.heap.size with h1 | h1
  · exact h1
  · rw [Array.getElem?_eq_none h1] at h; cases h
def upd {α : Type} (f : Nat → α) (i : Nat) (x : α) : Nat → α := fun j => if j = i then x else f j
theorem upd_same {α : Type} (f : Nat → α) (i : Nat) (x : α) : upd f i x i = x := if_pos rfl
theorem upd_other {α : Type} (f : Nat → α) (i : Nat) (x : α) {j : Nat} (h : j ≠ i) : upd f i x j = f j := if_neg h
end Go.Proofs.Ytalfcbgffgikkaa

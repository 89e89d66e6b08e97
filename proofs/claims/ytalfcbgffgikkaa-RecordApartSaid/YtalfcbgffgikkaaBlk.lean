/-
  A block known whole: what a call of the program laid for itself.
-/
import Derived.Test.YtalfcbgffgikkaaKeep
import Derived.Laws.ResultCell
namespace Go.Proofs.Ytalfcbgffgikkaa
open Go.RowKit

/-- The block g holds the cells C. -/
def Blk (w : World) (g : Nat) (C : Array Value) (T : TypeId) : Prop := w.heap[g]? = some (.cells C T (0, 0))
variable {w w' : World} {g : Nat} {C : Array Value} {T : TypeId}
theorem blk_new (w : World) (C : Array Value) (T : TypeId) : Blk (w.alloc (.cells C T)) w.heap.size C T := heap_alloc_new w _
theorem Blk.lt (h : Blk w g C T) : g < w.heap.size := lt_of_block h
theorem Blk.keep (h : Blk w g C T) {G : Nat → Prop} (hk : Keep G w w') (hg : ¬ G g) : Blk w' g C T := (hk.block g h.lt hg).trans h
theorem Blk.below (h : Blk w g C T) (hb : Below w.heap.size w w') : Blk w' g C T := (hb.block g h.lt).trans h
theorem Blk.cell (h : Blk w g C T) (j : Nat) {u : Value} (hu : C[j]? = some u) : w.cell? ⟨g, j, none⟩ = some u := by rw [cell_of_row _ _ _ _ _ _ h]; exact hu
theorem Blk.frz (h : Blk w g C T) (j : Nat) : w.frozen? ⟨g, j, none⟩ = false := frozen_of_row _ _ _ _ _ h
theorem Blk.set_ (h : Blk w g C T) (j : Nat) (u : Value) : Blk (w.setCell ⟨g, j, none⟩ u) g (C.setIfInBounds j u) T := heap_setCell_same w g j _ _ u h
theorem Blk.far (h : Blk w g C T) (b o : Nat) (u : Value) (hne : g ≠ b) : Blk (w.setCell ⟨b, o, none⟩ u) g C T := h.keep (Keep.set_ (F := fun x => x = b) w b o u rfl) hne
theorem Blk.three {c0 c1 c2 : Value} (h : Blk w g #[c0, c1, c2] T) : w.cell? ⟨g, 0, none⟩ = some c0 ∧ w.cell? ⟨g, 1, none⟩ = some c1 ∧ w.cell? ⟨g, 2, none⟩ = some c2 := ⟨h.cell 0 rfl, h.cell 1 rfl, h.cell 2 rfl⟩
theorem Blk.four {c0 c1 c2 c3 : Value} (h : Blk w g #[c0, c1, c2, c3] T) : w.cell? ⟨g, 0, none⟩ = some c0 ∧ w.cell? ⟨g, 1, none⟩ = some c1 ∧ w.cell? ⟨g, 2, none⟩ = some c2 ∧ w.cell? ⟨g, 3, none⟩ = some c3 := ⟨h.cell 0 rfl, h.cell 1 rfl, h.cell 2 rfl, h.cell 3 rfl⟩
theorem Blk.frz4 (h : Blk w g C T) : w.frozen? ⟨g, 0, none⟩ = false ∧ w.frozen? ⟨g, 1, none⟩ = false ∧ w.frozen? ⟨g, 2, none⟩ = false ∧ w.frozen? ⟨g, 3, none⟩ = false := ⟨h.frz 0, h.frz 1, h.frz 2, h.frz 3⟩
/-- A store into a block of the call's own. -/
theorem bel_set {w0 w1 : World} (h : Below w0.heap.size w0 w1) {g : Nat} (hg : w0.heap.size ≤ g) (o : Nat) (u : Value) : Below w0.heap.size w0 (w1.setCell ⟨g, o, none⟩ u) :=
  h.trans ((Keep.set_ (F := fun x => x = g) w1 g o u rfl).below (fun x e => by rw [e]; exact hg) h.size)
theorem results_cell1 {fn : Func} {p : Tmp} {ty : TypeId} (h : fn.results = #[.cell p ty]) (tmps : Array Value) (P : Program) (w : World) :
    (results fn tmps).run P w = ((asAddr (tmps.getD p undef)).run P w).andThen fun a w₁ => (loadVar ty a).run P w₁ := by
  simp only [results, h]
  simp [Sem.run_bind, Result.andThen]
theorem bel_set4 {w0 w1 : World} (h : Below w0.heap.size w0 w1) {g : Nat} (hg : w0.heap.size ≤ g) (u0 u1 u2 u3 : Value) :
    Below w0.heap.size w0 ((((w1.setCell ⟨g, 0, none⟩ u0).setCell ⟨g, 1, none⟩ u1).setCell ⟨g, 2, none⟩ u2).setCell ⟨g, 3, none⟩ u3) := bel_set (bel_set (bel_set (bel_set h hg 0 u0) hg 1 u1) hg 2 u2) hg 3 u3
theorem Blk.apart {w w' : World} {g b : Nat} {C : Array Value} {T : TypeId} (h : Blk w g C T) (ha : Apart b w w') (hne : g ≠ b) : Blk w' g C T := (ha.block g h.lt hne).trans h
theorem Blk.low {B g : Nat} {w w' : World} {C : Array Value} {T : TypeId} (h : Blk w g C T) (hb : Below B w w') (hg : g < B) : Blk w' g C T := (hb.block g hg).trans h
theorem box2 {w : World} {g : Nat} {Y : TypeId} {c0 c1 : Value} (h : Blk w g #[c0, c1] Y) : w.cell? ⟨g, 0, none⟩ = some c0 ∧ w.cell? ⟨g, 1, none⟩ = some c1 := ⟨h.cell 0 rfl, h.cell 1 rfl⟩
theorem box10 {w : World} {g : Nat} {Y : TypeId} {c0 c1 c2 c3 c4 c5 c6 c7 c8 c9 : Value} (h : Blk w g #[c0, c1, c2, c3, c4, c5, c6, c7, c8, c9] Y) : w.cell? ⟨g, 0, none⟩ = some c0 ∧ w.cell? ⟨g, 1, none⟩ = some c1 ∧ w.cell? ⟨g, 2, none⟩ = some c2 ∧ w.cell? ⟨g, 3, none⟩ = some c3 ∧ w.cell? ⟨g, 4, none⟩ = some c4 ∧ w.cell? ⟨g, 5, none⟩ = some c5 ∧ w.cell? ⟨g, 6, none⟩ = some c6 ∧ w.cell? ⟨g, 7, none⟩ = some c7 ∧ w.cell? ⟨g, 8, none⟩ = some c8 ∧ w.cell? ⟨g, 9, none⟩ = some c9 := ⟨h.cell 0 rfl, h.cell 1 rfl, h.cell 2 rfl, h.cell 3 rfl, h.cell 4 rfl, h.cell 5 rfl, h.cell 6 rfl, h.cell 7 rfl, h.cell 8 rfl, h.cell 9 rfl⟩
theorem bel_set2 {w0 w1 : World} (h : Below w0.heap.size w0 w1) {g : Nat} (hg : w0.heap.size ≤ g) (u0 u1 : Value) : Below w0.heap.size w0 ((w1.setCell ⟨g, 0, none⟩ u0).setCell ⟨g, 1, none⟩ u1) := bel_set (bel_set h hg 0 u0) hg 1 u1
end Go.Proofs.Ytalfcbgffgikkaa

/-
  A block of twelve cells, known whole (the inputs of a controller).
-/
import Derived.Test.YtgkihalokedmaaaBlk
namespace Go.Proofs.Ytgkihalokedmaaa
open Go.RowKit

section
variable {w : World} {g : Nat} {T : TypeId} {c0 c1 c2 c3 c4 c5 c6 c7 c8 c9 c10 c11 : Value}
theorem cells12 (h : Blk w g #[c0, c1, c2, c3, c4, c5, c6, c7, c8, c9, c10, c11] T) : w.cell? ⟨g, 0, none⟩ = some c0 ∧ w.cell? ⟨g, 1, none⟩ = some c1 ∧ w.cell? ⟨g, 2, none⟩ = some c2 ∧ w.cell? ⟨g, 3, none⟩ = some c3 ∧ w.cell? ⟨g, 4, none⟩ = some c4 ∧ w.cell? ⟨g, 5, none⟩ = some c5 ∧
    w.cell? ⟨g, 6, none⟩ = some c6 ∧ w.cell? ⟨g, 7, none⟩ = some c7 ∧ w.cell? ⟨g, 8, none⟩ = some c8 ∧ w.cell? ⟨g, 9, none⟩ = some c9 ∧ w.cell? ⟨g, 10, none⟩ = some c10 ∧ w.cell? ⟨g, 11, none⟩ = some c11 :=
  ⟨h.cell 0 rfl, h.cell 1 rfl, h.cell 2 rfl, h.cell 3 rfl, h.cell 4 rfl, h.cell 5 rfl, h.cell 6 rfl, h.cell 7 rfl, h.cell 8 rfl, h.cell 9 rfl, h.cell 10 rfl, h.cell 11 rfl⟩
theorem frz12 {C : Array Value} (h : Blk w g C T) : w.frozen? ⟨g, 0, none⟩ = false ∧ w.frozen? ⟨g, 1, none⟩ = false ∧ w.frozen? ⟨g, 2, none⟩ = false ∧ w.frozen? ⟨g, 3, none⟩ = false ∧ w.frozen? ⟨g, 4, none⟩ = false ∧ w.frozen? ⟨g, 5, none⟩ = false ∧
    w.frozen? ⟨g, 6, none⟩ = false ∧ w.frozen? ⟨g, 7, none⟩ = false ∧ w.frozen? ⟨g, 8, none⟩ = false ∧ w.frozen? ⟨g, 9, none⟩ = false ∧ w.frozen? ⟨g, 10, none⟩ = false ∧ w.frozen? ⟨g, 11, none⟩ = false :=
  ⟨h.frz 0, h.frz 1, h.frz 2, h.frz 3, h.frz 4, h.frz 5, h.frz 6, h.frz 7, h.frz 8, h.frz 9, h.frz 10, h.frz 11⟩
/-- Twelve cells stored at once. -/
def put12 (w : World) (g : Nat) (c0 c1 c2 c3 c4 c5 c6 c7 c8 c9 c10 c11 : Value) : World :=
  (((((((((((w.setCell ⟨g, 0, none⟩ c0).setCell ⟨g, 1, none⟩ c1).setCell ⟨g, 2, none⟩ c2).setCell ⟨g, 3, none⟩ c3).setCell ⟨g, 4, none⟩ c4).setCell ⟨g, 5, none⟩ c5).setCell ⟨g, 6, none⟩ c6).setCell ⟨g, 7, none⟩ c7).setCell ⟨g, 8, none⟩ c8).setCell ⟨g, 9, none⟩ c9).setCell ⟨g, 10, none⟩ c10).setCell ⟨g, 11, none⟩ c11
theorem set12 {d0 d1 d2 d3 d4 d5 d6 d7 d8 d9 d10 d11 : Value} (h : Blk w g #[d0, d1, d2, d3, d4, d5, d6, d7, d8, d9, d10, d11] T) (c0 c1 c2 c3 c4 c5 c6 c7 c8 c9 c10 c11 : Value) : Blk (put12 w g c0 c1 c2 c3 c4 c5 c6 c7 c8 c9 c10 c11) g #[c0, c1, c2, c3, c4, c5, c6, c7, c8, c9, c10, c11] T := by
  have h := (((((((((((h.set_ 0 c0).set_ 1 c1).set_ 2 c2).set_ 3 c3).set_ 4 c4).set_ 5 c5).set_ 6 c6).set_ 7 c7).set_ 8 c8).set_ 9 c9).set_ 10 c10).set_ 11 c11
  simp only [List.setIfInBounds_toArray, List.set_cons_zero, List.set_cons_succ] at h
  exact h
theorem keep12 {G : Nat → Prop} (hg : G g) (c0 c1 c2 c3 c4 c5 c6 c7 c8 c9 c10 c11 : Value) : Keep G w (put12 w g c0 c1 c2 c3 c4 c5 c6 c7 c8 c9 c10 c11) :=
  (((((((((((((Keep.refl G w).store g 0 c0 hg).store g 1 c1 hg).store g 2 c2 hg).store g 3 c3 hg).store g 4 c4 hg).store g 5 c5 hg).store g 6 c6 hg).store g 7 c7 hg).store g 8 c8 hg).store g 9 c9 hg).store g 10 c10 hg).store g 11 c11 hg)
theorem bel12 {w0 : World} (h : Below w0.heap.size w0 w) (hg : w0.heap.size ≤ g) (c0 c1 c2 c3 c4 c5 c6 c7 c8 c9 c10 c11 : Value) : Below w0.heap.size w0 (put12 w g c0 c1 c2 c3 c4 c5 c6 c7 c8 c9 c10 c11) :=
  below_keep h (keep12 (G := fun z => z = g) rfl c0 c1 c2 c3 c4 c5 c6 c7 c8 c9 c10 c11) (fun z hz => by rw [hz]; exact hg)
end
theorem box12 (a b c d s l o : Bool) (m : Int) (mn ba : Bool) (r : Int) (tv : Value) (w : World) : Blk (w.alloc (.cells #[.bool a, .bool b, .bool c, .bool d, .bool s, .bool l, .bool o, .int .i64 m, .bool mn, .bool ba, .int .i64 r, tv] 26)) w.heap.size #[.bool a, .bool b, .bool c, .bool d, .bool s, .bool l, .bool o, .int .i64 m, .bool mn, .bool ba, .int .i64 r, tv] 26 := blk_new w _ _
end Go.Proofs.Ytgkihalokedmaaa

/-
  Slices of bytes in a cell, among the elements of a slice among the arguments (XElg).
-/
import Derived.Test.YtekackglcapppaaGreatDoorElg
import Derived.Test.YtekackglcapppaaGreatDoorBytes

namespace Go.Proofs.YtekackglcapppaaGreatDoor
open Go.ChangeShapes Go.WideShapes Go.ChangeAt Go.RowKit

/-- A slice of bytes in a cell. -/
def RByts (w : World) (g o : Nat) (xs : List (BitVec 8)) : Prop := ∃ a c, w.cell? ⟨g, o, none⟩ = some (.slice a xs.length c) ∧ Byts w (.slice a xs.length c) xs
theorem RByts.below {w w' : World} (hb : Below w.heap.size w w') {g o : Nat} {xs : List (BitVec 8)} (h : RByts w g o xs) : RByts w' g o xs := by
  obtain ⟨a, c, h1, h2⟩ := h
  exact ⟨a, c, below_cell hb h1, h2.below hb⟩
theorem cells_u8 : Tryz.prog.cellsOf 5 = 1 := by kernel_rfl
theorem read_byts {H : Type} {enc : TypeId × Value → H} {W : World} (g o n : Nat) (u : Value) (x) (hc : W.cell? ⟨g, o, none⟩ = some u) (h : DataW.trod enc Tryz.prog W 0 (fun _ => true) true n 22 [u] = some x) : ∃ xs, RByts W g o xs := by
  obtain ⟨a, l, c, e⟩ := Go.Joins.slice_form Tryz.underlying22 h
  simp at e
  subst e
  obtain ⟨zs, hs, _⟩ := open_sl_at (d := x.1) (p := x.2) cel (fun n => BitVec.ofNat 8 n.toNat) (fun n hn => by unfold cel; rw [u8_of_wf hn]) Tryz.underlying22 Tryz.underlying5 cells_u8 ⟨n, h⟩
  have hl : Byts W (.slice a l c) (zs.map fun n => BitVec.ofNat 8 n.toNat) := hs
  obtain ⟨a', c', e'⟩ := hl.len
  simp only [Value.slice.injEq] at e'
  obtain ⟨rfl, rfl, rfl⟩ := e'
  exact ⟨_, _, _, hc, hl⟩
end Go.Proofs.YtekackglcapppaaGreatDoor

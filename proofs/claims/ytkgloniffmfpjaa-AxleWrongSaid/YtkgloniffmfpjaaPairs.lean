/-
  A slice of arrays of two ints among the arguments.
-/
import Derived.Test.YtkgloniffmfpjaaElg
import Derived.OpenShut
namespace Go.Proofs.Ytkgloniffmfpjaa
open Go.ChangeShapes Go.WideShapes Go.ChangeAt Go.RowKit

theorem cellsInt : Try.prog.cellsOf 3 = 1 := by kernel_rfl
theorem cellsArr2 : Try.prog.cellsOf 32 = 2 := by kernel_rfl
/-- Two numbers at a place. -/
def R2 (w : World) (g o : Nat) (y : Int × Int) : Prop := w.cell? ⟨g, o, none⟩ = some (.int .i64 y.1) ∧ w.cell? ⟨g, o + 1, none⟩ = some (.int .i64 y.2)
theorem R2.below {w w' : World} {g o : Nat} {y : Int × Int} (h : R2 w g o y) (hb : Below w.heap.size w w') : R2 w' g o y := ⟨below_cell hb h.1, below_cell hb h.2⟩
section
variable {H : Type} {enc : TypeId × Value → H} {W : World}
set_option maxRecDepth 100000 in
theorem read_two (g o n : Nat) (cs : List Value) (x) (hl : cs.length = 2) (hc : ∀ i, i < 2 → W.cell? ⟨g, o + i, none⟩ = cs[i]?) (h : DataW.trod enc Try.prog W 0 (fun _ => true) true n 32 cs = some x) : ∃ y, R2 W g o y := by
  match cs, hl with
  | [v0, v1], _ =>
    obtain ⟨xs, m, _, _, _, hlen, hf⟩ := DataW.trod_array Try.underlying32 h
    have s0 := hf 0 (by decide)
    have s1 := hf 1 (by decide)
    obtain ⟨y0, q0⟩ : ∃ y, xs[0]? = some y := ⟨_, List.getElem?_eq_getElem (by rw [hlen]; decide)⟩
    obtain ⟨y1, q1⟩ : ∃ y, xs[1]? = some y := ⟨_, List.getElem?_eq_getElem (by rw [hlen]; decide)⟩
    rw [q0] at s0
    rw [q1] at s1
    simp [cellsInt] at s0 s1
    obtain ⟨a, e0, _, _⟩ := DataW.trod_int Try.underlying3 s0
    obtain ⟨b, e1, _, _⟩ := DataW.trod_int Try.underlying3 s1
    simp at e0 e1
    subst e0 e1
    exact ⟨(a, b), by simpa using hc 0 (by omega), by simpa using hc 1 (by omega)⟩
theorem open_pairs {base : Nat} {v : Value} {d : DataW H} {p : List MemPlace} (hv : Value.okWide Try.prog W .any base 31 v) (h : DataW.Trod enc Try.prog W 0 (fun _ => true) true 31 v d p) : ∃ ls : List (Int × Int), Els R2 2 W v ls ∧ ls.length ≤ maxLen :=
  open_els (R := R2) (sz := 2) Try.underlying31 cellsArr2 (by decide) (fun g o n cs x hl hc ht => read_two g o n cs x hl hc ht) hv h
end
end Go.Proofs.Ytkgloniffmfpjaa

/-
  Barriers among the arguments, one and a slice of them.
-/
import Derived.Test.YtmljjihjmppcmaaElg
import Derived.Test.YtmljjihjmppcmaaKeep
import Derived.OpenShut
namespace Go.Proofs.Ytmljjihjmppcmaa
open Go.ChangeShapes Go.WideShapes Go.ChangeAt Go.RowKit Go.Joins

theorem cells_flag : Try.prog.cellsOf 4 = 1 := by kernel_rfl
theorem cells_bar : Try.prog.cellsOf 23 = 4 := by kernel_rfl
/-- What a barrier tells. -/
structure Br where
  a : Bool
  b : Bool
  c : Bool
  d : Bool
/-- What a barrier tells, at a place. -/
def RBr (w : World) (g o : Nat) (y : Br) : Prop := w.cell? ⟨g, o, none⟩ = some (.bool y.a) ∧ w.cell? ⟨g, o + 1, none⟩ = some (.bool y.b) ∧ w.cell? ⟨g, o + 2, none⟩ = some (.bool y.c) ∧ w.cell? ⟨g, o + 3, none⟩ = some (.bool y.d)
theorem RBr.below {w w' : World} {g o : Nat} {y : Br} (h : RBr w g o y) (hb : Below w.heap.size w w') : RBr w' g o y := ⟨below_cell hb h.1, below_cell hb h.2.1, below_cell hb h.2.2.1, below_cell hb h.2.2.2⟩
section
variable {H : Type} {enc : TypeId × Value → H} {W : World}
set_option maxRecDepth 100000 in
theorem trod_bar {n : Nat} {cs : List Value} {x : DataW H × List MemPlace} (hl : cs.length = 4) (h : DataW.trod enc Try.prog W 0 (fun _ => true) true n 23 cs = some x) :
    ∃ y : Br, cs = [.bool y.a, .bool y.b, .bool y.c, .bool y.d] := by
  match cs, hl with
  | [v0, v1, v2, v3], _ =>
    obtain ⟨xs, m, _, _, _, hlen, hf⟩ := DataW.trod_struct Try.underlying23 h
    have t0 := hf 0 _ rfl
    have t1 := hf 1 _ rfl
    have t2 := hf 2 _ rfl
    have t3 := hf 3 _ rfl
    obtain ⟨y0, q0⟩ : ∃ y, xs[0]? = some y := ⟨_, List.getElem?_eq_getElem (by rw [hlen]; decide)⟩
    obtain ⟨y1, q1⟩ : ∃ y, xs[1]? = some y := ⟨_, List.getElem?_eq_getElem (by rw [hlen]; decide)⟩
    obtain ⟨y2, q2⟩ : ∃ y, xs[2]? = some y := ⟨_, List.getElem?_eq_getElem (by rw [hlen]; decide)⟩
    obtain ⟨y3, q3⟩ : ∃ y, xs[3]? = some y := ⟨_, List.getElem?_eq_getElem (by rw [hlen]; decide)⟩
    rw [q0] at t0
    rw [q1] at t1
    rw [q2] at t2
    rw [q3] at t3
    simp [cells_flag] at t0 t1 t2 t3
    obtain ⟨a, e0, _⟩ := DataW.trod_bool Try.underlying4 t0
    obtain ⟨b, e1, _⟩ := DataW.trod_bool Try.underlying4 t1
    obtain ⟨c, e2, _⟩ := DataW.trod_bool Try.underlying4 t2
    obtain ⟨d, e3, _⟩ := DataW.trod_bool Try.underlying4 t3
    simp at e0 e1 e2 e3
    subst e0 e1 e2 e3
    exact ⟨⟨a, b, c, d⟩, rfl⟩
set_option maxRecDepth 100000 in
theorem open_bar {base : Nat} {v : Value} {d : DataW H} {p : List MemPlace} (hv : Value.okWide Try.prog W .any base 23 v) (h : DataW.Trod enc Try.prog W 0 (fun _ => true) true 23 v d p) :
    ∃ (a b c d : Bool), v = .agg #[.bool a, .bool b, .bool c, .bool d] := by
  obtain ⟨cs, rfl, hsz⟩ := okWide_struct Try.underlying23 hv
  obtain ⟨fuel, hf⟩ := h
  obtain ⟨y, e⟩ := trod_bar (by simpa [Value.cells, cells_bar] using hsz) hf
  exact ⟨_, _, _, _, congrArg Value.agg (Array.ext' e)⟩
set_option maxRecDepth 100000 in
theorem open_bars {base : Nat} {v : Value} {d : DataW H} {p : List MemPlace} (hv : Value.okWide Try.prog W .any base 29 v) (h : DataW.Trod enc Try.prog W 0 (fun _ => true) true 29 v d p) : ∃ ls : List Br, Els RBr 4 W v ls ∧ ls.length ≤ maxLen :=
  haveI : Inhabited Br := ⟨⟨false, false, false, false⟩⟩
  open_els (R := RBr) (sz := 4) Try.underlying29 cells_bar (by decide) (fun g o n cs x hl hc ht => by
    obtain ⟨y, rfl⟩ := trod_bar hl ht
    exact ⟨y, by simpa using hc 0 (by omega), by simpa using hc 1 (by omega), by simpa using hc 2 (by omega), by simpa using hc 3 (by omega)⟩) hv h
end
end Go.Proofs.Ytmljjihjmppcmaa

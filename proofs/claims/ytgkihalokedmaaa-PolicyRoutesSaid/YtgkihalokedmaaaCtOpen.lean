/-
  What is told of a track, at a place and among the arguments; slices of it.
-/
import Derived.Test.YtgkihalokedmaaaElg
import Derived.Test.YtgkihalokedmaaaCtMath
import Derived.Test.YtgkihalokedmaaaKeep
import Derived.OpenShut
namespace Go.Proofs.Ytgkihalokedmaaa
open Go.ChangeShapes Go.WideShapes Go.ChangeAt Go.RowKit Go.Joins

theorem cells_int : Try.prog.cellsOf 3 = 1 := by kernel_rfl
theorem cells_bool : Try.prog.cellsOf 4 = 1 := by kernel_rfl
theorem cells_counts : Try.prog.cellsOf 78 = 5 := by kernel_rfl
/-- What is told of a track, at a place. -/
def RCt (w : World) (g o : Nat) (y : Ct) : Prop := w.cell? ⟨g, o, none⟩ = some (.bool y.fr) ∧ w.cell? ⟨g, o + 1, none⟩ = some (.int .i64 y.i) ∧ w.cell? ⟨g, o + 2, none⟩ = some (.int .i64 y.o) ∧ w.cell? ⟨g, o + 3, none⟩ = some (.int .i64 y.cs) ∧ w.cell? ⟨g, o + 4, none⟩ = some (.int .i64 y.l)
theorem RCt.below {w w' : World} {g o : Nat} {y : Ct} (h : RCt w g o y) (hb : Below w.heap.size w w') : RCt w' g o y := ⟨below_cell hb h.1, below_cell hb h.2.1, below_cell hb h.2.2.1, below_cell hb h.2.2.2.1, below_cell hb h.2.2.2.2⟩
theorem RCt.keep {F : Nat → Prop} {w w' : World} {g o : Nat} {y : Ct} (h : RCt w g o y) (k : Keep F w w') (hn : ¬ F g) : RCt w' g o y := ⟨k.cell h.1 hn, k.cell h.2.1 hn, k.cell h.2.2.1 hn, k.cell h.2.2.2.1 hn, k.cell h.2.2.2.2 hn⟩
section
variable {H : Type} {enc : TypeId × Value → H} {W : World}
set_option maxRecDepth 100000 in
theorem trod_counts {n : Nat} {cs : List Value} {x : DataW H × List MemPlace} (hl : cs.length = 5) (h : DataW.trod enc Try.prog W 0 (fun _ => true) true n 78 cs = some x) :
    ∃ y : Ct, cs = [.bool y.fr, .int .i64 y.i, .int .i64 y.o, .int .i64 y.cs, .int .i64 y.l] := by
  match cs, hl with
  | [v0, v1, v2, v3, v4], _ =>
    obtain ⟨xs, m, _, _, _, hlen, hf⟩ := DataW.trod_struct Try.underlying78 h
    have t0 := hf 0 _ rfl
    have t1 := hf 1 _ rfl
    have t2 := hf 2 _ rfl
    have t3 := hf 3 _ rfl
    have t4 := hf 4 _ rfl
    obtain ⟨y0, q0⟩ : ∃ y, xs[0]? = some y := ⟨_, List.getElem?_eq_getElem (by rw [hlen]; decide)⟩
    obtain ⟨y1, q1⟩ : ∃ y, xs[1]? = some y := ⟨_, List.getElem?_eq_getElem (by rw [hlen]; decide)⟩
    obtain ⟨y2, q2⟩ : ∃ y, xs[2]? = some y := ⟨_, List.getElem?_eq_getElem (by rw [hlen]; decide)⟩
    obtain ⟨y3, q3⟩ : ∃ y, xs[3]? = some y := ⟨_, List.getElem?_eq_getElem (by rw [hlen]; decide)⟩
    obtain ⟨y4, q4⟩ : ∃ y, xs[4]? = some y := ⟨_, List.getElem?_eq_getElem (by rw [hlen]; decide)⟩
    rw [q0] at t0
    rw [q1] at t1
    rw [q2] at t2
    rw [q3] at t3
    rw [q4] at t4
    simp [cells_int, cells_bool] at t0 t1 t2 t3 t4
    obtain ⟨a, e0, _⟩ := DataW.trod_bool Try.underlying4 t0
    obtain ⟨b, e1, _, _⟩ := DataW.trod_int Try.underlying3 t1
    obtain ⟨c, e2, _, _⟩ := DataW.trod_int Try.underlying3 t2
    obtain ⟨d, e3, _, _⟩ := DataW.trod_int Try.underlying3 t3
    obtain ⟨e, e4, _, _⟩ := DataW.trod_int Try.underlying3 t4
    simp at e0 e1 e2 e3 e4
    subst e0 e1 e2 e3 e4
    exact ⟨⟨a, b, c, d, e⟩, rfl⟩
set_option maxRecDepth 100000 in
theorem open_counts {base : Nat} {v : Value} {d : DataW H} {p : List MemPlace} (hv : Value.okWide Try.prog W .any base 78 v) (h : DataW.Trod enc Try.prog W 0 (fun _ => true) true 78 v d p) :
    ∃ (fr : Bool) (i o cs l : Int), v = .agg #[.bool fr, .int .i64 i, .int .i64 o, .int .i64 cs, .int .i64 l] := by
  obtain ⟨cs, rfl, hsz⟩ := okWide_struct Try.underlying78 hv
  obtain ⟨fuel, hf⟩ := h
  obtain ⟨y, e⟩ := trod_counts (by simpa [Value.cells, cells_counts] using hsz) hf
  exact ⟨_, _, _, _, _, congrArg Value.agg (Array.ext' e)⟩
set_option maxRecDepth 100000 in
theorem open_cnts {base : Nat} {v : Value} {d : DataW H} {p : List MemPlace} (hv : Value.okWide Try.prog W .any base 24 v) (h : DataW.Trod enc Try.prog W 0 (fun _ => true) true 24 v d p) : ∃ ls : List Ct, Els RCt 5 W v ls ∧ ls.length ≤ maxLen :=
  haveI : Inhabited Ct := ⟨⟨false, 0, 0, 0, 0⟩⟩
  open_els (R := RCt) (sz := 5) Try.underlying24 cells_counts (by decide) (fun g o n cs x hl hc ht => by
    obtain ⟨y, rfl⟩ := trod_counts hl ht
    exact ⟨y, by simpa using hc 0 (by omega), by simpa using hc 1 (by omega), by simpa using hc 2 (by omega), by simpa using hc 3 (by omega), by simpa using hc 4 (by omega)⟩) hv h
end
end Go.Proofs.Ytgkihalokedmaaa

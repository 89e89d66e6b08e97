/-
  Tracks, what is told of them, rows of three numbers, slices of them and of truths among the arguments.
-/
import Derived.Test.YteknfjnfaedebaaElg
import Derived.Test.YteknfjnfaedebaaTkMath
import Derived.Test.YteknfjnfaedebaaKeep
import Derived.Laws.IdiomArrays
import Derived.OpenShut
namespace Go.Proofs.Yteknfjnfaedebaa
open Go.ChangeShapes Go.WideShapes Go.ChangeAt Go.RowKit Go.Joins

theorem cells_int : Try.prog.cellsOf 3 = 1 := by kernel_rfl
theorem cells_bool : Try.prog.cellsOf 4 = 1 := by kernel_rfl
theorem cells_axle : Try.prog.cellsOf 27 = 4 := by kernel_rfl
theorem cells_pair : Try.prog.cellsOf 29 = 3 := by kernel_rfl
theorem cells_track : Try.prog.cellsOf 31 = 11 := by kernel_rfl
theorem cells_counts : Try.prog.cellsOf 34 = 5 := by kernel_rfl
theorem cells_arr3 : Try.prog.cellsOf 23 = 3 := by kernel_rfl
/-- What is told of a track, at a place. -/
def RCt (w : World) (g o : Nat) (y : Ct) : Prop := w.cell? ⟨g, o, none⟩ = some (.bool y.fr) ∧ w.cell? ⟨g, o + 1, none⟩ = some (.int .i64 y.i) ∧ w.cell? ⟨g, o + 2, none⟩ = some (.int .i64 y.o) ∧ w.cell? ⟨g, o + 3, none⟩ = some (.int .i64 y.cs) ∧ w.cell? ⟨g, o + 4, none⟩ = some (.int .i64 y.l)
theorem RCt.below {w w' : World} {g o : Nat} {y : Ct} (h : RCt w g o y) (hb : Below w.heap.size w w') : RCt w' g o y := ⟨below_cell hb h.1, below_cell hb h.2.1, below_cell hb h.2.2.1, below_cell hb h.2.2.2.1, below_cell hb h.2.2.2.2⟩
theorem RCt.keep {F : Nat → Prop} {w w' : World} {g o : Nat} {y : Ct} (h : RCt w g o y) (k : Keep F w w') (hn : ¬ F g) : RCt w' g o y := ⟨k.cell h.1 hn, k.cell h.2.1 hn, k.cell h.2.2.1 hn, k.cell h.2.2.2.1 hn, k.cell h.2.2.2.2 hn⟩
/-- A truth at a place. -/
def RBo (w : World) (g o : Nat) (y : Bool) : Prop := w.cell? ⟨g, o, none⟩ = some (.bool y)
section
variable {H : Type} {enc : TypeId × Value → H} {W : World}
set_option maxRecDepth 100000 in
theorem trod_counts {n : Nat} {cs : List Value} {x : DataW H × List MemPlace} (hl : cs.length = 5) (h : DataW.trod enc Try.prog W 0 (fun _ => true) true n 34 cs = some x) :
    ∃ y : Ct, cs = [.bool y.fr, .int .i64 y.i, .int .i64 y.o, .int .i64 y.cs, .int .i64 y.l] := by
  match cs, hl with
  | [v0, v1, v2, v3, v4], _ =>
    obtain ⟨xs, m, _, _, _, hlen, hf⟩ := DataW.trod_struct Try.underlying34 h
    have t0 := hf 0 _ rfl
    have t1 := hf 1 _ rfl
    have t2 := hf 2 _ rfl
    have t3 := hf 3 _ rfl
    have t4 := hf 4 _ rfl
    obtain ⟨y0, q0⟩ : ∃ y, xs[0]? = some y := ⟨_, List.getElem?_eq_getElem (by rw [hlen]; decide)⟩
    obtain ⟨y1, q1⟩ : ∃ y, xs[1]? = some y := ⟨_, List.getElem?_eq_getElem (by rw [hlen]; decide)⟩
    obtain ⟨y2, q2⟩ : ∃ y, xs[2]? = some y := ⟨_, List.getElem?_eq_getElem (by rw [hlen]; decide)⟩
    obtain ⟨y3, q3⟩ : ∃ y, xs[3]? = some y := ⟨_, List.getElem?_eq_getElem (by rw [hlen]; decide)⟩
    obtain ⟨y4, q4⟩ : ∃ y, xs[4]? = some y := ⟨_, List.getElem?_eq_getElem (by rw [hlen]; decide)⟩
    rw [q0] at t0
    rw [q1] at t1
    rw [q2] at t2
    rw [q3] at t3
    rw [q4] at t4
    simp [cells_int, cells_bool] at t0 t1 t2 t3 t4
    obtain ⟨a, e0, _⟩ := DataW.trod_bool Try.underlying4 t0
    obtain ⟨b, e1, _, _⟩ := DataW.trod_int Try.underlying3 t1
    obtain ⟨c, e2, _, _⟩ := DataW.trod_int Try.underlying3 t2
    obtain ⟨d, e3, _, _⟩ := DataW.trod_int Try.underlying3 t3
    obtain ⟨e, e4, _, _⟩ := DataW.trod_int Try.underlying3 t4
    simp at e0 e1 e2 e3 e4
    subst e0 e1 e2 e3 e4
    exact ⟨⟨a, b, c, d, e⟩, rfl⟩
theorem open_counts {base : Nat} {v : Value} {d : DataW H} {p : List MemPlace} (hv : Value.okWide Try.prog W .any base 34 v) (h : DataW.Trod enc Try.prog W 0 (fun _ => true) true 34 v d p) :
    ∃ (fr : Bool) (i o cs l : Int), v = .agg #[.bool fr, .int .i64 i, .int .i64 o, .int .i64 cs, .int .i64 l] := by
  obtain ⟨cs, rfl, hsz⟩ := okWide_struct Try.underlying34 hv
  obtain ⟨fuel, hf⟩ := h
  obtain ⟨y, e⟩ := trod_counts (by simpa [Value.cells, cells_counts] using hsz) hf
  exact ⟨_, _, _, _, _, congrArg Value.agg (Array.ext' e)⟩
theorem open_cnts {base : Nat} {v : Value} {d : DataW H} {p : List MemPlace} (hv : Value.okWide Try.prog W .any base 22 v) (h : DataW.Trod enc Try.prog W 0 (fun _ => true) true 22 v d p) : ∃ ls : List Ct, Els RCt 5 W v ls ∧ ls.length ≤ maxLen :=
  haveI : Inhabited Ct := ⟨⟨false, 0, 0, 0, 0⟩⟩
  open_els (R := RCt) (sz := 5) Try.underlying22 cells_counts (by decide) (fun g o n cs x hl hc ht => by
    obtain ⟨y, rfl⟩ := trod_counts hl ht
    exact ⟨y, by simpa using hc 0 (by omega), by simpa using hc 1 (by omega), by simpa using hc 2 (by omega), by simpa using hc 3 (by omega), by simpa using hc 4 (by omega)⟩) hv h
theorem open_bools {base : Nat} {v : Value} {d : DataW H} {p : List MemPlace} (hv : Value.okWide Try.prog W .any base 24 v) (h : DataW.Trod enc Try.prog W 0 (fun _ => true) true 24 v d p) : ∃ ls : List Bool, Els RBo 1 W v ls ∧ ls.length ≤ maxLen :=
  open_els (R := RBo) (sz := 1) Try.underlying24 cells_bool (by decide) (fun g o n cs x hl hc ht => by
    match cs, hl with
    | [v0], _ =>
      obtain ⟨a, e0, _⟩ := DataW.trod_bool Try.underlying4 ht
      simp at e0
      subst e0
      exact ⟨a, by have := hc 0 (by omega); unfold RBo; simpa using this⟩) hv h
set_option maxRecDepth 100000 in
theorem open_arr3 {base : Nat} {v : Value} {d : DataW H} {p : List MemPlace} (hv : Value.okWide Try.prog W .any base 23 v) (h : DataW.Trod enc Try.prog W 0 (fun _ => true) true 23 v d p) :
    ∃ (a b c : Int), v = .agg #[.int .i64 a, .int .i64 b, .int .i64 c] := by
  obtain ⟨cs, rfl, hsz⟩ : ∃ cs, v = .agg cs ∧ cs.size = Try.prog.cellsOf 23 := by
    simp only [Value.okWide, Try.underlying23] at hv
    obtain ⟨cs, h1, h2, _⟩ := hv
    exact ⟨cs, h1, h2⟩
  obtain ⟨fuel, hf⟩ := h
  have hsz2 : cs.toList.length = 3 := by simpa [cells_arr3, cells_int] using hsz
  obtain ⟨l, e⟩ : ∃ l, cs.toList = l := ⟨_, rfl⟩
  simp only [Value.cells, e] at hf
  rw [e] at hsz2
  match l, hsz2 with
  | [v0, v1, v2], _ =>
    obtain ⟨z0, z1, z2, m2, _, s0, s1, s2⟩ := trod_array3 Try.underlying23 cells_int hf
    obtain ⟨a, e0, _, _⟩ := DataW.trod_int Try.underlying3 s0
    obtain ⟨b, e1, _, _⟩ := DataW.trod_int Try.underlying3 s1
    obtain ⟨c, e2, _, _⟩ := DataW.trod_int Try.underlying3 s2
    simp at e0 e1 e2
    subst e0 e1 e2
    exact ⟨a, b, c, congrArg Value.agg (Array.ext' e)⟩
set_option maxRecDepth 100000 in
theorem open_track {base : Nat} {v : Value} {d : DataW H} {p : List MemPlace} (hv : Value.okWide Try.prog W .any base 31 v) (h : DataW.Trod enc Try.prog W 0 (fun _ => true) true 31 v d p) :
    ∃ (h : Bool) (i o : Int) (g : Bool) (l s : Int) (j cl : Bool) (n : Int) (f c : Bool), v = .agg #[.bool h, .int .i64 i, .int .i64 o, .bool g, .int .i64 l, .int .i64 s, .bool j, .bool cl, .int .i64 n, .bool f, .bool c] ∧ PosR s := by
  obtain ⟨cs, rfl, hsz⟩ := okWide_struct Try.underlying31 hv
  obtain ⟨fuel, hf⟩ := h
  have hsz2 : cs.toList.length = 11 := by simpa [cells_track] using hsz
  obtain ⟨k, e⟩ : ∃ k, cs.toList = k := ⟨_, rfl⟩
  simp only [Value.cells, e] at hf
  rw [e] at hsz2
  match k, hsz2 with
  | [v0, v1, v2, v3, v4, v5, v6, v7, v8, v9, v10], _ =>
    obtain ⟨xs, m, _, _, _, hlen, hf⟩ := DataW.trod_struct Try.underlying31 hf
    have t0 := hf 0 _ rfl
    have t1 := hf 1 _ rfl
    have t2 := hf 2 _ rfl
    have t3 := hf 3 _ rfl
    have t4 := hf 4 _ rfl
    have t5 := hf 5 _ rfl
    obtain ⟨y0, q0⟩ : ∃ y, xs[0]? = some y := ⟨_, List.getElem?_eq_getElem (by rw [hlen]; decide)⟩
    obtain ⟨y1, q1⟩ : ∃ y, xs[1]? = some y := ⟨_, List.getElem?_eq_getElem (by rw [hlen]; decide)⟩
    obtain ⟨y2, q2⟩ : ∃ y, xs[2]? = some y := ⟨_, List.getElem?_eq_getElem (by rw [hlen]; decide)⟩
    obtain ⟨y3, q3⟩ : ∃ y, xs[3]? = some y := ⟨_, List.getElem?_eq_getElem (by rw [hlen]; decide)⟩
    obtain ⟨y4, q4⟩ : ∃ y, xs[4]? = some y := ⟨_, List.getElem?_eq_getElem (by rw [hlen]; decide)⟩
    obtain ⟨y5, q5⟩ : ∃ y, xs[5]? = some y := ⟨_, List.getElem?_eq_getElem (by rw [hlen]; decide)⟩
    rw [q0] at t0
    rw [q1] at t1
    rw [q2] at t2
    rw [q3] at t3
    rw [q4] at t4
    rw [q5] at t5
    simp [cells_int, cells_bool, cells_axle, cells_pair] at t0 t1 t2 t3 t4 t5
    obtain ⟨a0, a1, a2, a3, m0, _, _, r0, r1, r2, r3⟩ := trod_struct4 Try.underlying27 t0
    simp [cells_int, cells_bool] at r0 r1 r2 r3
    obtain ⟨b0, b1, b2, m1, _, _, s0, s1, s2⟩ := Go.Deep.trod_struct3 Try.underlying29 t1
    simp [cells_int, cells_bool] at s0 s1 s2
    obtain ⟨h, e0, _⟩ := DataW.trod_bool Try.underlying4 r0
    obtain ⟨i, e1, _, _⟩ := DataW.trod_int Try.underlying3 r1
    obtain ⟨o, e2, _, _⟩ := DataW.trod_int Try.underlying3 r2
    obtain ⟨g, e3, _⟩ := DataW.trod_bool Try.underlying4 r3
    obtain ⟨l, e4, _, _⟩ := DataW.trod_int Try.underlying3 s0
    obtain ⟨s, e5, _, f5⟩ := DataW.trod_int Try.underlying3 s1
    obtain ⟨j, e6, _⟩ := DataW.trod_bool Try.underlying4 s2
    obtain ⟨cl, e7, _⟩ := DataW.trod_bool Try.underlying4 t2
    obtain ⟨n, e8, _, _⟩ := DataW.trod_int Try.underlying3 t3
    obtain ⟨f, e9, _⟩ := DataW.trod_bool Try.underlying4 t4
    obtain ⟨c, e10, _⟩ := DataW.trod_bool Try.underlying4 t5
    simp at e0 e1 e2 e3 e4 e5 e6 e7 e8 e9 e10
    subst e0 e1 e2 e3 e4 e5 e6 e7 e8 e9 e10
    exact ⟨h, i, o, g, l, s, j, cl, n, f, c, congrArg Value.agg (Array.ext' e), i64_of_wf f5⟩
end
end Go.Proofs.Yteknfjnfaedebaa

/-
  Times, roads, and what a step is told, among the arguments.
-/
import Derived.Test.YtbaljmflmkpmjaaElg
import Derived.Test.YtbaljmflmkpmjaaKeep
import Derived.Test.YtbaljmflmkpmjaaPhMath
import Derived.OpenShut
namespace Go.Proofs.Ytbaljmflmkpmjaa
open Go.ChangeShapes Go.WideShapes Go.ChangeAt Go.RowKit Go.Joins

theorem cells_phint : Try.prog.cellsOf 3 = 1 := by kernel_rfl
theorem cells_phflag : Try.prog.cellsOf 4 = 1 := by kernel_rfl
theorem cells_phbar : Try.prog.cellsOf 34 = 4 := by kernel_rfl
theorem cells_phdm : Try.prog.cellsOf 32 = 2 := by kernel_rfl
theorem cells_phroad : Try.prog.cellsOf 28 = 2 := by kernel_rfl
theorem cells_phts : Try.prog.cellsOf 23 = 10 := by kernel_rfl
theorem cells_phw : Try.prog.cellsOf 36 = 7 := by kernel_rfl
/-- What a step is told, at a place. -/
def RPh (w : World) (g o : Nat) (y : PhW) : Prop := w.cell? ⟨g, o, none⟩ = some (.bool y.cl) ∧ w.cell? ⟨g, o + 1, none⟩ = some (.bool y.ur) ∧ w.cell? ⟨g, o + 2, none⟩ = some (.bool y.a) ∧ w.cell? ⟨g, o + 3, none⟩ = some (.bool y.b) ∧ w.cell? ⟨g, o + 4, none⟩ = some (.bool y.c) ∧ w.cell? ⟨g, o + 5, none⟩ = some (.bool y.d) ∧ w.cell? ⟨g, o + 6, none⟩ = some (.bool y.ob)
theorem RPh.below {w w' : World} {g o : Nat} {y : PhW} (h : RPh w g o y) (hb : Below w.heap.size w w') : RPh w' g o y := ⟨below_cell hb h.1, below_cell hb h.2.1, below_cell hb h.2.2.1, below_cell hb h.2.2.2.1, below_cell hb h.2.2.2.2.1, below_cell hb h.2.2.2.2.2.1, below_cell hb h.2.2.2.2.2.2⟩
section
variable {H : Type} {enc : TypeId × Value → H} {W : World}
set_option maxRecDepth 100000 in
set_option maxHeartbeats 1000000 in
theorem trod_phw {n : Nat} {cs : List Value} {x : DataW H × List MemPlace} (hl : cs.length = 7) (h : DataW.trod enc Try.prog W 0 (fun _ => true) true n 36 cs = some x) :
    ∃ y : PhW, cs = [.bool y.cl, .bool y.ur, .bool y.a, .bool y.b, .bool y.c, .bool y.d, .bool y.ob] := by
  match cs, hl with
  | [v0, v1, v2, v3, v4, v5, v6], _ =>
    obtain ⟨y0, y1, y2, m, _, _, t0, t1, t2⟩ := Go.Deep.trod_struct3 Try.underlying36 h
    simp [cells_phflag, cells_phbar, cells_phdm] at t0 t1 t2
    obtain ⟨z0, z1, m0, _, _, r0, r1⟩ := trod_struct2 Try.underlying32 t0
    simp [cells_phflag] at r0 r1
    obtain ⟨u0, u1, u2, u3, m1, _, _, s0, s1, s2, s3⟩ := trod_struct4 Try.underlying34 t1
    simp [cells_phflag] at s0 s1 s2 s3
    obtain ⟨cl, e0, _⟩ := DataW.trod_bool Try.underlying4 r0
    obtain ⟨ur, e1, _⟩ := DataW.trod_bool Try.underlying4 r1
    obtain ⟨a, e2, _⟩ := DataW.trod_bool Try.underlying4 s0
    obtain ⟨b, e3, _⟩ := DataW.trod_bool Try.underlying4 s1
    obtain ⟨c, e4, _⟩ := DataW.trod_bool Try.underlying4 s2
    obtain ⟨d, e5, _⟩ := DataW.trod_bool Try.underlying4 s3
    obtain ⟨ob, e6, _⟩ := DataW.trod_bool Try.underlying4 t2
    simp at e0 e1 e2 e3 e4 e5 e6
    subst e0 e1 e2 e3 e4 e5 e6
    exact ⟨⟨cl, ur, a, b, c, d, ob⟩, rfl⟩
set_option maxRecDepth 100000 in
theorem open_worlds {base : Nat} {v : Value} {d : DataW H} {p : List MemPlace} (hv : Value.okWide Try.prog W .any base 24 v) (h : DataW.Trod enc Try.prog W 0 (fun _ => true) true 24 v d p) : ∃ ls : List PhW, Els RPh 7 W v ls ∧ ls.length ≤ maxLen :=
  haveI : Inhabited PhW := ⟨⟨false, false, false, false, false, false, false⟩⟩
  open_els (R := RPh) (sz := 7) Try.underlying24 cells_phw (by decide) (fun g o n cs x hl hc ht => by
    obtain ⟨y, rfl⟩ := trod_phw hl ht
    exact ⟨y, by simpa using hc 0 (by omega), by simpa using hc 1 (by omega), by simpa using hc 2 (by omega), by simpa using hc 3 (by omega), by simpa using hc 4 (by omega), by simpa using hc 5 (by omega), by simpa using hc 6 (by omega)⟩) hv h
set_option maxRecDepth 100000 in
theorem open_road {base : Nat} {v : Value} {d : DataW H} {p : List MemPlace} (hv : Value.okWide Try.prog W .any base 28 v) (h : DataW.Trod enc Try.prog W 0 (fun _ => true) true 28 v d p) :
    ∃ p s : Int, v = .agg #[.int .i64 p, .int .i64 s] := by
  obtain ⟨cs, rfl, hsz⟩ := okWide_struct Try.underlying28 hv
  obtain ⟨fuel, hf⟩ := h
  obtain ⟨c0, c1, e⟩ : ∃ c0 c1, cs.toList = [c0, c1] := by
    have hl : cs.toList.length = 2 := by simpa [cells_phroad] using hsz
    match cs.toList, hl with
    | [c0, c1], _ => exact ⟨c0, c1, rfl⟩
  obtain ⟨y0, y1, m, _, _, h0, h1⟩ := trod_struct2 Try.underlying28 hf
  simp [Value.cells, e, cells_phint] at h0 h1
  obtain ⟨p, e0, _⟩ := DataW.trod_int Try.underlying3 h0
  obtain ⟨s, e1, _⟩ := DataW.trod_int Try.underlying3 h1
  simp at e0 e1
  subst e0 e1
  exact ⟨p, s, congrArg Value.agg (Array.ext' e)⟩
set_option maxRecDepth 100000 in
set_option maxHeartbeats 1000000 in
theorem trod_ts {n : Nat} {cs : List Value} {x : DataW H × List MemPlace} (hl : cs.length = 10) (h : DataW.trod enc Try.prog W 0 (fun _ => true) true n 23 cs = some x) :
    ∃ T : PhT, cs = [.int .i64 T.am, .int .i64 T.re, .int .i64 T.en, .int .i64 T.tr, .int .i64 T.pr, .int .i64 T.op, .int .i64 T.ov, .int .i64 T.fr, .int .i64 T.ap, .int .i64 T.wa] := by
  match cs, hl with
  | [c0, c1, c2, c3, c4, c5, c6, c7, c8, c9], _ =>
    obtain ⟨xs, m, _, _, _, hlen, hf⟩ := DataW.trod_struct Try.underlying23 h
    have t0 := hf 0 _ rfl
    obtain ⟨y0, q0⟩ : ∃ y, xs[0]? = some y := ⟨_, List.getElem?_eq_getElem (by rw [hlen]; decide)⟩
    rw [q0] at t0
    simp [cells_phint] at t0
    obtain ⟨z0, e0, _⟩ := DataW.trod_int Try.underlying3 t0
    simp at e0
    subst e0
    have t1 := hf 1 _ rfl
    obtain ⟨y1, q1⟩ : ∃ y, xs[1]? = some y := ⟨_, List.getElem?_eq_getElem (by rw [hlen]; decide)⟩
    rw [q1] at t1
    simp [cells_phint] at t1
    obtain ⟨z1, e1, _⟩ := DataW.trod_int Try.underlying3 t1
    simp at e1
    subst e1
    have t2 := hf 2 _ rfl
    obtain ⟨y2, q2⟩ : ∃ y, xs[2]? = some y := ⟨_, List.getElem?_eq_getElem (by rw [hlen]; decide)⟩
    rw [q2] at t2
    simp [cells_phint] at t2
    obtain ⟨z2, e2, _⟩ := DataW.trod_int Try.underlying3 t2
    simp at e2
    subst e2
    have t3 := hf 3 _ rfl
    obtain ⟨y3, q3⟩ : ∃ y, xs[3]? = some y := ⟨_, List.getElem?_eq_getElem (by rw [hlen]; decide)⟩
    rw [q3] at t3
    simp [cells_phint] at t3
    obtain ⟨z3, e3, _⟩ := DataW.trod_int Try.underlying3 t3
    simp at e3
    subst e3
    have t4 := hf 4 _ rfl
    obtain ⟨y4, q4⟩ : ∃ y, xs[4]? = some y := ⟨_, List.getElem?_eq_getElem (by rw [hlen]; decide)⟩
    rw [q4] at t4
    simp [cells_phint] at t4
    obtain ⟨z4, e4, _⟩ := DataW.trod_int Try.underlying3 t4
    simp at e4
    subst e4
    have t5 := hf 5 _ rfl
    obtain ⟨y5, q5⟩ : ∃ y, xs[5]? = some y := ⟨_, List.getElem?_eq_getElem (by rw [hlen]; decide)⟩
    rw [q5] at t5
    simp [cells_phint] at t5
    obtain ⟨z5, e5, _⟩ := DataW.trod_int Try.underlying3 t5
    simp at e5
    subst e5
    have t6 := hf 6 _ rfl
    obtain ⟨y6, q6⟩ : ∃ y, xs[6]? = some y := ⟨_, List.getElem?_eq_getElem (by rw [hlen]; decide)⟩
    rw [q6] at t6
    simp [cells_phint] at t6
    obtain ⟨z6, e6, _⟩ := DataW.trod_int Try.underlying3 t6
    simp at e6
    subst e6
    have t7 := hf 7 _ rfl
    obtain ⟨y7, q7⟩ : ∃ y, xs[7]? = some y := ⟨_, List.getElem?_eq_getElem (by rw [hlen]; decide)⟩
    rw [q7] at t7
    simp [cells_phint] at t7
    obtain ⟨z7, e7, _⟩ := DataW.trod_int Try.underlying3 t7
    simp at e7
    subst e7
    have t8 := hf 8 _ rfl
    obtain ⟨y8, q8⟩ : ∃ y, xs[8]? = some y := ⟨_, List.getElem?_eq_getElem (by rw [hlen]; decide)⟩
    rw [q8] at t8
    simp [cells_phint] at t8
    obtain ⟨z8, e8, _⟩ := DataW.trod_int Try.underlying3 t8
    simp at e8
    subst e8
    have t9 := hf 9 _ rfl
    obtain ⟨y9, q9⟩ : ∃ y, xs[9]? = some y := ⟨_, List.getElem?_eq_getElem (by rw [hlen]; decide)⟩
    rw [q9] at t9
    simp [cells_phint] at t9
    obtain ⟨z9, e9, _⟩ := DataW.trod_int Try.underlying3 t9
    simp at e9
    subst e9
    exact ⟨⟨z0, z1, z2, z3, z4, z5, z6, z7, z8, z9⟩, rfl⟩
set_option maxRecDepth 100000 in
theorem open_ts {base : Nat} {v : Value} {d : DataW H} {p : List MemPlace} (hv : Value.okWide Try.prog W .any base 23 v) (h : DataW.Trod enc Try.prog W 0 (fun _ => true) true 23 v d p) :
    ∃ T : PhT, v = .agg #[.int .i64 T.am, .int .i64 T.re, .int .i64 T.en, .int .i64 T.tr, .int .i64 T.pr, .int .i64 T.op, .int .i64 T.ov, .int .i64 T.fr, .int .i64 T.ap, .int .i64 T.wa] := by
  obtain ⟨cs, rfl, hsz⟩ := okWide_struct Try.underlying23 hv
  obtain ⟨fuel, hf⟩ := h
  obtain ⟨T, e⟩ := trod_ts (by simpa [Value.cells, cells_phts] using hsz) hf
  exact ⟨T, congrArg Value.agg (Array.ext' e)⟩
end
end Go.Proofs.Ytbaljmflmkpmjaa

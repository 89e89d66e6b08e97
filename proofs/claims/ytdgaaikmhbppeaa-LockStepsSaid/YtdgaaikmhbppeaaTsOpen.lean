/-
  Times among the arguments.
-/
import Derived.Test.YtdgaaikmhbppeaaElg
import Derived.Test.YtdgaaikmhbppeaaPhMath
import Derived.OpenShut
namespace Go.Proofs.Ytdgaaikmhbppeaa
open Go.ChangeShapes Go.WideShapes Go.ChangeAt Go.RowKit Go.Joins

theorem cells_phint : Try.prog.cellsOf 3 = 1 := by kernel_rfl
theorem cells_phts : Try.prog.cellsOf 24 = 10 := by kernel_rfl
/-- Times of sixty-four bits. -/
def TsR (T : PhT) : Prop := (-9223372036854775808 ≤ T.am ∧ T.am ≤ 9223372036854775807) ∧ (-9223372036854775808 ≤ T.re ∧ T.re ≤ 9223372036854775807) ∧ (-9223372036854775808 ≤ T.en ∧ T.en ≤ 9223372036854775807) ∧ (-9223372036854775808 ≤ T.tr ∧ T.tr ≤ 9223372036854775807) ∧ (-9223372036854775808 ≤ T.pr ∧ T.pr ≤ 9223372036854775807) ∧ (-9223372036854775808 ≤ T.op ∧ T.op ≤ 9223372036854775807) ∧ (-9223372036854775808 ≤ T.ov ∧ T.ov ≤ 9223372036854775807) ∧ (-9223372036854775808 ≤ T.fr ∧ T.fr ≤ 9223372036854775807) ∧ (-9223372036854775808 ≤ T.ap ∧ T.ap ≤ 9223372036854775807) ∧ (-9223372036854775808 ≤ T.wa ∧ T.wa ≤ 9223372036854775807)
section
variable {H : Type} {enc : TypeId × Value → H} {W : World}
set_option maxRecDepth 100000 in
set_option maxHeartbeats 1000000 in
theorem trod_ts {n : Nat} {cs : List Value} {x : DataW H × List MemPlace} (hl : cs.length = 10) (h : DataW.trod enc Try.prog W 0 (fun _ => true) true n 24 cs = some x) :
    ∃ T : PhT, cs = [.int .i64 T.am, .int .i64 T.re, .int .i64 T.en, .int .i64 T.tr, .int .i64 T.pr, .int .i64 T.op, .int .i64 T.ov, .int .i64 T.fr, .int .i64 T.ap, .int .i64 T.wa] ∧ TsR T := by
  match cs, hl with
  | [c0, c1, c2, c3, c4, c5, c6, c7, c8, c9], _ =>
    obtain ⟨xs, m, _, _, _, hlen, hf⟩ := DataW.trod_struct Try.underlying24 h
    have t0 := hf 0 _ rfl
    obtain ⟨y0, q0⟩ : ∃ y, xs[0]? = some y := ⟨_, List.getElem?_eq_getElem (by rw [hlen]; decide)⟩
    rw [q0] at t0
    simp [cells_phint] at t0
    obtain ⟨z0, e0, _, f0⟩ := DataW.trod_int Try.underlying3 t0
    simp at e0
    subst e0
    have t1 := hf 1 _ rfl
    obtain ⟨y1, q1⟩ : ∃ y, xs[1]? = some y := ⟨_, List.getElem?_eq_getElem (by rw [hlen]; decide)⟩
    rw [q1] at t1
    simp [cells_phint] at t1
    obtain ⟨z1, e1, _, f1⟩ := DataW.trod_int Try.underlying3 t1
    simp at e1
    subst e1
    have t2 := hf 2 _ rfl
    obtain ⟨y2, q2⟩ : ∃ y, xs[2]? = some y := ⟨_, List.getElem?_eq_getElem (by rw [hlen]; decide)⟩
    rw [q2] at t2
    simp [cells_phint] at t2
    obtain ⟨z2, e2, _, f2⟩ := DataW.trod_int Try.underlying3 t2
    simp at e2
    subst e2
    have t3 := hf 3 _ rfl
    obtain ⟨y3, q3⟩ : ∃ y, xs[3]? = some y := ⟨_, List.getElem?_eq_getElem (by rw [hlen]; decide)⟩
    rw [q3] at t3
    simp [cells_phint] at t3
    obtain ⟨z3, e3, _, f3⟩ := DataW.trod_int Try.underlying3 t3
    simp at e3
    subst e3
    have t4 := hf 4 _ rfl
    obtain ⟨y4, q4⟩ : ∃ y, xs[4]? = some y := ⟨_, List.getElem?_eq_getElem (by rw [hlen]; decide)⟩
    rw [q4] at t4
    simp [cells_phint] at t4
    obtain ⟨z4, e4, _, f4⟩ := DataW.trod_int Try.underlying3 t4
    simp at e4
    subst e4
    have t5 := hf 5 _ rfl
    obtain ⟨y5, q5⟩ : ∃ y, xs[5]? = some y := ⟨_, List.getElem?_eq_getElem (by rw [hlen]; decide)⟩
    rw [q5] at t5
    simp [cells_phint] at t5
    obtain ⟨z5, e5, _, f5⟩ := DataW.trod_int Try.underlying3 t5
    simp at e5
    subst e5
    have t6 := hf 6 _ rfl
    obtain ⟨y6, q6⟩ : ∃ y, xs[6]? = some y := ⟨_, List.getElem?_eq_getElem (by rw [hlen]; decide)⟩
    rw [q6] at t6
    simp [cells_phint] at t6
    obtain ⟨z6, e6, _, f6⟩ := DataW.trod_int Try.underlying3 t6
    simp at e6
    subst e6
    have t7 := hf 7 _ rfl
    obtain ⟨y7, q7⟩ : ∃ y, xs[7]? = some y := ⟨_, List.getElem?_eq_getElem (by rw [hlen]; decide)⟩
    rw [q7] at t7
    simp [cells_phint] at t7
    obtain ⟨z7, e7, _, f7⟩ := DataW.trod_int Try.underlying3 t7
    simp at e7
    subst e7
    have t8 := hf 8 _ rfl
    obtain ⟨y8, q8⟩ : ∃ y, xs[8]? = some y := ⟨_, List.getElem?_eq_getElem (by rw [hlen]; decide)⟩
    rw [q8] at t8
    simp [cells_phint] at t8
    obtain ⟨z8, e8, _, f8⟩ := DataW.trod_int Try.underlying3 t8
    simp at e8
    subst e8
    have t9 := hf 9 _ rfl
    obtain ⟨y9, q9⟩ : ∃ y, xs[9]? = some y := ⟨_, List.getElem?_eq_getElem (by rw [hlen]; decide)⟩
    rw [q9] at t9
    simp [cells_phint] at t9
    obtain ⟨z9, e9, _, f9⟩ := DataW.trod_int Try.underlying3 t9
    simp at e9
    subst e9
    exact ⟨⟨z0, z1, z2, z3, z4, z5, z6, z7, z8, z9⟩, rfl, i64_of_wf f0, i64_of_wf f1, i64_of_wf f2, i64_of_wf f3, i64_of_wf f4, i64_of_wf f5, i64_of_wf f6, i64_of_wf f7, i64_of_wf f8, i64_of_wf f9⟩
set_option maxRecDepth 100000 in
theorem open_tsR {base : Nat} {v : Value} {d : DataW H} {p : List MemPlace} (hv : Value.okWide Try.prog W .any base 24 v) (h : DataW.Trod enc Try.prog W 0 (fun _ => true) true 24 v d p) :
    ∃ T : PhT, v = .agg #[.int .i64 T.am, .int .i64 T.re, .int .i64 T.en, .int .i64 T.tr, .int .i64 T.pr, .int .i64 T.op, .int .i64 T.ov, .int .i64 T.fr, .int .i64 T.ap, .int .i64 T.wa] ∧ TsR T := by
  obtain ⟨cs, rfl, hsz⟩ := okWide_struct Try.underlying24 hv
  obtain ⟨fuel, hf⟩ := h
  obtain ⟨T, e, hr⟩ := trod_ts (by simpa [Value.cells, cells_phts] using hsz) hf
  exact ⟨T, congrArg Value.agg (Array.ext' e), hr⟩
theorem open_ts {base : Nat} {v : Value} {d : DataW H} {p : List MemPlace} (hv : Value.okWide Try.prog W .any base 24 v) (h : DataW.Trod enc Try.prog W 0 (fun _ => true) true 24 v d p) :
    ∃ T : PhT, v = .agg #[.int .i64 T.am, .int .i64 T.re, .int .i64 T.en, .int .i64 T.tr, .int .i64 T.pr, .int .i64 T.op, .int .i64 T.ov, .int .i64 T.fr, .int .i64 T.ap, .int .i64 T.wa] :=
  let ⟨T, e, _⟩ := open_tsR hv h; ⟨T, e⟩
end
end Go.Proofs.Ytdgaaikmhbppeaa

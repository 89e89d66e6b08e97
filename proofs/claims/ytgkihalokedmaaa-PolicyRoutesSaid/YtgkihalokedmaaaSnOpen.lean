/-
  The inputs of a controller among the arguments; where their tracks lie.
-/
import Derived.Test.YtgkihalokedmaaaCtOpen
namespace Go.Proofs.Ytgkihalokedmaaa
open Go.ChangeShapes Go.WideShapes Go.ChangeAt Go.RowKit Go.Joins

theorem cells_barrier : Try.prog.cellsOf 23 = 4 := by kernel_rfl
theorem cells_cnts : Try.prog.cellsOf 24 = 1 := by kernel_rfl
theorem cells_inputs : Try.prog.cellsOf 26 = 12 := by kernel_rfl
section
variable {H : Type} {enc : TypeId × Value → H} {W : World}
set_option maxRecDepth 100000 in
set_option maxHeartbeats 1000000 in
theorem open_inputsR {base : Nat} {v : Value} {d : DataW H} {p : List MemPlace} (hv : Value.okWide Try.prog W .any base 26 v) (h : DataW.Trod enc Try.prog W 0 (fun _ => true) true 26 v d p) :
    ∃ (a b c d s l o : Bool) (m : Int) (mn ba : Bool) (r : Int) (tv : Value) (ls : List Ct), v = .agg #[.bool a, .bool b, .bool c, .bool d, .bool s, .bool l, .bool o, .int .i64 m, .bool mn, .bool ba, .int .i64 r, tv] ∧ Els RCt 5 W tv ls ∧ ls.length ≤ maxLen ∧ -9223372036854775808 ≤ r ∧ r ≤ 9223372036854775807 := by
  obtain ⟨cs, rfl, hsz⟩ := okWide_struct Try.underlying26 hv
  obtain ⟨fuel, hf⟩ := h
  have hsz2 : cs.toList.length = 12 := by simpa [cells_inputs] using hsz
  obtain ⟨k, e⟩ : ∃ k, cs.toList = k := ⟨_, rfl⟩
  simp only [Value.cells, e] at hf
  rw [e] at hsz2
  match k, hsz2 with
  | [v0, v1, v2, v3, v4, v5, v6, v7, v8, v9, v10, v11], _ =>
    obtain ⟨xs, m, _, _, _, hlen, hf⟩ := DataW.trod_struct Try.underlying26 hf
    have t0 := hf 0 _ rfl
    obtain ⟨y0, q0⟩ : ∃ y, xs[0]? = some y := ⟨_, List.getElem?_eq_getElem (by rw [hlen]; decide)⟩
    rw [q0] at t0
    simp [cells_barrier] at t0
    have t1 := hf 1 _ rfl
    obtain ⟨y1, q1⟩ : ∃ y, xs[1]? = some y := ⟨_, List.getElem?_eq_getElem (by rw [hlen]; decide)⟩
    rw [q1] at t1
    simp [cells_bool] at t1
    have t2 := hf 2 _ rfl
    obtain ⟨y2, q2⟩ : ∃ y, xs[2]? = some y := ⟨_, List.getElem?_eq_getElem (by rw [hlen]; decide)⟩
    rw [q2] at t2
    simp [cells_bool] at t2
    have t3 := hf 3 _ rfl
    obtain ⟨y3, q3⟩ : ∃ y, xs[3]? = some y := ⟨_, List.getElem?_eq_getElem (by rw [hlen]; decide)⟩
    rw [q3] at t3
    simp [cells_bool] at t3
    have t4 := hf 4 _ rfl
    obtain ⟨y4, q4⟩ : ∃ y, xs[4]? = some y := ⟨_, List.getElem?_eq_getElem (by rw [hlen]; decide)⟩
    rw [q4] at t4
    simp [cells_int] at t4
    have t5 := hf 5 _ rfl
    obtain ⟨y5, q5⟩ : ∃ y, xs[5]? = some y := ⟨_, List.getElem?_eq_getElem (by rw [hlen]; decide)⟩
    rw [q5] at t5
    simp [cells_bool] at t5
    have t6 := hf 6 _ rfl
    obtain ⟨y6, q6⟩ : ∃ y, xs[6]? = some y := ⟨_, List.getElem?_eq_getElem (by rw [hlen]; decide)⟩
    rw [q6] at t6
    simp [cells_bool] at t6
    have t7 := hf 7 _ rfl
    obtain ⟨y7, q7⟩ : ∃ y, xs[7]? = some y := ⟨_, List.getElem?_eq_getElem (by rw [hlen]; decide)⟩
    rw [q7] at t7
    simp [cells_int] at t7
    have t8 := hf 8 _ rfl
    obtain ⟨y8, q8⟩ : ∃ y, xs[8]? = some y := ⟨_, List.getElem?_eq_getElem (by rw [hlen]; decide)⟩
    rw [q8] at t8
    simp [cells_cnts] at t8
    obtain ⟨a0, a1, a2, a3, m0, _, _, r0, r1, r2, r3⟩ := trod_struct4 Try.underlying23 t0
    simp [cells_bool] at r0 r1 r2 r3
    obtain ⟨a, e0, _⟩ := DataW.trod_bool Try.underlying4 r0
    obtain ⟨b, e1, _⟩ := DataW.trod_bool Try.underlying4 r1
    obtain ⟨c, e2, _⟩ := DataW.trod_bool Try.underlying4 r2
    obtain ⟨d, e3, _⟩ := DataW.trod_bool Try.underlying4 r3
    obtain ⟨s, e4, _⟩ := DataW.trod_bool Try.underlying4 t1
    obtain ⟨l, e5, _⟩ := DataW.trod_bool Try.underlying4 t2
    obtain ⟨o, e6, _⟩ := DataW.trod_bool Try.underlying4 t3
    obtain ⟨md, e7, _, _⟩ := DataW.trod_int Try.underlying3 t4
    obtain ⟨mn, e8, _⟩ := DataW.trod_bool Try.underlying4 t5
    obtain ⟨ba, e9, _⟩ := DataW.trod_bool Try.underlying4 t6
    obtain ⟨r, e10, _, hw10⟩ := DataW.trod_int Try.underlying3 t7
    obtain ⟨ta, tl, tc, e11⟩ := Go.Joins.slice_form Try.underlying24 t8
    have hr := i64_of_wf hw10
    simp at e0 e1 e2 e3 e4 e5 e6 e7 e8 e9 e10 e11
    subst e0 e1 e2 e3 e4 e5 e6 e7 e8 e9 e10 e11
    haveI : Inhabited Ct := ⟨⟨false, 0, 0, 0, 0⟩⟩
    obtain ⟨ls, hs, hm⟩ := open_els_at (R := RCt) (sz := 5) Try.underlying24 cells_counts (by decide) (fun g o n cs x hl hc ht => by
      obtain ⟨y, rfl⟩ := trod_counts hl ht
      exact ⟨y, by simpa using hc 0 (by omega), by simpa using hc 1 (by omega), by simpa using hc 2 (by omega), by simpa using hc 3 (by omega), by simpa using hc 4 (by omega)⟩) (d := y8.1) (p := y8.2) ⟨m, t8⟩
    exact ⟨a, b, c, d, s, l, o, md, mn, ba, r, _, ls, congrArg Value.agg (Array.ext' e), hs, hm, hr⟩
theorem open_inputs {base : Nat} {v : Value} {d : DataW H} {p : List MemPlace} (hv : Value.okWide Try.prog W .any base 26 v) (h : DataW.Trod enc Try.prog W 0 (fun _ => true) true 26 v d p) :
    ∃ (a b c d s l o : Bool) (m : Int) (mn ba : Bool) (r : Int) (tv : Value) (ls : List Ct), v = .agg #[.bool a, .bool b, .bool c, .bool d, .bool s, .bool l, .bool o, .int .i64 m, .bool mn, .bool ba, .int .i64 r, tv] ∧ Els RCt 5 W tv ls ∧ ls.length ≤ maxLen :=
  let ⟨a, b, c, d, s, l, o, m, mn, ba, r, tv, ls, e, hs, hm, _⟩ := open_inputsR hv h; ⟨a, b, c, d, s, l, o, m, mn, ba, r, tv, ls, e, hs, hm⟩
end
end Go.Proofs.Ytgkihalokedmaaa

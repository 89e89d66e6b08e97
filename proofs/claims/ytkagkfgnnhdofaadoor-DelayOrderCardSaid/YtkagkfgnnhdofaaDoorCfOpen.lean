/-
  Lines and crossings among the arguments.
-/
import Derived.Test.YtkagkfgnnhdofaaDoorOpen
import Derived.Test.YtkagkfgnnhdofaaDoorCfA
import Derived.Test.YtkagkfgnnhdofaaDoorElg
import Derived.Laws.IdiomArrays
namespace Go.Proofs.YtkagkfgnnhdofaaDoor
open Go.ChangeShapes Go.WideShapes Go.ChangeAt Go.RowKit

theorem cellsInt : Tryd.prog.cellsOf 3 = 1 := by kernel_rfl
theorem cellsArr3 : Tryd.prog.cellsOf 32 = 3 := by kernel_rfl
theorem cellsTs : Tryd.prog.cellsOf 37 = 10 := by kernel_rfl
theorem cellsLine : Tryd.prog.cellsOf 34 = 5 := by kernel_rfl
theorem cellsLines : Tryd.prog.cellsOf 35 = 1 := by kernel_rfl
theorem cellsCfg : Tryd.prog.cellsOf 39 = 11 := by kernel_rfl
/-- A line whose numbers are of sixty-four bits. -/
def LnR (l : Ln) : Prop := (-9223372036854775808 ≤ l.k ∧ l.k ≤ 9223372036854775807) ∧ (-9223372036854775808 ≤ l.g ∧ l.g ≤ 9223372036854775807) ∧ (-9223372036854775808 ≤ l.a ∧ l.a ≤ 9223372036854775807) ∧ (-9223372036854775808 ≤ l.b ∧ l.b ≤ 9223372036854775807) ∧ (-9223372036854775808 ≤ l.c ∧ l.c ≤ 9223372036854775807)
section
variable {H : Type} {enc : TypeId × Value → H} {W : World}
set_option maxRecDepth 100000 in
theorem trod_lineR {n : Nat} {cs : List Value} {x : DataW H × List MemPlace} (hl : cs.length = 5) (h : DataW.trod enc Tryd.prog W 0 (fun _ => true) true n 34 cs = some x) :
    ∃ l : Ln, cs = [.int .i64 l.k, .int .i64 l.g, .int .i64 l.a, .int .i64 l.b, .int .i64 l.c] ∧ LnR l := by
  match cs, hl with
  | [v0, v1, v2, v3, v4], _ =>
    obtain ⟨y0, y1, y2, m, _, _, t0, t1, t2⟩ := Go.Deep.trod_struct3 Tryd.underlying34 h
    simp [cellsInt, cellsArr3] at t0 t1 t2
    obtain ⟨k, e0, _, f0⟩ := DataW.trod_int Tryd.underlying3 t0
    obtain ⟨g, e1, _, f1⟩ := DataW.trod_int Tryd.underlying3 t1
    obtain ⟨z0, z1, z2, m2, _, s0, s1, s2⟩ := trod_array3 Tryd.underlying32 cellsInt t2
    obtain ⟨a, e2, _, f2⟩ := DataW.trod_int Tryd.underlying3 s0
    obtain ⟨b, e3, _, f3⟩ := DataW.trod_int Tryd.underlying3 s1
    obtain ⟨c, e4, _, f4⟩ := DataW.trod_int Tryd.underlying3 s2
    simp at e0 e1 e2 e3 e4
    subst e0 e1 e2 e3 e4
    exact ⟨⟨k, g, a, b, c⟩, rfl, i64_of_wf f0, i64_of_wf f1, i64_of_wf f2, i64_of_wf f3, i64_of_wf f4⟩
theorem trod_line {n : Nat} {cs : List Value} {x : DataW H × List MemPlace} (hl : cs.length = 5) (h : DataW.trod enc Tryd.prog W 0 (fun _ => true) true n 34 cs = some x) :
    ∃ l : Ln, cs = [.int .i64 l.k, .int .i64 l.g, .int .i64 l.a, .int .i64 l.b, .int .i64 l.c] :=
  let ⟨l, e, _⟩ := trod_lineR hl h; ⟨l, e⟩
set_option maxRecDepth 100000 in
theorem read_line (g o n : Nat) (cs : List Value) (x) (hl : cs.length = 5) (hc : ∀ i, i < 5 → W.cell? ⟨g, o + i, none⟩ = cs[i]?) (h : DataW.trod enc Tryd.prog W 0 (fun _ => true) true n 34 cs = some x) : ∃ y, RLn W g o y := by
  obtain ⟨l, rfl⟩ := trod_line hl h
  exact ⟨l, by simpa using hc 0 (by omega), by simpa using hc 1 (by omega), by simpa using hc 2 (by omega), by simpa using hc 3 (by omega), by simpa using hc 4 (by omega)⟩
set_option maxRecDepth 100000 in
theorem trod_times {n : Nat} {cs : List Value} {x : DataW H × List MemPlace} (hl : cs.length = 10) (h : DataW.trod enc Tryd.prog W 0 (fun _ => true) true n 37 cs = some x) :
    ∃ T : Nat → Int, cs = [.int .i64 (T 0), .int .i64 (T 1), .int .i64 (T 2), .int .i64 (T 3), .int .i64 (T 4), .int .i64 (T 5), .int .i64 (T 6), .int .i64 (T 7), .int .i64 (T 8), .int .i64 (T 9)] := by
  match cs, hl with
  | [c0, c1, c2, c3, c4, c5, c6, c7, c8, c9], _ =>
    obtain ⟨xs, m, _, _, _, hlen, hf⟩ := DataW.trod_struct Tryd.underlying37 h
    have t0 := hf 0 _ rfl
    obtain ⟨y0, q0⟩ : ∃ y, xs[0]? = some y := ⟨_, List.getElem?_eq_getElem (by rw [hlen]; decide)⟩
    rw [q0] at t0
    simp [cellsInt] at t0
    obtain ⟨z0, e0, _⟩ := DataW.trod_int Tryd.underlying3 t0
    simp at e0
    subst e0
    have t1 := hf 1 _ rfl
    obtain ⟨y1, q1⟩ : ∃ y, xs[1]? = some y := ⟨_, List.getElem?_eq_getElem (by rw [hlen]; decide)⟩
    rw [q1] at t1
    simp [cellsInt] at t1
    obtain ⟨z1, e1, _⟩ := DataW.trod_int Tryd.underlying3 t1
    simp at e1
    subst e1
    have t2 := hf 2 _ rfl
    obtain ⟨y2, q2⟩ : ∃ y, xs[2]? = some y := ⟨_, List.getElem?_eq_getElem (by rw [hlen]; decide)⟩
    rw [q2] at t2
    simp [cellsInt] at t2
    obtain ⟨z2, e2, _⟩ := DataW.trod_int Tryd.underlying3 t2
    simp at e2
    subst e2
    have t3 := hf 3 _ rfl
    obtain ⟨y3, q3⟩ : ∃ y, xs[3]? = some y := ⟨_, List.getElem?_eq_getElem (by rw [hlen]; decide)⟩
    rw [q3] at t3
    simp [cellsInt] at t3
    obtain ⟨z3, e3, _⟩ := DataW.trod_int Tryd.underlying3 t3
    simp at e3
    subst e3
    have t4 := hf 4 _ rfl
    obtain ⟨y4, q4⟩ : ∃ y, xs[4]? = some y := ⟨_, List.getElem?_eq_getElem (by rw [hlen]; decide)⟩
    rw [q4] at t4
    simp [cellsInt] at t4
    obtain ⟨z4, e4, _⟩ := DataW.trod_int Tryd.underlying3 t4
    simp at e4
    subst e4
    have t5 := hf 5 _ rfl
    obtain ⟨y5, q5⟩ : ∃ y, xs[5]? = some y := ⟨_, List.getElem?_eq_getElem (by rw [hlen]; decide)⟩
    rw [q5] at t5
    simp [cellsInt] at t5
    obtain ⟨z5, e5, _⟩ := DataW.trod_int Tryd.underlying3 t5
    simp at e5
    subst e5
    have t6 := hf 6 _ rfl
    obtain ⟨y6, q6⟩ : ∃ y, xs[6]? = some y := ⟨_, List.getElem?_eq_getElem (by rw [hlen]; decide)⟩
    rw [q6] at t6
    simp [cellsInt] at t6
    obtain ⟨z6, e6, _⟩ := DataW.trod_int Tryd.underlying3 t6
    simp at e6
    subst e6
    have t7 := hf 7 _ rfl
    obtain ⟨y7, q7⟩ : ∃ y, xs[7]? = some y := ⟨_, List.getElem?_eq_getElem (by rw [hlen]; decide)⟩
    rw [q7] at t7
    simp [cellsInt] at t7
    obtain ⟨z7, e7, _⟩ := DataW.trod_int Tryd.underlying3 t7
    simp at e7
    subst e7
    have t8 := hf 8 _ rfl
    obtain ⟨y8, q8⟩ : ∃ y, xs[8]? = some y := ⟨_, List.getElem?_eq_getElem (by rw [hlen]; decide)⟩
    rw [q8] at t8
    simp [cellsInt] at t8
    obtain ⟨z8, e8, _⟩ := DataW.trod_int Tryd.underlying3 t8
    simp at e8
    subst e8
    have t9 := hf 9 _ rfl
    obtain ⟨y9, q9⟩ : ∃ y, xs[9]? = some y := ⟨_, List.getElem?_eq_getElem (by rw [hlen]; decide)⟩
    rw [q9] at t9
    simp [cellsInt] at t9
    obtain ⟨z9, e9, _⟩ := DataW.trod_int Tryd.underlying3 t9
    simp at e9
    subst e9
    exact ⟨fun i => ([z0, z1, z2, z3, z4, z5, z6, z7, z8, z9] : List Int).getD i 0, rfl⟩
set_option maxRecDepth 100000 in
theorem open_line {base : Nat} {v : Value} {d : DataW H} {p : List MemPlace} (hv : Value.okWide Tryd.prog W .any base 34 v) (h : DataW.Trod enc Tryd.prog W 0 (fun _ => true) true 34 v d p) :
    ∃ l : Ln, v = .agg #[.int .i64 l.k, .int .i64 l.g, .int .i64 l.a, .int .i64 l.b, .int .i64 l.c] := by
  obtain ⟨cs, rfl, hsz⟩ := okWide_struct Tryd.underlying34 hv
  obtain ⟨fuel, hf⟩ := h
  obtain ⟨l, e⟩ := trod_line (by simpa [Value.cells, cellsLine] using hsz) hf
  exact ⟨l, congrArg Value.agg (Array.ext' e)⟩
set_option maxRecDepth 100000 in
theorem open_lineR {base : Nat} {v : Value} {d : DataW H} {p : List MemPlace} (hv : Value.okWide Tryd.prog W .any base 34 v) (h : DataW.Trod enc Tryd.prog W 0 (fun _ => true) true 34 v d p) :
    ∃ l : Ln, v = .agg #[.int .i64 l.k, .int .i64 l.g, .int .i64 l.a, .int .i64 l.b, .int .i64 l.c] ∧ LnR l := by
  obtain ⟨cs, rfl, hsz⟩ := okWide_struct Tryd.underlying34 hv
  obtain ⟨fuel, hf⟩ := h
  obtain ⟨l, e, hr⟩ := trod_lineR (by simpa [Value.cells, cellsLine] using hsz) hf
  exact ⟨l, congrArg Value.agg (Array.ext' e), hr⟩
set_option maxRecDepth 100000 in
theorem open_cfg {base : Nat} {v : Value} {d : DataW H} {p : List MemPlace} (hv : Value.okWide Tryd.prog W .any base 39 v) (h : DataW.Trod enc Tryd.prog W 0 (fun _ => true) true 39 v d p) :
    ∃ (u : Value) (T : Nat → Int) (ls : List Ln), v = .agg (cfc u T) ∧ Els RLn 5 W u ls ∧ ls.length ≤ maxLen := by
  obtain ⟨cs, rfl, hsz⟩ := okWide_struct Tryd.underlying39 hv
  rw [cellsCfg] at hsz
  obtain ⟨fuel, hf⟩ := h
  obtain ⟨y0, y1, m, _, _, h0, h1⟩ := trod_struct2 Tryd.underlying39 hf
  obtain ⟨c0, rest, e, hr⟩ : ∃ c0 rest, cs.toList = c0 :: rest ∧ rest.length = 10 := by
    rcases ht : cs.toList with _ | ⟨c0, rest⟩
    · have := congrArg List.length ht; simp [hsz] at this
    · have := congrArg List.length ht
      simp [hsz] at this
      exact ⟨c0, rest, rfl, this⟩
  simp [Value.cells, cellsLines, cellsTs, e] at h0 h1
  rw [List.take_of_length_le (by omega)] at h1
  obtain ⟨T, rfl⟩ := trod_times hr h1
  obtain ⟨a, l, cp, e2⟩ := Go.Joins.slice_form Tryd.underlying35 h0
  simp at e2
  subst e2
  obtain ⟨ls, hs, hm⟩ := open_els_at (R := RLn) (sz := 5) Tryd.underlying35 cellsLine (by decide) (fun g o n cs x hl hc ht => read_line g o n cs x hl hc ht) (d := y0.1) (p := y0.2) ⟨m, h0⟩
  exact ⟨_, T, ls, congrArg Value.agg (Array.ext' e), hs, hm⟩
end
end Go.Proofs.YtkagkfgnnhdofaaDoor

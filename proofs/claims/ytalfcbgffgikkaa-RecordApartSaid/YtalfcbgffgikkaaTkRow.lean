/-
  Tracks at a place, one and a slice of them among the arguments.
-/
import Derived.Test.YtalfcbgffgikkaaElg
import Derived.Test.YtalfcbgffgikkaaTkDat
import Derived.Test.YtalfcbgffgikkaaCellsN
namespace Go.Proofs.Ytalfcbgffgikkaa
open Go.ChangeShapes Go.WideShapes Go.ChangeAt Go.RowKit Go.Joins

theorem cells_axle : Try.prog.cellsOf 39 = 4 := by kernel_rfl
theorem cells_pair : Try.prog.cellsOf 41 = 3 := by kernel_rfl
theorem cells_track : Try.prog.cellsOf 43 = 11 := by kernel_rfl
/-- A track at a place. -/
def RTk (w : World) (g o : Nat) (y : Tk) : Prop := w.cell? ⟨g, o, none⟩ = some (.bool y.h) ∧ w.cell? ⟨g, o + 1, none⟩ = some (.int .i64 y.i) ∧ w.cell? ⟨g, o + 2, none⟩ = some (.int .i64 y.o) ∧ w.cell? ⟨g, o + 3, none⟩ = some (.bool y.g) ∧ w.cell? ⟨g, o + 4, none⟩ = some (.int .i64 y.l) ∧ w.cell? ⟨g, o + 5, none⟩ = some (.int .i64 y.s) ∧ w.cell? ⟨g, o + 6, none⟩ = some (.bool y.j) ∧ w.cell? ⟨g, o + 7, none⟩ = some (.bool y.cl) ∧ w.cell? ⟨g, o + 8, none⟩ = some (.int .i64 y.n) ∧ w.cell? ⟨g, o + 9, none⟩ = some (.bool y.f) ∧ w.cell? ⟨g, o + 10, none⟩ = some (.bool y.c)
theorem RTk.below {w w' : World} {g o : Nat} {y : Tk} (h : RTk w g o y) (hb : Below w.heap.size w w') : RTk w' g o y := ⟨below_cell hb h.1, below_cell hb h.2.1, below_cell hb h.2.2.1, below_cell hb h.2.2.2.1, below_cell hb h.2.2.2.2.1, below_cell hb h.2.2.2.2.2.1, below_cell hb h.2.2.2.2.2.2.1, below_cell hb h.2.2.2.2.2.2.2.1, below_cell hb h.2.2.2.2.2.2.2.2.1, below_cell hb h.2.2.2.2.2.2.2.2.2.1, below_cell hb h.2.2.2.2.2.2.2.2.2.2⟩
theorem RTk.keep {F : Nat → Prop} {w w' : World} {g o : Nat} {y : Tk} (h : RTk w g o y) (k : Keep F w w') (hn : ¬ F g) : RTk w' g o y := ⟨k.cell h.1 hn, k.cell h.2.1 hn, k.cell h.2.2.1 hn, k.cell h.2.2.2.1 hn, k.cell h.2.2.2.2.1 hn, k.cell h.2.2.2.2.2.1 hn, k.cell h.2.2.2.2.2.2.1 hn, k.cell h.2.2.2.2.2.2.2.1 hn, k.cell h.2.2.2.2.2.2.2.2.1 hn, k.cell h.2.2.2.2.2.2.2.2.2.1 hn, k.cell h.2.2.2.2.2.2.2.2.2.2 hn⟩
section
variable {H : Type} {enc : TypeId × Value → H} {W : World}
set_option maxRecDepth 100000 in
set_option maxHeartbeats 1000000 in
theorem trod_track {n : Nat} {cs : List Value} {x : DataW H × List MemPlace} (hl : cs.length = 11) (h : DataW.trod enc Try.prog W 0 (fun _ => true) true n 43 cs = some x) :
    ∃ y : Tk, cs = [.bool y.h, .int .i64 y.i, .int .i64 y.o, .bool y.g, .int .i64 y.l, .int .i64 y.s, .bool y.j, .bool y.cl, .int .i64 y.n, .bool y.f, .bool y.c] := by
  match cs, hl with
  | [v0, v1, v2, v3, v4, v5, v6, v7, v8, v9, v10], _ =>
    obtain ⟨xs, m, _, _, _, hlen, hf⟩ := DataW.trod_struct Try.underlying43 h
    have t0 := hf 0 _ rfl
    have t1 := hf 1 _ rfl
    have t2 := hf 2 _ rfl
    have t3 := hf 3 _ rfl
    have t4 := hf 4 _ rfl
    have t5 := hf 5 _ rfl
    obtain ⟨y0, q0⟩ : ∃ y, xs[0]? = some y := ⟨_, List.getElem?_eq_getElem (by rw [hlen]; decide)⟩
    obtain ⟨y1, q1⟩ : ∃ y, xs[1]? = some y := ⟨_, List.getElem?_eq_getElem (by rw [hlen]; decide)⟩
    obtain ⟨y2, q2⟩ : ∃ y, xs[2]? = some y := ⟨_, List.getElem?_eq_getElem (by rw [hlen]; decide)⟩
    obtain ⟨y3, q3⟩ : ∃ y, xs[3]? = some y := ⟨_, List.getElem?_eq_getElem (by rw [hlen]; decide)⟩
    obtain ⟨y4, q4⟩ : ∃ y, xs[4]? = some y := ⟨_, List.getElem?_eq_getElem (by rw [hlen]; decide)⟩
    obtain ⟨y5, q5⟩ : ∃ y, xs[5]? = some y := ⟨_, List.getElem?_eq_getElem (by rw [hlen]; decide)⟩
    rw [q0] at t0
    rw [q1] at t1
    rw [q2] at t2
    rw [q3] at t3
    rw [q4] at t4
    rw [q5] at t5
    simp [cells_int, cells_bool, cells_axle, cells_pair] at t0 t1 t2 t3 t4 t5
    obtain ⟨a0, a1, a2, a3, m0, _, _, r0, r1, r2, r3⟩ := trod_struct4 Try.underlying39 t0
    simp [cells_int, cells_bool] at r0 r1 r2 r3
    obtain ⟨b0, b1, b2, m1, _, _, s0, s1, s2⟩ := Go.Deep.trod_struct3 Try.underlying41 t1
    simp [cells_int, cells_bool] at s0 s1 s2
    obtain ⟨hd, e0, _⟩ := DataW.trod_bool Try.underlying4 r0
    obtain ⟨i, e1, _, _⟩ := DataW.trod_int Try.underlying3 r1
    obtain ⟨o, e2, _, _⟩ := DataW.trod_int Try.underlying3 r2
    obtain ⟨g, e3, _⟩ := DataW.trod_bool Try.underlying4 r3
    obtain ⟨l, e4, _, _⟩ := DataW.trod_int Try.underlying3 s0
    obtain ⟨s, e5, _, _⟩ := DataW.trod_int Try.underlying3 s1
    obtain ⟨j, e6, _⟩ := DataW.trod_bool Try.underlying4 s2
    obtain ⟨cl, e7, _⟩ := DataW.trod_bool Try.underlying4 t2
    obtain ⟨n, e8, _, _⟩ := DataW.trod_int Try.underlying3 t3
    obtain ⟨f, e9, _⟩ := DataW.trod_bool Try.underlying4 t4
    obtain ⟨c, e10, _⟩ := DataW.trod_bool Try.underlying4 t5
    simp at e0 e1 e2 e3 e4 e5 e6 e7 e8 e9 e10
    subst e0 e1 e2 e3 e4 e5 e6 e7 e8 e9 e10
    exact ⟨⟨hd, i, o, g, l, s, j, cl, n, f, c⟩, rfl⟩
set_option maxRecDepth 100000 in
theorem open_trk {base : Nat} {v : Value} {d : DataW H} {p : List MemPlace} (hv : Value.okWide Try.prog W .any base 43 v) (h : DataW.Trod enc Try.prog W 0 (fun _ => true) true 43 v d p) :
    ∃ (h : Bool) (i o : Int) (g : Bool) (l s : Int) (j cl : Bool) (n : Int) (f c : Bool), v = .agg #[.bool h, .int .i64 i, .int .i64 o, .bool g, .int .i64 l, .int .i64 s, .bool j, .bool cl, .int .i64 n, .bool f, .bool c] := by
  obtain ⟨cs, rfl, hsz⟩ := okWide_struct Try.underlying43 hv
  obtain ⟨fuel, hf⟩ := h
  obtain ⟨y, e⟩ := trod_track (by simpa [Value.cells, cells_track] using hsz) hf
  exact ⟨_, _, _, _, _, _, _, _, _, _, _, congrArg Value.agg (Array.ext' e)⟩
set_option maxRecDepth 100000 in
theorem open_tracks {base : Nat} {v : Value} {d : DataW H} {p : List MemPlace} (hv : Value.okWide Try.prog W .any base 24 v) (h : DataW.Trod enc Try.prog W 0 (fun _ => true) true 24 v d p) : ∃ ls : List Tk, Els RTk 11 W v ls ∧ ls.length ≤ maxLen :=
  haveI : Inhabited Tk := ⟨⟨false, 0, 0, false, 0, 0, false, false, 0, false, false⟩⟩
  open_els (R := RTk) (sz := 11) Try.underlying24 cells_track (by decide) (fun g o n cs x hl hc ht => by
    obtain ⟨y, rfl⟩ := trod_track hl ht
    exact ⟨y, by simpa using hc 0 (by omega), by simpa using hc 1 (by omega), by simpa using hc 2 (by omega), by simpa using hc 3 (by omega), by simpa using hc 4 (by omega), by simpa using hc 5 (by omega), by simpa using hc 6 (by omega), by simpa using hc 7 (by omega), by simpa using hc 8 (by omega), by simpa using hc 9 (by omega), by simpa using hc 10 (by omega)⟩) hv h
end
end Go.Proofs.Ytalfcbgffgikkaa

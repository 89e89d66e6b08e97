/-
  Signals at a place and among the arguments, one and a slice of them.
-/
import Derived.Test.YtdgaaikmhbppeaaElg
import Derived.Test.YtdgaaikmhbppeaaKeep
import Derived.Test.YtdgaaikmhbppeaaLoMath
import Derived.OpenShut
namespace Go.Proofs.Ytdgaaikmhbppeaa
open Go.ChangeShapes Go.WideShapes Go.ChangeAt Go.RowKit Go.Joins

theorem cells_lobool : Try.prog.cellsOf 4 = 1 := by kernel_rfl
theorem cells_loint : Try.prog.cellsOf 3 = 1 := by kernel_rfl
theorem cells_lock : Try.prog.cellsOf 27 = 2 := by kernel_rfl
/-- A number of sixty-four bits. -/
def LoR (n : Int) : Prop := -9223372036854775808 ≤ n ∧ n ≤ 9223372036854775807
/-- A signal, at a place. -/
def RLo (w : World) (g o : Nat) (y : Lo) : Prop := w.cell? ⟨g, o, none⟩ = some (.bool y.c) ∧ w.cell? ⟨g, o + 1, none⟩ = some (.int .i64 y.h) ∧ LoR y.h
theorem RLo.below {w w' : World} {g o : Nat} {y : Lo} (h : RLo w g o y) (hb : Below w.heap.size w w') : RLo w' g o y := ⟨below_cell hb h.1, below_cell hb h.2.1, h.2.2⟩
section
variable {H : Type} {enc : TypeId × Value → H} {W : World}
set_option maxRecDepth 100000 in
theorem trod_lock {n : Nat} {cs : List Value} {x : DataW H × List MemPlace} (hl : cs.length = 2) (h : DataW.trod enc Try.prog W 0 (fun _ => true) true n 27 cs = some x) :
    ∃ y : Lo, cs = [.bool y.c, .int .i64 y.h] ∧ LoR y.h := by
  match cs, hl with
  | [v0, v1], _ =>
    obtain ⟨y0, y1, m, _, _, t0, t1⟩ := trod_struct2 Try.underlying27 h
    simp [cells_lobool, cells_loint] at t0 t1
    obtain ⟨a, e0, _⟩ := DataW.trod_bool Try.underlying4 t0
    obtain ⟨b, e1, _, f1⟩ := DataW.trod_int Try.underlying3 t1
    simp at e0 e1
    subst e0 e1
    exact ⟨⟨a, b⟩, rfl, i64_of_wf f1⟩
set_option maxRecDepth 100000 in
theorem open_lock {base : Nat} {v : Value} {d : DataW H} {p : List MemPlace} (hv : Value.okWide Try.prog W .any base 27 v) (h : DataW.Trod enc Try.prog W 0 (fun _ => true) true 27 v d p) :
    ∃ (a : Bool) (b : Int), v = .agg #[.bool a, .int .i64 b] ∧ LoR b := by
  obtain ⟨cs, rfl, hsz⟩ := okWide_struct Try.underlying27 hv
  obtain ⟨fuel, hf⟩ := h
  obtain ⟨y, e, hr⟩ := trod_lock (by simpa [Value.cells, cells_lock] using hsz) hf
  exact ⟨_, _, congrArg Value.agg (Array.ext' e), hr⟩
set_option maxRecDepth 100000 in
theorem open_locks {base : Nat} {v : Value} {d : DataW H} {p : List MemPlace} (hv : Value.okWide Try.prog W .any base 22 v) (h : DataW.Trod enc Try.prog W 0 (fun _ => true) true 22 v d p) : ∃ ls : List Lo, Els RLo 2 W v ls ∧ ls.length ≤ maxLen :=
  haveI : Inhabited Lo := ⟨⟨false, 0⟩⟩
  open_els (R := RLo) (sz := 2) Try.underlying22 cells_lock (by decide) (fun g o n cs x hl hc ht => by
    obtain ⟨y, rfl, hr⟩ := trod_lock hl ht
    exact ⟨y, by simpa using hc 0 (by omega), by simpa using hc 1 (by omega), hr⟩) hv h
end
end Go.Proofs.Ytdgaaikmhbppeaa

/-
  Rows of bytes, and rows of acts, among the arguments.
-/
import Derived.Test.YtmfgfjkpijmgoaaDoorEls
namespace Go.Proofs.YtmfgfjkpijmgoaaDoor
open Go.ChangeShapes Go.WideShapes Go.ChangeAt Go.RowKit

theorem cellsBytes : Tryd.prog.cellsOf 28 = 1 := by kernel_rfl
set_option maxRecDepth 100000 in
theorem open_rows {H : Type} {enc : TypeId × Value → H} {W : World} {base : Nat} {v : Value} {d : DataW H} {p : List MemPlace}
    (hv : Value.okWide Tryd.prog W .any base 51 v) (h : DataW.Trod enc Tryd.prog W 0 (fun _ => true) true 51 v d p) : ∃ ls : List (List (BitVec 8)), Els RByts 1 W v ls ∧ ls.length ≤ maxLen :=
  open_els (H := H) (enc := enc) (W := W) (P := Tryd.prog) (t := 51) (e := 28) (sz := 1) (R := RByts) Tryd.underlying51 cellsBytes (by decide) (fun g o n cs x hl hc ht => by
    obtain ⟨u, rfl⟩ := List.length_eq_one_iff.1 hl
    exact read_byts g o n u x (by simpa using hc 0 (by omega)) ht) hv h

/-- An act: a tick, or a telegram. -/
structure Ac where
  tick : Bool
  c : Int
  q : Int
  xs : List (BitVec 8)
instance : Inhabited Ac := ⟨⟨false, 0, 0, []⟩⟩
def RAct (w : World) (g o : Nat) (y : Ac) : Prop := w.cell? ⟨g, o, none⟩ = some (.bool y.tick) ∧ w.cell? ⟨g, o + 1, none⟩ = some (.int .i64 y.c) ∧ w.cell? ⟨g, o + 2, none⟩ = some (.int .i64 y.q) ∧ RByts w g (o + 3) y.xs
theorem RAct.below {w w' : World} (hb : Below w.heap.size w w') {g o : Nat} {y : Ac} (h : RAct w g o y) : RAct w' g o y := ⟨below_cell hb h.1, below_cell hb h.2.1, below_cell hb h.2.2.1, h.2.2.2.below hb⟩
theorem cellsAct : Tryd.prog.cellsOf 32 = 4 := by kernel_rfl
theorem cellsBool : Tryd.prog.cellsOf 4 = 1 := by kernel_rfl
theorem cellsInt : Tryd.prog.cellsOf 3 = 1 := by kernel_rfl
theorem cellsFr3 : Tryd.prog.cellsOf 30 = 3 := by kernel_rfl
set_option maxRecDepth 100000 in
theorem read_act {H : Type} {enc : TypeId × Value → H} {W : World} (g o n : Nat) (cs : List Value) (x) (hl : cs.length = 4) (hc : ∀ i, i < 4 → W.cell? ⟨g, o + i, none⟩ = cs[i]?) (h : DataW.trod enc Tryd.prog W 0 (fun _ => true) true n 32 cs = some x) : ∃ y, RAct W g o y := by
  match cs, hl with
  | [v0, v1, v2, v3], _ =>
    obtain ⟨y0, y1, n1, _, _, t0, t1⟩ := trod_struct2 Tryd.underlying32 h
    simp [cellsBool, cellsFr3] at t0 t1
    obtain ⟨z0, z1, z2, n2, _, _, s0, s1, s2⟩ := Go.Deep.trod_struct3 Tryd.underlying30 t1
    simp [cellsInt, cellsBytes] at s0 s1 s2
    obtain ⟨b, e0, _⟩ := DataW.trod_bool Tryd.underlying4 t0
    obtain ⟨c, e1, _⟩ := DataW.trod_int Tryd.underlying3 s0
    obtain ⟨q, e2, _⟩ := DataW.trod_int Tryd.underlying3 s1
    simp at e0 e1 e2
    subst e0 e1 e2
    obtain ⟨xs, hx⟩ := read_byts g (o + 3) n2 v3 _ (by simpa using hc 3 (by omega)) s2
    exact ⟨⟨b, c, q, xs⟩, by simpa using hc 0 (by omega), by simpa using hc 1 (by omega), by simpa using hc 2 (by omega), hx⟩
set_option maxRecDepth 100000 in
theorem open_acts {H : Type} {enc : TypeId × Value → H} {W : World} {base : Nat} {v : Value} {d : DataW H} {p : List MemPlace}
    (hv : Value.okWide Tryd.prog W .any base 22 v) (h : DataW.Trod enc Tryd.prog W 0 (fun _ => true) true 22 v d p) : ∃ ls : List Ac, Els RAct 4 W v ls ∧ ls.length ≤ maxLen :=
  open_els (H := H) (enc := enc) (W := W) (P := Tryd.prog) (t := 22) (e := 32) (sz := 4) (R := RAct) Tryd.underlying22 cellsAct (by decide) (fun g o n cs x hl hc ht => read_act g o n cs x hl hc ht) hv h
end Go.Proofs.YtmfgfjkpijmgoaaDoor

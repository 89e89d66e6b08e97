/-
  A slice of structs of three whole numbers (int) among the arguments, read at each index.
-/
import Derived.Test.YtaonnkocopngaaaDoorOpen
import Derived.Deep.Slices
import Derived.Deep.Strs
namespace Go.Proofs.YtaonnkocopngaaaDoor
open Go.ChangeShapes Go.WideShapes Go.ChangeAt Go.RowKit

/-- The slice v holds structs of three numbers. -/
def Tri (w : World) (v : Value) (ls : List (Int × Int × Int)) : Prop :=
  ∃ a c, v = .slice a ls.length c ∧ ∀ (j : Nat) y, ls[j]? = some y → ∃ g o, a = some ⟨g, o, none⟩ ∧ w.cell? ⟨g, o + j * 3, none⟩ = some (.int .i64 y.1) ∧ w.cell? ⟨g, o + j * 3 + 1, none⟩ = some (.int .i64 y.2.1) ∧ w.cell? ⟨g, o + j * 3 + 2, none⟩ = some (.int .i64 y.2.2)
theorem open_tri {H : Type} {enc : TypeId × Value → H} {P : Program} {W : World} {base : Nat} {t e : TypeId} {f0 f1 f2 : Field}
    (ht : P.underlying t = some (.slice e)) (he : P.underlying e = some (.struct #[f0, f1, f2])) (ce : P.cellsOf e = 3) (o0 : f0.offset = 0) (o1 : f1.offset = 1) (o2 : f2.offset = 2)
    (c0 : P.cellsOf f0.type = 1) (c1 : P.cellsOf f1.type = 1) (c2 : P.cellsOf f2.type = 1) (i0 : P.underlying f0.type = some (.int .i64)) (i1 : P.underlying f1.type = some (.int .i64)) (i2 : P.underlying f2.type = some (.int .i64))
    {v : Value} {d : DataW H} {p : List MemPlace} (hv : Value.okWide P W .any base t v) (h : DataW.Trod enc P W 0 (fun _ => true) true t v d p) :
    ∃ ls : List (Int × Int × Int), Tri W v ls ∧ ls.length ≤ maxLen := by
  obtain ⟨a0, len, cap, rfl⟩ := okWide_slice ht hv
  obtain ⟨fuel, hf⟩ := h
  rcases Go.Deep.open_slice ht hf with ⟨hcs, hx⟩ | ⟨a, len', cap', m, n, D, Pl, hcs, _, hl, hm, hmm, hx, hcell⟩
  · simp [Value.cells] at hcs
    obtain ⟨rfl, rfl, rfl⟩ := hcs
    exact ⟨[], ⟨_, _, rfl, fun j y hy => by simp at hy⟩, by simp⟩
  · simp [Value.cells] at hcs
    obtain ⟨rfl, rfl, rfl⟩ := hcs
    simp only [if_true] at hmm
    subst hmm
    have each : ∀ i, i < len → ∃ y : Int × Int × Int, W.cell? (a.add (i * 3)) = some (.int .i64 y.1) ∧ W.cell? (a.add (i * 3 + 1)) = some (.int .i64 y.2.1) ∧ W.cell? (a.add (i * 3 + 2)) = some (.int .i64 y.2.2) := by
      intro i hi
      obtain ⟨cs', h1, h2⟩ := hcell i (by omega)
      rw [ce] at h1
      obtain ⟨_, hlen, hc⟩ := World.cells?_some h1
      obtain ⟨y0, y1, y2, k, _, _, t0, t1, t2⟩ := Go.Deep.trod_struct3 he h2
      match cs', hlen with
      | [v0, v1, v2], _ =>
        simp [o0, o1, o2, c0, c1, c2] at t0 t1 t2
        obtain ⟨n0, e0, _⟩ := DataW.trod_int i0 t0
        obtain ⟨n1, e1, _⟩ := DataW.trod_int i1 t1
        obtain ⟨n2, e2, _⟩ := DataW.trod_int i2 t2
        have g0 := hc 0 (by omega)
        have g1 := hc 1 (by omega)
        have g2 := hc 2 (by omega)
        rw [Go.Deep.add_add] at g0 g1 g2
        simp at e0 e1 e2
        subst e0 e1 e2
        exact ⟨(n0, n1, n2), by simpa using g0, by simpa using g1, by simpa using g2⟩
    obtain ⟨f, hf⟩ := Go.Deep.choose_lt each
    refine ⟨(List.range len).map f, ⟨some a, m, by simp, fun j y hy => ?_⟩, by simp; omega⟩
    have hj : j < len := by
      have := (List.getElem?_eq_some_iff.1 hy).1
      simpa using this
    rw [List.getElem?_map, List.getElem?_range hj] at hy
    simp only [Option.map_some, Option.some.injEq] at hy
    obtain ⟨h1, h2, h3⟩ := hf j hj
    rw [hy] at h1 h2 h3
    obtain ⟨b, off, spot⟩ := a
    have hspot : spot = none := by simpa [Addr.add] using World.cell?_spot (hf 0 (by omega)).1
    subst hspot
    rw [plain_add] at h1 h2 h3
    exact ⟨b, off, rfl, h1, by rw [← Nat.add_assoc] at h2; exact h2, by rw [← Nat.add_assoc] at h3; exact h3⟩
theorem Tri.below {w w' : World} {v : Value} {ls : List (Int × Int × Int)} (h : Tri w v ls) (hb : Below w.heap.size w w') : Tri w' v ls := by
  obtain ⟨a, c, e, h1⟩ := h
  refine ⟨a, c, e, fun j y hy => ?_⟩
  obtain ⟨g, o, ea, r1, r2, r3⟩ := h1 j y hy
  exact ⟨g, o, ea, below_cell hb r1, below_cell hb r2, below_cell hb r3⟩
end Go.Proofs.YtaonnkocopngaaaDoor

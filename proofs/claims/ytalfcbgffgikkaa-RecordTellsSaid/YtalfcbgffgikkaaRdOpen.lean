/-
  A road among the arguments.
-/
import Derived.Test.YtalfcbgffgikkaaElg
import Derived.OpenShut
namespace Go.Proofs.Ytalfcbgffgikkaa
open Go.ChangeShapes Go.WideShapes Go.ChangeAt Go.RowKit Go.Joins

theorem cells_rdint : Try.prog.cellsOf 3 = 1 := by kernel_rfl
theorem cells_rdroad : Try.prog.cellsOf 23 = 2 := by kernel_rfl
section
variable {H : Type} {enc : TypeId × Value → H} {W : World}
set_option maxRecDepth 100000 in
theorem open_road {base : Nat} {v : Value} {d : DataW H} {p : List MemPlace} (hv : Value.okWide Try.prog W .any base 23 v) (h : DataW.Trod enc Try.prog W 0 (fun _ => true) true 23 v d p) :
    ∃ p s : Int, v = .agg #[.int .i64 p, .int .i64 s] := by
  obtain ⟨cs, rfl, hsz⟩ := okWide_struct Try.underlying23 hv
  obtain ⟨fuel, hf⟩ := h
  obtain ⟨c0, c1, e⟩ : ∃ c0 c1, cs.toList = [c0, c1] := by
    have hl : cs.toList.length = 2 := by simpa [cells_rdroad] using hsz
    match cs.toList, hl with
    | [c0, c1], _ => exact ⟨c0, c1, rfl⟩
  obtain ⟨y0, y1, m, _, _, h0, h1⟩ := trod_struct2 Try.underlying23 hf
  simp [Value.cells, e, cells_rdint] at h0 h1
  obtain ⟨p, e0, _⟩ := DataW.trod_int Try.underlying3 h0
  obtain ⟨s, e1, _⟩ := DataW.trod_int Try.underlying3 h1
  simp at e0 e1
  subst e0 e1
  exact ⟨p, s, congrArg Value.agg (Array.ext' e)⟩
end
end Go.Proofs.Ytalfcbgffgikkaa

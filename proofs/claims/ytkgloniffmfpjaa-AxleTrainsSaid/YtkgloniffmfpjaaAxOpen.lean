/-
  Counters among the arguments.
-/
import Derived.Test.YtkgloniffmfpjaaCore
import Derived.Test.YtkgloniffmfpjaaAxMath
import Derived.Lib.SmallJoins
namespace Go.Proofs.Ytkgloniffmfpjaa
open Go.ChangeShapes Go.WideShapes Go.ChangeAt Go.RowKit Go.Joins

theorem cellsAxle : Try.prog.cellsOf 23 = 4 := by kernel_rfl
set_option maxRecDepth 100000 in
theorem open_axle {H : Type} {enc : TypeId × Value → H} {W : World} {base : Nat} {v : Value} {d : DataW H} {p : List MemPlace}
    (hv : Value.okWide Try.prog W .any base 23 v) (h : DataW.Trod enc Try.prog W 0 (fun _ => true) true 23 v d p) :
    ∃ (h : Bool) (i o : Int) (g : Bool), v = .agg #[.bool h, .int .i64 i, .int .i64 o, .bool g] := by
  obtain ⟨v0, v1, v2, v3, y0, y1, y2, y3, m, rfl, _, _, h0, h1, h2, h3⟩ := open_agg4 Try.underlying23 (by kernel_rfl) cellsAxle hv h
  obtain ⟨a, e0, _⟩ := DataW.trod_bool Try.underlying4 h0
  obtain ⟨b, e1, _, f1⟩ := DataW.trod_int Try.underlying3 h1
  obtain ⟨c, e2, _, f2⟩ := DataW.trod_int Try.underlying3 h2
  obtain ⟨e, e3, _⟩ := DataW.trod_bool Try.underlying4 h3
  simp at e0 e1 e2 e3
  subst e0 e1 e2 e3
  exact ⟨a, b, c, e, rfl⟩
end Go.Proofs.Ytkgloniffmfpjaa

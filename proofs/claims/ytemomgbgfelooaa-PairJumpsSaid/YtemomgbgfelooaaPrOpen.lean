/-
  A pair among the arguments.
-/
import Derived.Test.YtemomgbgfelooaaCore
import Derived.Test.YtemomgbgfelooaaPrMath
import Derived.Lib.SmallJoins
namespace Go.Proofs.Ytemomgbgfelooaa
open Go.ChangeShapes Go.WideShapes Go.ChangeAt Go.RowKit Go.Joins

theorem cellsPair : Try.prog.cellsOf 23 = 3 := by kernel_rfl
set_option maxRecDepth 100000 in
theorem open_pair {H : Type} {enc : TypeId × Value → H} {W : World} {base : Nat} {v : Value} {d : DataW H} {p : List MemPlace}
    (hv : Value.okWide Try.prog W .any base 23 v) (h : DataW.Trod enc Try.prog W 0 (fun _ => true) true 23 v d p) :
    ∃ (l s : Int) (j : Bool), v = .agg #[.int .i64 l, .int .i64 s, .bool j] ∧ PosR l ∧ PosR s := by
  obtain ⟨v0, v1, v2, y0, y1, y2, m, rfl, _, _, h0, h1, h2⟩ := open_agg3 Try.underlying23 (by kernel_rfl) cellsPair hv h
  obtain ⟨l, e0, _, f0⟩ := DataW.trod_int Try.underlying3 h0
  obtain ⟨s, e1, _, f1⟩ := DataW.trod_int Try.underlying3 h1
  obtain ⟨j, e2, _⟩ := DataW.trod_bool Try.underlying4 h2
  simp at e0 e1 e2
  subst e0 e1 e2
  exact ⟨l, s, j, rfl, i64_of_wf f0, i64_of_wf f1⟩
end Go.Proofs.Ytemomgbgfelooaa

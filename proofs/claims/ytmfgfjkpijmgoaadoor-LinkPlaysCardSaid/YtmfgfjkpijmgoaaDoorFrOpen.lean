/-
  A telegram among the arguments.
-/
import Derived.Test.YtmfgfjkpijmgoaaDoorFrame
import Derived.Lib.SmallJoins
namespace Go.Proofs.YtmfgfjkpijmgoaaDoor
open Go.ChangeShapes Go.WideShapes Go.ChangeAt Go.RowKit Go.Joins

theorem cellsFr : Tryd.prog.cellsOf 30 = 3 := by kernel_rfl
set_option maxRecDepth 100000 in
theorem open_fr {H : Type} {enc : TypeId × Value → H} {W : World} {base : Nat} {v : Value} {d : DataW H} {p : List MemPlace}
    (hv : Value.okWide Tryd.prog W .any base 30 v) (h : DataW.Trod enc Tryd.prog W 0 (fun _ => true) true 30 v d p) :
    ∃ (c q : Int) (u : Value) (xs : List (BitVec 8)), v = .agg #[.int .i64 c, .int .i64 q, u] ∧ Byts W u xs := by
  obtain ⟨v0, v1, v2, y0, y1, y2, m, rfl, _, _, h0, h1, h2⟩ := open_agg3 Tryd.underlying30 (by kernel_rfl) cellsFr hv h
  obtain ⟨c, e0, _⟩ := DataW.trod_int Tryd.underlying3 h0
  obtain ⟨q, e1, _⟩ := DataW.trod_int Tryd.underlying3 h1
  obtain ⟨a, l, cp, e2⟩ := slice_form Tryd.underlying28 h2
  simp at e0 e1 e2
  subst e0 e1 e2
  obtain ⟨zs, hs, _⟩ := open_sl_at (d := y2.1) (p := y2.2) cel (fun n => BitVec.ofNat 8 n.toNat) (fun n hn => by unfold cel; rw [u8_of_wf hn]) Tryd.underlying28 Tryd.underlying5 cellsU8 ⟨m, h2⟩
  exact ⟨c, q, _, _, rfl, hs⟩
end Go.Proofs.YtmfgfjkpijmgoaaDoor

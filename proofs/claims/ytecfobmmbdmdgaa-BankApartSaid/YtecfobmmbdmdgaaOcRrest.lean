/-
  The document's own reader by contracts: Rest.
-/
import Derived.Test.YtecfobmmbdmdgaaOcRnum
namespace Go.Proofs.Ytecfobmmbdmdgaa
open Go.RowKit

set_option maxHeartbeats 1000000 in
theorem rrest_any (T b lo L : Nat) (xs : List (BitVec 8)) (bad : Bool) (w : World) (h : Rd w T b lo L xs bad) (hl : xs.length ≤ 300) :
    Calls Try.prog 34 #[.pointer (some ⟨b, 0, none⟩)] w fun e w' => ∃ r, e = .returned r ∧ Own w' w.heap.size r xs ∧ Rd w' T b lo L [] bad ∧ Apart b w w' := by
  obtain ⟨v, h0, h1, f0, f1, hlf⟩ := h.cells
  obtain ⟨av, cv, ev⟩ := hlf.1.len
  have HV := Lib.hid hlf.1
  have HR := Lib.hid h
  have hlt := h.lt
  clear h hlf f0 f1 h1
  subst ev
  have HO := Lib.hid (own_lit w w.heap.size [] (Nat.le_refl _) (by unfold maxLen; simp))
  have HB := Lib.hid ((Below.refl w.heap.size w).alloc (Nat.le_refl _) (.cells #[] 5))
  have HV1 := Lib.hid (HV.out.below HB.out)
  have hsz := HB.out.size
  go_enter Try.func34, Try.ntmps34
  go_wp2_with (at_builtin; refine wpList_app rfl _ _ rfl w.heap.size _ [] rfl HO.out _ xs rfl HV1.out (by simp; omega) hsz ?_; intro v1 w1 hown1 hg1; have HO1 := Lib.hid hown1; have HB1 := Lib.hid (HO.out.grown HB.out hg1); have HR1 := Lib.hid (HR.out.below HB1.out); obtain ⟨v3, g0, g1, k0, k1, _⟩ := HR1.out.cells; clear hown1 hg1 HO HB HV1 hsz h0 g1 k1)
  go_ret
  refine ⟨_, rfl, ?_, HR1.out.setLeft (Left.nil _ _ _), (Apart.of_below HB1.out).trans (Apart.set_ b 0 w1 _)⟩
  exact ownsRow_setCell_below HO1.out hlt _
end Go.Proofs.Ytecfobmmbdmdgaa

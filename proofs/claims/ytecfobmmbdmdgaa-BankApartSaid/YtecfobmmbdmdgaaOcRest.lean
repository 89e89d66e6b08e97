/-
  octet's Rest by contract.
-/
import Derived.Test.YtecfobmmbdmdgaaOcTake
namespace Go.Proofs.Ytecfobmmbdmdgaa
open Go.RowKit

theorem rest_any (T b lo L : Nat) (xs : List (BitVec 8)) (bad : Bool) (w : World) (h : Rd w T b lo L xs bad) (hl : xs.length ≤ 140737488355328) :
    Calls Try.prog 41 #[.pointer (some ⟨b, 0, none⟩)] w fun e w' => ∃ r, e = .returned r ∧ Own w' w.heap.size r xs ∧ Rd w' T b lo L [] bad ∧ Apart b w w' := by
  obtain ⟨v, h0, h1, f0, f1, hlf⟩ := h.cells
  have HL := Lib.hid (lay_any v _ xs [] w hlf.1 (byts_nil w) (by simpa using hl))
  obtain ⟨av, cv, ev⟩ := hlf.1.len
  have HR := Lib.hid h
  have hlt := h.lt
  clear h hlf f0 f1 h1
  subst ev
  go_enter Try.func41, Try.ntmps41
  go_wp2_with fail
  (with_reducible refine HL.out.mono ?_)
  rintro e w1 ⟨r, rfl, hown, hb⟩
  rw [List.append_nil] at hown
  obtain ⟨v1, g0, g1, k0, k1, _⟩ := (HR.out.below hb).cells
  have HO := Lib.hid hown
  have HR1 := Lib.hid (HR.out.below hb)
  have HB := Lib.hid hb
  clear hown hb HL HR h0 g1 k1
  go_wp2_with fail
  go_ret
  refine ⟨_, rfl, ?_, HR1.out.setLeft (Left.nil _ _ _), (Apart.of_below HB.out).trans (Apart.set_ b 0 w1 _)⟩
  exact ownsRow_setCell_below HO.out hlt _

end Go.Proofs.Ytecfobmmbdmdgaa

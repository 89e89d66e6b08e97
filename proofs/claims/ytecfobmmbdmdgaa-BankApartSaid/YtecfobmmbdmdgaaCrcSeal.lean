/-
  crc.Seal, by contract.
-/
import Derived.Test.YtecfobmmbdmdgaaCrcSum
namespace Go.Proofs.Ytecfobmmbdmdgaa
open Go.RowKit

set_option maxHeartbeats 1000000 in
theorem seal_any (v : Value) (xs : List (BitVec 8)) (w : World) (hv : Byts w v xs) (hl : xs.length ≤ 1000000) :
    Calls Try.prog 22 #[v] w fun e w' => ∃ r, e = .returned r ∧ Own w' w.heap.size r (sealed xs) ∧ Below w.heap.size w w' := by
  obtain ⟨av, cv, ev⟩ := hv.len
  obtain ⟨M, hM, _, hmk⟩ := run_make_u8 (xs.length + 2) (by omega) 0 (by omega)
  have HM := Lib.hid hM
  have HV := Lib.hid hv
  have hs := (crcSum xs).isLt
  have HX := Lib.hid (show sealed xs = xs ++ [hi (crcSum xs), lo (crcSum xs)] from rfl)
  clear hv hM
  subst ev
  rw [show (((0 : Nat) : Int)) = 0 from rfl, show ((xs.length + 2 : Nat) : Int) = (xs.length : Int) + 2 by simp] at hmk
  go_enter Try.func22, Try.ntmps22
  go_wp2_with fail
  (with_reducible refine (sum_any _ xs _ HV.out (by unfold maxLen; omega)).mono ?_)
  rintro e w1 ⟨rfl, rfl⟩
  generalize crcSum xs = s at *
  have HO := Lib.hid (own_made w w.heap.size M _ HM.out (Nat.le_refl _) (by unfold maxLen; omega))
  have HB := Lib.hid ((Below.refl w.heap.size w).alloc (Nat.le_refl _) (.cells M 5))
  have HV1 := Lib.hid (HV.out.below HB.out)
  have tok1 : True := trivial
  have hsz := HB.out.size
  go_wp2_with (first
    | (at_builtin; have _t := tok1; refine wpList_app rfl _ _ rfl w.heap.size _ [] rfl HO.out _ xs rfl HV1.out (by simp; omega) hsz ?_; intro v1 w1 hown1 hg1; have HO1 := Lib.hid hown1; have HB1 := Lib.hid (HO.out.grown HB.out hg1); have hsz1 := HB1.out.size; clear hown1 hg1 tok1 _t HO HB HV1 hsz hmk)
    | (at_builtin; refine wpList_app rfl _ _ rfl w.heap.size _ _ rfl (HO1.out.alloc _) _ [hi s, lo s] rfl (two_src _ _) (by simp; omega) (le_alloc hsz1 _) ?_; intro v2 w2 hown2 hg2; have HO2 := Lib.hid hown2; have HB2 := Lib.hid ((HO1.out.alloc _).grown (below_alloc HB1.out _) hg2); clear hown2 hg2 HO1 HB1 hsz1))
  go_ret
  exact ⟨_, rfl, by rw [HX.out]; simpa using HO2.out, HB2.out⟩

end Go.Proofs.Ytecfobmmbdmdgaa

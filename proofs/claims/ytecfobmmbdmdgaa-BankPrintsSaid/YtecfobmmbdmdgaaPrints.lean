/-
  The walk of crossbucklaw16.BankPrints: true, whatever it is given.
-/
import Derived.Test.YtecfobmmbdmdgaaSmall
namespace Go.Proofs.Ytecfobmmbdmdgaa
open Go.RowKit

set_option maxHeartbeats 1000000 in
theorem prints_any (s : BitVec 32) (u : Value) (xs : List (BitVec 8)) (v : Value) (ys : List (BitVec 8)) (o : Int) (w : World) (hu : Byts w u xs) (hv : Byts w v ys) (ho : -9223372036854775808 ≤ o ∧ o ≤ 9223372036854775807) :
    Calls Try.prog 3 #[.int .u32 (s.toNat : Int), u, v, .int .i64 o] w fun e w' => e = .returned (.bool true) ∧ Below w.heap.size w w' := by
  obtain ⟨au, cu, eu⟩ := hu.len
  obtain ⟨av, cv, ev⟩ := hv.len
  have HU := Lib.hid hu
  have HV := Lib.hid hv
  have HO := Lib.hid ho
  clear hu hv ho
  subst eu ev
  go_enter Try.func3, Try.ntmps3
  go_wp2_with fail
  (with_reducible refine (small_true _).mono ?_)
  rintro e w1 ⟨rfl, hb⟩
  have HB1 := Lib.hid hb
  have HU1 := Lib.hid (HU.out.below hb)
  have HV1 := Lib.hid (HV.out.below hb)
  clear hb HU HV
  by_cases h1 : 300 < xs.length
  · have q1 : decide ((300 : Int) < (xs.length : Int)) = true := by simp; omega
    clear h1
    go_wp2_with fail
    go_ret
    exact ⟨rfl, HB1.out⟩
  · have q1 : decide ((300 : Int) < (xs.length : Int)) = false := by simp; omega
    by_cases h2 : 500 < ys.length
    · have q2 : decide ((500 : Int) < (ys.length : Int)) = true := by simp; omega
      clear h1 h2
      go_wp2_with fail
      go_ret
      exact ⟨rfl, HB1.out⟩
    · have q2 : decide ((500 : Int) < (ys.length : Int)) = false := by simp; omega
      have HLY := Lib.hid (show ys.length ≤ 140737488355328 by omega)
      by_cases h3 : 1 ≤ xs.length ∧ xs.length ≤ 40
      · have HP := Lib.hid (print_yes s _ xs w1 HU1.out h3.1 h3.2)
        have HQ := Lib.hid (fun w' h => rprint_yes s (.slice au xs.length cu) xs w' h h3.1 h3.2)
        clear h1 h2 h3
        go_wp2_with fail
        (with_reducible refine HP.out.mono ?_)
        rintro e w2 ⟨r2, rfl, hown, hb⟩
        have HR2 := Lib.hid hown.byts
        have HB2 := Lib.hid (below_call HB1.out hb)
        have HU2 := Lib.hid (HU1.out.below hb)
        have HV2 := Lib.hid (HV1.out.below hb)
        clear hown hb HP HB1 HU1 HV1
        go_wp2_with fail
        (with_reducible refine (HQ.out _ HU2.out).mono ?_)
        rintro e w3 ⟨r3, rfl, hown, hb⟩
        have h4 := txt_run _ _ _ (HR2.out.below hb)
        have h5 := txt_run _ _ _ hown.byts
        have h6 := txt_same (pr s.toNat xs)
        have HV3 := Lib.hid (HV2.out.below hb)
        have HB3 := Lib.hid (below_call HB2.out hb)
        clear hown hb HQ HR2 HB2 HU2 HV2
        go_wp2_with fail
        (with_reducible refine (blank_any _ ys w3 HV3.out HLY.out o HO.out).mono ?_)
        rintro e w' ⟨rfl, rfl⟩
        go_wp2_with fail
        (with_reducible refine (rblank_any _ ys w3 HV3.out HLY.out o HO.out).mono ?_)
        rintro e w' ⟨rfl, rfl⟩
        have h7 : (bblank ys o.toNat == bblank ys o.toNat) = true := by simp
        go_wp2_with fail
        go_ret
        exact ⟨rfl, HB3.out⟩
      · have hn : xs.length = 0 ∨ 40 < xs.length := by omega
        have HP := Lib.hid (print_no (s.toNat : Int) _ xs w1 HU1.out hn)
        have HQ := Lib.hid (rprint_no (s.toNat : Int) _ xs w1 HU1.out hn)
        have h4 := txt_run _ _ _ (byts_nil w1)
        have h6 := txt_same []
        have h8 : (false == false) = true := rfl
        clear h1 h2 h3 hn
        go_wp2_with fail
        (with_reducible refine HP.out.mono ?_)
        rintro e w' ⟨rfl, rfl⟩
        go_wp2_with fail
        (with_reducible refine HQ.out.mono ?_)
        rintro e w' ⟨rfl, rfl⟩
        go_wp2_with fail
        (with_reducible refine (blank_any _ ys w1 HV1.out HLY.out o HO.out).mono ?_)
        rintro e w' ⟨rfl, rfl⟩
        go_wp2_with fail
        (with_reducible refine (rblank_any _ ys w1 HV1.out HLY.out o HO.out).mono ?_)
        rintro e w' ⟨rfl, rfl⟩
        have h7 : (bblank ys o.toNat == bblank ys o.toNat) = true := by simp
        go_wp2_with fail
        go_ret
        exact ⟨rfl, HB1.out⟩
end Go.Proofs.Ytecfobmmbdmdgaa

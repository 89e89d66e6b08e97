/-
  The small case of every law of layer 15: true.
-/
import Derived.Test.YtompoojijeigfaaDoorStRw
import Derived.Test.YtompoojijeigfaaDoorStNew
import Derived.Test.YtompoojijeigfaaDoorMark
import Derived.Test.YtompoojijeigfaaDoorTxt
namespace Go.Proofs.YtompoojijeigfaaDoor
open Go.RowKit

set_option maxRecDepth 10000 in
theorem small_true (w : World) : Calls Tryd.prog 7 #[] w fun e w' => e = .returned (.bool true) ∧ Below w.heap.size w w' := by
  have HNEW := Lib.hid (new_to 4 4 (by decide) w)
  go_enter Tryd.func7, Tryd.ntmps7
  go_wp2_with fail
  (with_reducible refine HNEW.out.mono ?_)
  rintro e w1 ⟨s, B, rfl, h1, h2, hs, hb⟩
  have HM1 : Hid (Mine w w1 s B [255#8, 255#8, 255#8, 255#8] false false 0) := Lib.hid ⟨hs, hb, h1, h2⟩
  clear HNEW hs hb h1 h2
  -- Write(1, x)
  have hcv := conv_mark w1 #[.int .u8 120] 1
  have HV := Lib.hid (lit_byts w1 #[.int .u8 120] 1 (1, 2) [120#8] rfl rfl)
  have HM1a := Lib.hid (HM1.out.alloc (.cells #[.int .u8 120] 5 (1, 2)))
  have HW := Lib.hid (write_to HM1a.out.sto 1 1 rfl _ [120#8] HV.out (by decide) 1 0 (.inl ⟨rfl, rfl, rfl⟩) false 0 (.inl ⟨rfl, rfl, rfl⟩))
  clear HM1 HV
  go_wp2_with fail
  clear hcv
  (with_reducible refine HW.out.mono ?_)
  rintro e w2 ⟨v, rfl, he, hs, hk⟩
  obtain rfl := he.nil
  have HM2 : Hid (Mine w w2 s B [255#8, 120#8, 255#8, 255#8] false false 0) := Lib.hid (HM1a.out.call hs hk)
  clear HW HM1a he hs hk
  -- Kill(1)
  have HK := Lib.hid (kill_to HM2.out.sto 1 1 (by decide) (by decide))
  go_wp2_with fail
  (with_reducible refine HK.out.mono ?_)
  rintro e w3 ⟨rfl, hs, hk⟩
  have HM3 : Hid (Mine w w3 s B [255#8, 120#8, 255#8, 255#8] false true 1) := Lib.hid (HM2.out.call hs hk)
  clear HK HM2 hs hk
  -- Write(2, yz)
  have hcv := conv_mark w3 #[.int .u8 121, .int .u8 122] 2
  have HV := Lib.hid (lit_byts w3 #[.int .u8 121, .int .u8 122] 2 (2, 3) [121#8, 122#8] rfl rfl)
  have HM3a := Lib.hid (HM3.out.alloc (.cells #[.int .u8 121, .int .u8 122] 5 (2, 3)))
  have HW := Lib.hid (write_to HM3a.out.sto 2 2 rfl _ [121#8, 122#8] HV.out (by decide) 1 0 (.inr ⟨rfl, rfl, rfl⟩) true 7 (.inr ⟨by decide, rfl, rfl⟩))
  clear HM3 HV
  go_wp2_with fail
  clear hcv
  (with_reducible refine HW.out.mono ?_)
  rintro e w4 ⟨vb, rfl, he, hs, hk⟩
  have HEb := Lib.hid (HM3a.out.err he)
  have HM4 : Hid (Mine w w4 s B [255#8, 120#8, 121#8, 255#8] true true 0) := Lib.hid (HM3a.out.call hs hk)
  clear HW HM3a he hs hk
  -- Write(0, nil)
  have HW := Lib.hid (write_dead HM4.out.sto 0 (.slice none 0 0))
  go_wp2_with fail
  (with_reducible refine HW.out.mono ?_)
  rintro e w5 ⟨vc, rfl, he, hs, hb⟩
  have HEb5 := Lib.hid (HEb.out.below hb)
  have HEc := Lib.hid (HM4.out.err he)
  have HM5 := Lib.hid (HM4.out.below hb)
  clear HW HM4 HEb he hs hb
  -- Dead, Revive
  have HD := Lib.hid (dead_to HM5.out.sto)
  have HR := Lib.hid (revive_to HM5.out.sto)
  go_wp2_with fail
  (with_reducible refine HD.out.mono ?_)
  rintro e w' ⟨rfl, rfl⟩
  go_wp2_with fail
  (with_reducible refine HR.out.mono ?_)
  rintro e w6 ⟨rfl, hs, hk⟩
  have HEb6 := Lib.hid (HEb5.out.keep hk)
  have HEc6 := Lib.hid (HEc.out.keep hk)
  have HM6 : Hid (Mine w w6 s B [255#8, 120#8, 121#8, 255#8] false false 0) := Lib.hid (HM5.out.call hs hk)
  clear HD HR HM5 HEb5 HEc hs hk
  -- Write(0, w)
  have hcv := conv_mark w6 #[.int .u8 119] 1
  have HV := Lib.hid (lit_byts w6 #[.int .u8 119] 1 (1, 2) [119#8] rfl rfl)
  have HM6a := Lib.hid (HM6.out.alloc (.cells #[.int .u8 119] 5 (1, 2)))
  have HEb6a := Lib.hid (HEb6.out.alloc (.cells #[.int .u8 119] 5 (1, 2)))
  have HEc6a := Lib.hid (HEc6.out.alloc (.cells #[.int .u8 119] 5 (1, 2)))
  have HW := Lib.hid (write_to HM6a.out.sto 0 0 rfl _ [119#8] HV.out (by decide) 1 0 (.inl ⟨rfl, rfl, rfl⟩) false 0 (.inl ⟨rfl, rfl, rfl⟩))
  clear HM6 HV HEb6 HEc6
  go_wp2_with fail
  clear hcv
  (with_reducible refine HW.out.mono ?_)
  rintro e w7 ⟨v, rfl, he, hs, hk⟩
  obtain rfl := he.nil
  have HM7 : Hid (Mine w w7 s B [119#8, 120#8, 121#8, 255#8] false false 0) := Lib.hid (HM6a.out.call hs hk)
  have HEb7 := Lib.hid (HEb6a.out.keep hk)
  have HEc7 := Lib.hid (HEc6a.out.keep hk)
  clear HW HM6a HEb6a HEc6a he hs hk
  -- Write(4, w)
  have hcv := conv_mark w7 #[.int .u8 119] 1
  have HV := Lib.hid (lit_byts w7 #[.int .u8 119] 1 (1, 2) [119#8] rfl rfl)
  have HM7a := Lib.hid (HM7.out.alloc (.cells #[.int .u8 119] 5 (1, 2)))
  have HEb7a := Lib.hid (HEb7.out.alloc (.cells #[.int .u8 119] 5 (1, 2)))
  have HEc7a := Lib.hid (HEc7.out.alloc (.cells #[.int .u8 119] 5 (1, 2)))
  have HW := Lib.hid (write_range HM7a.out.sto 4 _ [119#8] HV.out (by decide) (by decide))
  clear HM7 HV HEb7 HEc7
  go_wp2_with fail
  clear hcv
  (with_reducible refine HW.out.mono ?_)
  rintro e w8 ⟨ve, rfl, he, hs, hb⟩
  have HEe := Lib.hid (HM7a.out.err he)
  have HM8 := Lib.hid (HM7a.out.below hb)
  have HEb8 := Lib.hid (HEb7a.out.below hb)
  have HEc8 := Lib.hid (HEc7a.out.below hb)
  clear HW HM7a HEb7a HEc7a he hs hb
  -- what is told
  have HD := Lib.hid (dead_to HM8.out.sto)
  have HRd := Lib.hid (read_to HM8.out.sto 0 4 0 4 rfl rfl (by decide) (by decide))
  go_wp2_with fail
  (with_reducible refine HEb8.out.code.mono ?_)
  rintro e w' ⟨rfl, rfl⟩
  go_wp2_with fail
  (with_reducible refine HEc8.out.code.mono ?_)
  rintro e w' ⟨rfl, rfl⟩
  go_wp2_with fail
  (with_reducible refine HD.out.mono ?_)
  rintro e w' ⟨rfl, rfl⟩
  go_wp2_with fail
  (with_reducible refine HEe.out.code.mono ?_)
  rintro e w' ⟨rfl, rfl⟩
  go_wp2_with fail
  (with_reducible refine HRd.out.mono ?_)
  rintro e w9 ⟨v, rfl, ho, hb⟩
  have ht := txt_run _ _ _ ho.byts
  rw [show txt (List.take 4 (List.drop 0 [119#8, 120#8, 121#8, 255#8])) = ⟨#[119, 120, 121, 255]⟩ by decide +kernel] at ht
  have HM9 := Lib.hid (HM8.out.below hb)
  have HS := Lib.hid (size_to HM9.out.sto 4 rfl)
  have HN1 := Lib.hid (read_none HM9.out.sto 0 5 (by decide) (.inr (by decide)))
  have HN2 := Lib.hid (read_none HM9.out.sto 1 0 (by decide) (.inl (by decide)))
  clear HM8 HRd HEb8 HEc8 HEe HD ho hb
  go_wp2_with fail
  (with_reducible refine HS.out.mono ?_)
  rintro e w' ⟨rfl, rfl⟩
  go_wp2_with fail
  (with_reducible refine HN1.out.mono ?_)
  rintro e w' ⟨rfl, rfl⟩
  go_wp2_with fail
  (with_reducible refine HN2.out.mono ?_)
  rintro e w' ⟨rfl, rfl⟩
  go_wp2_with fail
  go_ret
  exact ⟨rfl, HM9.out.bel⟩
end Go.Proofs.YtompoojijeigfaaDoor

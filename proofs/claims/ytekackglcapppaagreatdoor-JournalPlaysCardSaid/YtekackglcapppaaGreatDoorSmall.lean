/-
  The small case of every law of layer 17: true.
-/
import Derived.Test.YtekackglcapppaaGreatDoorYJn
import Derived.Test.YtekackglcapppaaGreatDoorYByt

namespace Go.Proofs.YtekackglcapppaaGreatDoor
open Go.RowKit

set_option maxHeartbeats 4000000 in
set_option maxRecDepth 10000 in
theorem small_true (w : World) : Calls Tryz.prog 4 #[] w fun e w' => e = .returned (.bool true) ∧ Below w.heap.size w w' := by
  have HNEW : Hid (Calls Tryz.prog 19 #[.int .i64 40] w fun e w' => ∃ s B, e = .returned (.pointer (some ⟨s, 0, none⟩)) ∧ MineS w w' s B 20 ⟨List.replicate 40 255#8, false, none⟩ ∧ Below w.heap.size w w') := Lib.hid (new_S 40 40 (by decide) (Below.refl _ w))
  go_enter Tryz.func4, Tryz.ntmps4
  go_wp2_with fail
  (with_reducible refine HNEW.out.mono ?_)
  rintro e w1 ⟨s, B, rfl, hM, _⟩
  have HF0 := Lib.hid (Fine.new 40)
  obtain ⟨S0, HS0⟩ : ∃ S0 : Ss, Hid (S0 = ⟨List.replicate 40 255#8, false, none⟩) := ⟨_, Lib.hid rfl⟩
  rw [← HS0.out] at hM HF0
  have HM1 := Lib.hid hM
  have HO := Lib.hid hM.open_
  rw [HF0.out.opn] at HO
  clear HNEW hM HS0
  go_wp2_with fail
  (with_reducible refine HO.out.mono ?_)
  rintro e w2 ⟨b, rfl, hJ, hb⟩
  have HM2 := Lib.hid (HM1.out.below hb)
  have HJ2 := Lib.hid hJ
  have HL := Lib.hid hJ.last
  clear HO HM1 hJ hb
  go_wp2_with fail
  (with_reducible refine HL.out.mono ?_)
  rintro e w3 ⟨v, rfl, _, hb⟩
  have HM3 := Lib.hid (HM2.out.below hb)
  have HJ3 := Lib.hid (HJ2.out.below hb)
  clear HL HM2 HJ2 hb
  -- Append
  have hcv := conv_mark w3 #[.int .u8 97] 1
  have HV := Lib.hid (lit_byts w3 #[.int .u8 97] 1 (1, 2) [97#8] rfl rfl)
  obtain ⟨S1, k1, e1, hp, hf⟩ := HF0.out.ok (d := [97#8]) (by simp [jcode])
  have HF1 := Lib.hid hf
  have HA := Lib.hid ((HM3.out.alloc (.cells #[.int .u8 97] 5 (1, 2))).append (HJ3.out.alloc _) _ [97#8] (HJ3.out.lit HM3.out HV.out) 0 hp)
  clear HV hp hf
  go_wp2_with fail
  clear hcv
  (with_reducible refine HA.out.mono ?_)
  rintro e w4 ⟨u, rfl, he, hM, hJ, hk⟩
  obtain rfl := he.nil
  have HM4 := Lib.hid hM
  have HJ4 := Lib.hid hJ
  clear HA HM3 HJ3 he hM hJ hk
  -- Append
  have hcv := conv_mark w4 #[.int .u8 98] 1
  have HV := Lib.hid (lit_byts w4 #[.int .u8 98] 1 (1, 2) [98#8] rfl rfl)
  obtain ⟨S2, k2, e2, hp, hf⟩ := HF1.out.ok (d := [98#8]) (by simp [jcode])
  have HF2 := Lib.hid hf
  have HA := Lib.hid ((HM4.out.alloc (.cells #[.int .u8 98] 5 (1, 2))).append (HJ4.out.alloc _) _ [98#8] (HJ4.out.lit HM4.out HV.out) 0 hp)
  clear HV hp hf
  go_wp2_with fail
  clear hcv
  (with_reducible refine HA.out.mono ?_)
  rintro e w5 ⟨u, rfl, he, hM, hJ, hk⟩
  obtain rfl := he.nil
  have HM5 := Lib.hid hM
  have HJ5 := Lib.hid hJ
  clear HA HM4 HJ4 he hM hJ hk
  have HL := Lib.hid HJ5.out.last
  have HLT := Lib.hid (HJ5.out.lts HM5.out)
  go_wp2_with fail
  (with_reducible refine HL.out.mono ?_)
  rintro e w6 ⟨v, rfl, ho, hb⟩
  obtain ⟨ax, cx, ex⟩ := ho.byts.len
  have ex' : v = .slice ax 1 cx := ex
  subst ex'
  have HX6 : Hid (Own w6 w5.heap.size (.slice ax 1 cx) [98#8]) := Lib.hid ho
  have HM6 := Lib.hid (HM5.out.below hb)
  have HJ6 := Lib.hid (HJ5.out.below hb)
  clear HL HM5 HJ5 ho hb ex
  -- Append
  have hcv := conv_mark w6 #[.int .u8 99] 1
  have HV := Lib.hid (lit_byts w6 #[.int .u8 99] 1 (1, 2) [99#8] rfl rfl)
  obtain ⟨S3, k3, e3, hp, hf⟩ := HF2.out.ok (d := [99#8]) (by simp [jcode])
  have HF3 := Lib.hid hf
  have HA := Lib.hid ((HM6.out.alloc (.cells #[.int .u8 99] 5 (1, 2))).append (HJ6.out.alloc _) _ [99#8] (HJ6.out.lit HM6.out HV.out) 0 hp)
  clear HV hp hf
  go_wp2_with fail
  clear hcv
  (with_reducible refine HA.out.mono ?_)
  rintro e w7 ⟨u, rfl, he, hM, hJ, hk⟩
  obtain rfl := he.nil
  have HM7 := Lib.hid hM
  have HJ7 := Lib.hid hJ
  have HX7 : Hid (Own w7 w5.heap.size (.slice ax 1 cx) [98#8]) := Lib.hid ((HX6.out.alloc (.cells #[.int .u8 99] 5 (1, 2))).app HLT.out.1 HLT.out.2.1 HLT.out.2.2 hk)
  clear HX6
  clear HA HM6 HJ6 he hM hJ hk
  -- Append of nil
  have HA := Lib.hid (HM7.out.append HJ7.out (.slice none 0 0) [] (fun w' _ => byts_nil w') 1 (HF3.out.no (by simp [jcode]) (by decide)))
  have HLT7 := Lib.hid (HJ7.out.lts HM7.out)
  go_wp2_with fail
  (with_reducible refine HA.out.mono ?_)
  rintro e w8 ⟨ud, rfl, he, hM, hJ, hk⟩
  have HED8 := Lib.hid he
  have HM8 := Lib.hid hM
  have HJ8 := Lib.hid hJ
  have HX8 := Lib.hid (HX7.out.app HLT.out.1 HLT.out.2.1 HLT.out.2.2 hk)
  clear HA HM7 HJ7 HX7 he hM hJ hk
  -- Append of thirty bytes
  obtain ⟨M, hMs, hz, hrun⟩ := run_make_u8 30 (by omega) 30 (Nat.le_refl _)
  rw [show ((30 : Nat) : Int) = 30 from rfl] at hrun
  have HV := Lib.hid (made_byts w8 M 30 hz)
  have HLT8 := Lib.hid (HJ8.out.lts HM8.out)
  have HA := Lib.hid ((HM8.out.alloc (.cells M 5)).append (HJ8.out.alloc _) _ _ (HJ8.out.lit HM8.out HV.out) 5 (HF3.out.no (by simp [jcode]) (by decide)))
  have HED8a := Lib.hid (HED8.out.below (below_alloc (Below.refl _ w8) (.cells M 5)))
  have HX8a := Lib.hid (HX8.out.alloc (.cells M 5))
  clear HV hMs hz HED8 HX8
  go_wp2_with fail
  clear hrun
  (with_reducible refine HA.out.mono ?_)
  rintro e w9 ⟨ue, rfl, he, hM, hJ, hk⟩
  have HEE9 := Lib.hid he
  have HED9 := Lib.hid (HED8a.out.app HLT7.out.1 HLT7.out.2.1 HLT7.out.2.2 hk)
  have HX9 := Lib.hid (HX8a.out.app HLT.out.1 HLT.out.2.1 HLT.out.2.2 hk)
  have HM9 := Lib.hid hM
  clear HA HM8 HJ8 HED8a HX8a he hM hJ hk
  have HO := Lib.hid HM9.out.open_
  rw [HF3.out.opn] at HO
  go_wp2_with fail
  (with_reducible refine HO.out.mono ?_)
  rintro e w10 ⟨k, rfl, hJ, hb⟩
  have HK10 := Lib.hid hJ
  have HEE10 := Lib.hid (HEE9.out.below hb)
  have HED10 := Lib.hid (HED9.out.below hb)
  have HX10 := Lib.hid (HX9.out.below hb)
  have HM10 := Lib.hid (HM9.out.below hb)
  have HL := Lib.hid hJ.last
  clear HO HM9 HEE9 HED9 HX9 hJ hb
  go_wp2_with fail
  (with_reducible refine HL.out.mono ?_)
  rintro e w11 ⟨v, rfl, ho, hb⟩
  obtain ⟨ay, cy, ey⟩ := ho.byts.len
  have ey' : v = .slice ay 1 cy := ey
  subst ey'
  have HK11 := Lib.hid (HK10.out.below hb)
  have HEE11 := Lib.hid (HEE10.out.below hb)
  have HED11 := Lib.hid (HED10.out.below hb)
  have HM11 := Lib.hid (HM10.out.below hb)
  have tx := txt_run _ _ _ (HX10.out.below hb).byts
  have ty : (convert 22 9 (.slice ay 1 cy)).run Tryz.prog w11 = .ok (.string (txt [99#8])) w11 := txt_run _ _ _ ho.byts
  rw [show txt [98#8] = ⟨#[98]⟩ by decide +kernel] at tx
  rw [show txt [99#8] = ⟨#[99]⟩ by decide +kernel] at ty
  have HSQ := Lib.hid (HK11.out.seq 3 rfl)
  have HCD := Lib.hid HED11.out.code
  have HCE := Lib.hid HEE11.out.code
  obtain ⟨gd, rfl⟩ := HED11.out.some (by decide)
  obtain ⟨ge, rfl⟩ := HEE11.out.some (by decide)
  clear HL HM10 HEE10 HED10 HX10 HK10 ho hb ey
  go_wp2_with fail
  (with_reducible refine HCD.out.mono ?_)
  rintro e w' ⟨rfl, rfl⟩
  go_wp2_with fail
  (with_reducible refine HCE.out.mono ?_)
  rintro e w' ⟨rfl, rfl⟩
  go_wp2_with fail
  (with_reducible refine HSQ.out.mono ?_)
  rintro e w' ⟨rfl, rfl⟩
  go_wp2_with fail
  go_ret
  exact ⟨rfl, HM11.out.bel⟩
end Go.Proofs.YtekackglcapppaaGreatDoor

/-
  The small case of every law of layer 3: true.
-/
import Derived.Test.YtpomfdpclnkgpaaDoorPut
namespace Go.Proofs.YtpomfdpclnkgpaaDoor
open Go.RowKit

theorem small_txt : txt ([9#8] ++ lay2 258#16 ++ lay4 16777221#32) = ⟨#[9, 1, 2, 1, 0, 0, 5]⟩ := by decide +kernel
theorem small_v1 : val 1 ([9#8] ++ lay2 258#16 ++ lay4 16777221#32) = 9 := by decide +kernel
theorem small_v2 : val 2 (([9#8] ++ lay2 258#16 ++ lay4 16777221#32).drop 1) = 258 := by decide +kernel
theorem small_v4 : val 4 ((([9#8] ++ lay2 258#16 ++ lay4 16777221#32).drop 1).drop 2) = 16777221 := by decide +kernel
theorem small_end : ((([9#8] ++ lay2 258#16 ++ lay4 16777221#32).drop 1).drop 2).drop 4 = [] := by decide +kernel
theorem small_f1 : decide (([9#8] ++ lay2 258#16 ++ lay4 16777221#32).length < 1) = false := by decide +kernel
theorem small_f2 : decide ((([9#8] ++ lay2 258#16 ++ lay4 16777221#32).drop 1).length < 2) = false := by decide +kernel
theorem small_f4 : decide (((([9#8] ++ lay2 258#16 ++ lay4 16777221#32).drop 1).drop 2).length < 4) = false := by decide +kernel
theorem small_l : 0 < ((([9#8] ++ lay2 258#16 ++ lay4 16777221#32).drop 1).drop 2).length := by decide +kernel

theorem put16_258 (v : Value) (xs : List (BitVec 8)) (w : World) (hv : Byts w v xs) (hl : xs.length ≤ 1000000) :
    Calls Tryd.prog 21 #[v, .int .u16 258] w fun e w' => ∃ r, e = .returned r ∧ Own w' w.heap.size r (xs ++ lay2 258#16) ∧ Below w.heap.size w w' := put16_any v 258#16 xs w hv hl
theorem put32_lit (v : Value) (xs : List (BitVec 8)) (w : World) (hv : Byts w v xs) (hl : xs.length ≤ 1000000) :
    Calls Tryd.prog 22 #[v, .int .u32 16777221] w fun e w' => ∃ r, e = .returned r ∧ Own w' w.heap.size r (xs ++ lay4 16777221#32) ∧ Below w.heap.size w w' := put32_any v 16777221#32 xs w hv hl

set_option maxHeartbeats 4000000 in
set_option maxRecDepth 100000 in
theorem small_true (w : World) : Calls Tryd.prog 9 #[] w fun e w' => e = .returned (.bool true) ∧ Below w.heap.size w w' := by
  have L := Lib.hid (lit_byts w #[.int .u8 9] 1 (0, 0) [9#8] rfl rfl)
  go_enter Tryd.func9, Tryd.ntmps9
  go_wp2_with fail
  (with_reducible refine (put16_258 _ [9#8] _ L.out (by decide)).mono ?_)
  rintro e w1 ⟨r, rfl, hown, hb⟩
  have HB := Lib.hid (below_call (below_alloc (Below.refl _ w) _) hb)
  have HV := Lib.hid hown.byts
  clear hown hb L
  go_wp2_with fail
  (with_reducible refine (put32_lit _ _ _ HV.out (by decide)).mono ?_)
  rintro e w2 ⟨r2, rfl, hown, hb⟩
  have HB2 := Lib.hid (below_call HB.out hb)
  have HV2 := Lib.hid hown.byts
  clear hown hb HV HB
  go_wp2_with fail
  (with_reducible refine (over_any _ _ _ HV2.out (by decide)).mono ?_)
  rintro e w3 ⟨b, rfl, hr, hle, hb⟩
  have HB3 := Lib.hid (below_call HB2.out hb)
  have HV3 := Lib.hid (show Left w3 0 w2.heap.size r2 _ from ⟨HV2.out.below hb, HV2.out.left.2⟩)
  have HR3 := Lib.hid hr
  have HLE := Lib.hid hle
  have HWB := Lib.hid (Nat.le_trans HB2.out.size hle)
  clear hr hb hle HV2 HB2
  have L := Lib.hid (lit_byts w3 #[.int .u8 1] 1 (0, 0) [1#8] rfl rfl)
  go_wp2_with fail
  (with_reducible refine (over_any _ _ _ L.out (by decide)).mono ?_)
  rintro e w4 ⟨c, rfl, hr, hle, hb⟩
  have hb4 := below_call (below_alloc (Below.refl _ w3) (.cells #[.int .u8 1] 5)) hb
  have HB4 := Lib.hid (below_call HB3.out hb4)
  have HV4 := Lib.hid (HV3.out.below hb4)
  have HR4 := Lib.hid (HR3.out.below hb4)
  have HS4 := Lib.hid hr
  have HBL := Lib.hid (show b < (w3.alloc (.cells #[.int .u8 1] 5)).heap.size by have := HR3.out.lt; simp; omega)
  have HBC := Lib.hid (Nat.lt_of_lt_of_le HBL.out hle)
  clear hr hb hle HV3 HR3 HB3 L hb4
  generalize (w3.alloc (.cells #[.int .u8 1] 5)).heap.size = lo at *
  go_wp2_with fail
  (with_reducible refine (u8_any _ b _ _ _ _ _ HR4.out).mono ?_)
  rintro e w5 ⟨rfl, hr, ha⟩
  rw [small_f1, Bool.or_false] at hr
  rw [small_v1]
  have HR5 := Lib.hid hr
  have HB5 := Lib.hid (below_apart HB4.out ha HWB.out)
  have HV5 := Lib.hid (HV4.out.apart ha (.inr HLE.out))
  have HS5 := Lib.hid (HS4.out.apart ha (by have := HBC.out; omega) (.inl HBL.out))
  clear hr ha HR4 HB4 HV4 HS4
  go_wp2_with fail
  (with_reducible refine (u16_any _ b _ _ _ _ _ HR5.out).mono ?_)
  rintro e w6 ⟨rfl, hr, ha⟩
  rw [small_f2, Bool.or_false] at hr
  rw [small_v2]
  have HR6 := Lib.hid hr
  have HB6 := Lib.hid (below_apart HB5.out ha HWB.out)
  have HV6 := Lib.hid (HV5.out.apart ha (.inr HLE.out))
  have HS6 := Lib.hid (HS5.out.apart ha (by have := HBC.out; omega) (.inl HBL.out))
  clear hr ha HR5 HB5 HV5 HS5
  go_wp2_with fail
  (with_reducible refine (end_left _ b _ _ _ _ HR6.out small_l).mono ?_)
  rintro e w7 ⟨g, hg, rfl, hc, hb⟩
  have HC7 := Lib.hid hc
  have HGB := Lib.hid (show g ≠ b by have := HR6.out.lt; omega)
  have HGC := Lib.hid (show g ≠ c by have := HS6.out.lt; omega)
  have HR7 := Lib.hid (HR6.out.below hb)
  have HB7 := Lib.hid (below_call HB6.out hb)
  have HV7 := Lib.hid (HV6.out.below hb)
  have HS7 := Lib.hid (HS6.out.below hb)
  clear hc hb hg HR6 HB6 HV6 HS6
  go_wp2_with fail
  (with_reducible refine (u32_any _ b _ _ _ _ _ HR7.out).mono ?_)
  rintro e w8 ⟨rfl, hr, ha⟩
  rw [small_f4, small_end, Bool.or_false] at hr
  rw [small_v4]
  have HR8 := Lib.hid hr
  have HB8 := Lib.hid (below_apart HB7.out ha HWB.out)
  have HV8 := Lib.hid (HV7.out.apart ha (.inr HLE.out))
  have HS8 := Lib.hid (HS7.out.apart ha (by have := HBC.out; omega) (.inl HBL.out))
  have HC8 := Lib.hid (ha.cell HC7.out HGB.out)
  clear hr ha HR7 HB7 HV7 HS7 HC7
  go_wp2_with fail
  (with_reducible refine (u16_any _ c _ _ _ _ _ HS8.out).mono ?_)
  rintro e w9 ⟨rfl, hr, ha⟩
  rw [show [1#8].drop 2 = [] from rfl, show (false || decide ([1#8].length < 2)) = true from rfl] at hr
  rw [show val 2 [1#8] = 0 from rfl]
  have HS9 := Lib.hid hr
  have HB9 := Lib.hid (below_apart HB8.out ha (by have := HWB.out; have := HBC.out; omega))
  have hstr := txt_run _ _ _ (HV8.out.apart ha (.inr (by have := HLE.out; have := HBC.out; omega))).1
  rw [small_txt] at hstr
  have HR9 := Lib.hid (HR8.out.apart ha (by have := HBC.out; omega) (.inr (by have := HBC.out; omega)))
  have HC9 := Lib.hid (ha.cell HC8.out HGC.out)
  clear hr ha HR8 HB8 HV8 HS8 HC8
  go_wp2_with fail
  (with_reducible refine (code_place g 2 _ HC9.out).mono ?_)
  rintro e w10 ⟨rfl, rfl⟩
  go_wp2_with fail
  (with_reducible refine (end_nil _ b _ _ _ HR9.out).mono ?_)
  rintro e w10 ⟨rfl, rfl⟩
  go_wp2_with fail
  (with_reducible refine (err_t _ c _ _ _ _ HS9.out).mono ?_)
  rintro e w10 ⟨g2, hg2, rfl, hc, hb⟩
  have HC10 := Lib.hid hc
  have HS10 := Lib.hid (HS9.out.below hb)
  have HB10 := Lib.hid (below_call HB9.out hb)
  clear hc hb hg2 hstr HC9 HS9 HB9 HR9
  go_wp2_with fail
  (with_reducible refine (code_place g2 2 _ HC10.out).mono ?_)
  rintro e w11 ⟨rfl, rfl⟩
  go_wp2_with fail
  (with_reducible refine (rest_any _ c _ _ _ _ _ HS10.out (by decide)).mono ?_)
  rintro e w11 ⟨r11, rfl, hown, _, ha⟩
  obtain ⟨a11, c11, e11⟩ := hown.byts.len
  have HB11 := Lib.hid (below_apart HB10.out ha (by have := HWB.out; have := HBC.out; omega))
  clear hown ha HB10 HS10 HC10
  subst e11
  go_wp2_with fail
  go_ret
  exact ⟨rfl, HB11.out⟩
end Go.Proofs.YtpomfdpclnkgpaaDoor

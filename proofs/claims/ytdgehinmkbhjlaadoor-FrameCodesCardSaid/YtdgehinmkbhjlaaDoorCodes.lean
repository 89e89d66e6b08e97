/-
  The walk of crossbucklaw06.FrameCodes: true, whatever it is given.
-/
import Derived.Test.YtdgehinmkbhjlaaDoorAny
namespace Go.Proofs.YtdgehinmkbhjlaaDoor
open Go.RowKit

set_option maxHeartbeats 4000000 in
set_option maxRecDepth 10000 in
theorem codes_long (c q : Int) (u v : Value) (xs b : List (BitVec 8)) (w : World) (hu : Byts w u xs) (hv : Byts w v b) (hl : 300 < xs.length ∨ 300 < b.length) :
    Calls Tryd.prog 3 #[.agg #[.int .i64 c, .int .i64 q, u], v] w fun e w' => e = .returned (.bool true) ∧ Below w.heap.size w w' := by
  have HLL := Lib.hid hl
  obtain ⟨au, cu, rfl⟩ := hu.len
  obtain ⟨av, cv, rfl⟩ := hv.len
  clear hu hv hl
  have HB := Lib.hid (below_alloc (Below.refl _ w) (.cells #[.int .i64 c, .int .i64 q, .slice au xs.length cu] 24))
  have HX := Lib.hid (box_new w c q (.slice au xs.length cu))
  go_enter Tryd.func3, Tryd.ntmps3
  go_wp2_with fail
  (with_reducible refine (small_true _).mono ?_)
  rintro e w1 ⟨rfl, hb⟩
  obtain ⟨e0, e1, e2⟩ := (HX.out.below hb).cells
  have HB1 := Lib.hid (below_call HB.out hb)
  clear hb HX HB
  by_cases h1 : 300 < xs.length
  · have q0 : decide ((300 : Int) < (xs.length : Int)) = true := decide_eq_true (by omega)
    clear h1
    go_wp2_with fail
    go_ret
    exact ⟨rfl, HB1.out⟩
  · have q0 : decide ((300 : Int) < (xs.length : Int)) = false := decide_eq_false (by omega)
    have q1 : decide ((300 : Int) < (b.length : Int)) = true := decide_eq_true (by have := HLL.out; omega)
    clear h1
    go_wp2_with fail
    go_ret
    exact ⟨rfl, HB1.out⟩

set_option maxHeartbeats 4000000 in
set_option maxRecDepth 10000 in
theorem codes_main (c q : Int) (u v : Value) (xs b : List (BitVec 8)) (w : World) (hu : Byts w u xs) (hv : Byts w v b) (hxl : xs.length ≤ 300) (hbl : b.length ≤ 300) :
    Calls Tryd.prog 3 #[.agg #[.int .i64 c, .int .i64 q, u], v] w fun e w' => e = .returned (.bool true) ∧ Below w.heap.size w w' := by
  have q0 : decide ((300 : Int) < (xs.length : Int)) = false := decide_eq_false (by omega)
  have q1 : decide ((300 : Int) < (b.length : Int)) = false := decide_eq_false (by omega)
  obtain ⟨X, k, p1, p2⟩ := enc_pair c q xs
  obtain ⟨c', q', ys, k', p3, p4⟩ := dec_pair b (by omega)
  have P1 := Lib.hid p1
  have P2 := Lib.hid p2
  have P3 := Lib.hid p3
  have P4 := Lib.hid p4
  have HU := Lib.hid hu
  have HV := Lib.hid hv
  have qk : (k == k) = true := by simp
  have qk' : (k' == k') = true := by simp
  obtain ⟨au, cu, rfl⟩ := hu.len
  obtain ⟨av, cv, rfl⟩ := hv.len
  clear hu hv hxl hbl p1 p2 p3 p4
  have HB := Lib.hid (below_alloc (Below.refl _ w) (.cells #[.int .i64 c, .int .i64 q, .slice au xs.length cu] 24))
  have HX := Lib.hid (box_new w c q (.slice au xs.length cu))
  go_enter Tryd.func3, Tryd.ntmps3
  go_wp2_with fail
  (with_reducible refine (small_true _).mono ?_)
  rintro e w1 ⟨rfl, hb⟩
  have HX1 := Lib.hid (HX.out.below hb)
  obtain ⟨e0, e1, e2⟩ := HX1.out.cells
  have HB1 := Lib.hid (below_call HB.out hb)
  have HU1 := Lib.hid (HU.out.below HB1.out)
  have HV1 := Lib.hid (HV.out.below HB1.out)
  clear hb HX HB HU HV
  go_wp2_with fail
  (with_reducible refine (P1.out _ _ HU1.out).mono ?_)
  rintro e w2 ⟨r, ea, rfl, hr, he, hb⟩
  have HX2 := Lib.hid (HX1.out.below hb)
  clear e0 e1 e2
  obtain ⟨e0, e1, e2⟩ := HX2.out.cells
  have HB2 := Lib.hid (below_call HB1.out hb)
  have HU2 := Lib.hid (HU1.out.below hb)
  have HV2 := Lib.hid (HV1.out.below hb)
  obtain ⟨ar, cr, rfl⟩ := hr.len
  have HR2 := Lib.hid hr
  have HE2 := Lib.hid he
  clear hb hr he HX1 HB1 HU1 HV1 P1
  go_wp2_with fail
  (with_reducible refine (P2.out _ _ HU2.out).mono ?_)
  rintro e w3 ⟨r', rfl, hr, hb⟩
  clear e0 e1 e2
  have HB3 := Lib.hid (below_call HB2.out hb)
  have HV3 := Lib.hid (HV2.out.below hb)
  have HR3 := Lib.hid (HR2.out.below hb)
  have HE3 := Lib.hid (HE2.out.below hb)
  obtain ⟨as_, cs, rfl⟩ := hr.len
  have HS3 := Lib.hid hr
  clear hb hr HX2 HB2 HU2 HV2 P2 HR2 HE2
  go_wp2_with fail
  (with_reducible refine (P3.out _ _ HV3.out).mono ?_)
  rintro e w4 ⟨v4, ed, rfl, hr, he, hb⟩
  obtain ⟨a4, c4, rfl⟩ := hr.len
  have hb' := below_call hb (below_alloc (Below.refl _ w4) (.cells #[.int .i64 c', .int .i64 q', .slice a4 ys.length c4] 24))
  have HX4 := Lib.hid (box_new w4 c' q' (.slice a4 ys.length c4))
  have HB4 := Lib.hid (below_call HB3.out hb')
  have HV4 := Lib.hid (HV3.out.below hb')
  have HR4 := Lib.hid (HR3.out.below hb')
  have HE4 := Lib.hid (HE3.out.below hb')
  have HS4 := Lib.hid (HS3.out.below hb')
  have HY4 := Lib.hid (hr.below (below_alloc (Below.refl _ w4) (.cells #[.int .i64 c', .int .i64 q', .slice a4 ys.length c4] 24)))
  have HD4 := Lib.hid (he.below (below_alloc (Below.refl _ w4) (.cells #[.int .i64 c', .int .i64 q', .slice a4 ys.length c4] 24)))
  clear hb hb' hr he HB3 HV3 HR3 HE3 HS3 P3
  go_wp2_with fail
  (with_reducible refine (P4.out _ _ HV4.out).mono ?_)
  rintro e w5 ⟨v5, rfl, hr, hb⟩
  obtain ⟨a5, c5, rfl⟩ := hr.len
  have hb' := below_call hb (below_alloc (Below.refl _ w5) (.cells #[.int .i64 c', .int .i64 q', .slice a5 ys.length c5] 24))
  have HX5 := Lib.hid (HX4.out.below hb')
  have HZ5 := Lib.hid (box_new w5 c' q' (.slice a5 ys.length c5))
  have HB5 := Lib.hid (below_call HB4.out hb')
  have HR5 := Lib.hid (HR4.out.below hb')
  have HE5 := Lib.hid (HE4.out.below hb')
  have HS5 := Lib.hid (HS4.out.below hb')
  have HY5 := Lib.hid (HY4.out.below hb')
  have HD5 := Lib.hid (HD4.out.below hb')
  have HW5 := Lib.hid (hr.below (below_alloc (Below.refl _ w5) (.cells #[.int .i64 c', .int .i64 q', .slice a5 ys.length c5] 24)))
  have cr1 := txt_run _ _ _ HR5.out
  have cr2 := txt_run _ _ _ HS5.out
  have qx := txt_same X
  obtain ⟨f0, f1, f2⟩ := HX5.out.cells
  obtain ⟨g0, g1, g2⟩ := HZ5.out.cells
  clear hb hb' hr HX4 HB4 HV4 HR4 HE4 HS4 HY4 HD4 P4
  go_wp2_with fail
  (with_reducible refine (code_err HE5.out).mono ?_)
  rintro e w6 ⟨rfl, rfl⟩
  go_wp2_with fail
  (with_reducible refine (same_any c' q' c' q' _ _ ys ys _ HY5.out HW5.out true (by simp)).mono ?_)
  rintro e w6 ⟨rfl, hb⟩
  have HB6 := Lib.hid (below_call HB5.out hb)
  have HD6 := Lib.hid (HD5.out.below hb)
  clear hb cr1 cr2 f0 f1 f2 g0 g1 g2
  go_wp2_with fail
  (with_reducible refine (code_err HD6.out).mono ?_)
  rintro e w7 ⟨rfl, rfl⟩
  go_wp2_with fail
  go_ret
  exact ⟨by simp, HB6.out⟩
theorem codes_any (c q : Int) (u v : Value) (xs b : List (BitVec 8)) (w : World) (hu : Byts w u xs) (hv : Byts w v b) :
    Calls Tryd.prog 3 #[.agg #[.int .i64 c, .int .i64 q, u], v] w fun e w' => e = .returned (.bool true) ∧ Below w.heap.size w w' := by
  by_cases hl : 300 < xs.length ∨ 300 < b.length
  · exact codes_long c q u v xs b w hu hv hl
  · exact codes_main c q u v xs b w hu hv (by omega) (by omega)
end Go.Proofs.YtdgehinmkbhjlaaDoor

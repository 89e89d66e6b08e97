/-
  The walk of crossbucklaw06.FrameBack: true, whatever it is given.
-/
import Derived.Test.YtdgehinmkbhjlaaDoorAny
namespace Go.Proofs.YtdgehinmkbhjlaaDoor
open Go.RowKit

set_option maxHeartbeats 4000000 in
set_option maxRecDepth 10000 in
theorem back_long (c q : Int) (u v : Value) (xs b : List (BitVec 8)) (w : World) (hu : Byts w u xs) (hv : Byts w v b) (hl : 300 < xs.length ∨ 300 < b.length) :
    Calls Tryd.prog 4 #[.agg #[.int .i64 c, .int .i64 q, u], v] w fun e w' => e = .returned (.bool true) ∧ Below w.heap.size w w' := by
  have HLL := Lib.hid hl
  obtain ⟨au, cu, rfl⟩ := hu.len
  obtain ⟨av, cv, rfl⟩ := hv.len
  clear hu hv hl
  have HB := Lib.hid (below_alloc (Below.refl _ w) (.cells #[.int .i64 c, .int .i64 q, .slice au xs.length cu] 24))
  have HX := Lib.hid (box_new w c q (.slice au xs.length cu))
  go_enter Tryd.func4, Tryd.ntmps4
  go_wp2_with fail
  (with_reducible refine (small_true _).mono ?_)
  rintro e w1 ⟨rfl, hb⟩
  obtain ⟨e0, e1, e2⟩ := (HX.out.below hb).cells
  have HB1 := Lib.hid (below_call HB.out hb)
  clear hb HX HB
  by_cases h1 : 300 < xs.length
  · have q0 : decide ((300 : Int) < (xs.length : Int)) = true := decide_eq_true (by omega)
    clear h1
    go_wp2_with fail
    go_ret
    exact ⟨rfl, HB1.out⟩
  · have q0 : decide ((300 : Int) < (xs.length : Int)) = false := decide_eq_false (by omega)
    have q1 : decide ((300 : Int) < (b.length : Int)) = true := decide_eq_true (by have := HLL.out; omega)
    clear h1
    go_wp2_with fail
    go_ret
    exact ⟨rfl, HB1.out⟩

set_option maxHeartbeats 4000000 in
set_option maxRecDepth 10000 in
theorem back_yy (x y : BitVec 8) (u v : Value) (xs b : List (BitVec 8)) (w : World) (hu : Byts w u xs) (hv : Byts w v b) (hx : x.toNat ≤ 15) (hxl : xs.length ≤ 16) (hbl : b.length ≤ 300) (x2 y2 : BitVec 8) (ys : List (BitVec 8)) (he : b = sealed (frm x2 y2 ys)) (hx2 : x2.toNat ≤ 15) (hyl : ys.length ≤ 16) (hd : ∀ u w, Byts w u b → Calls Tryd.prog 12 #[u] w fun e w' => ∃ v, e = .returned (.tuple #[.agg #[.int .i64 (x2.toNat : Int), .int .i64 (y2.toNat : Int), v], .nilIface]) ∧ Byts w' v ys ∧ Below w.heap.size w w') :
    Calls Tryd.prog 4 #[.agg #[.int .i64 (x.toNat : Int), .int .i64 (y.toNat : Int), u], v] w fun e w' => e = .returned (.bool true) ∧ Below w.heap.size w w' := by
  have q0 : decide ((300 : Int) < (xs.length : Int)) = false := decide_eq_false (by omega)
  have q1 : decide ((300 : Int) < (b.length : Int)) = false := decide_eq_false (by omega)
  have HU := Lib.hid hu
  have HV := Lib.hid hv
  have HD := Lib.hid hd
  have HF1 := Lib.hid hx
  have HF2 := Lib.hid hxl
  have HF3 := Lib.hid (show (sealed (frm x y xs)).length ≤ 1000000 by rw [length_sealed]; omega)
  have HE := Lib.hid he
  have HG1 := Lib.hid hx2
  have HG2 := Lib.hid hyl
  obtain ⟨au, cu, rfl⟩ := hu.len
  obtain ⟨av, cv, rfl⟩ := hv.len
  clear hu hv hbl hd hx hxl he hx2 hyl
  have HB := Lib.hid (below_alloc (Below.refl _ w) (.cells #[.int .i64 (x.toNat : Int), .int .i64 (y.toNat : Int), .slice au xs.length cu] 24))
  have HX := Lib.hid (box_new w (x.toNat : Int) (y.toNat : Int) (.slice au xs.length cu))
  go_enter Tryd.func4, Tryd.ntmps4
  go_wp2_with fail
  (with_reducible refine (small_true _).mono ?_)
  rintro e w1 ⟨rfl, hb⟩
  have HX1 := Lib.hid (HX.out.below hb)
  obtain ⟨e0, e1, e2⟩ := HX1.out.cells
  have HB1 := Lib.hid (below_call HB.out hb)
  have HU1 := Lib.hid (HU.out.below HB1.out)
  have HV1 := Lib.hid (HV.out.below HB1.out)
  clear hb HX HB HU HV
  go_wp2_with fail
  (with_reducible refine (enc_yes _ _ _ _ _ HU1.out HF1.out HF2.out).mono ?_)
  rintro e w2 ⟨r, rfl, hown, hb⟩
  have HX2 := Lib.hid (HX1.out.below hb)
  have HB2 := Lib.hid (below_call HB1.out hb)
  have HU2 := Lib.hid (HU1.out.below hb)
  have HV2 := Lib.hid (HV1.out.below hb)
  have HR2 := Lib.hid hown.byts
  obtain ⟨ar, cr, rfl⟩ := hown.byts.len
  clear hb hown e0 e1 e2 HX1 HB1 HU1 HV1
  go_wp2_with fail
  (with_reducible refine (dec_yes _ _ x y xs _ HR2.out HF3.out (opens_sealed _) (front_sealed _) HF1.out HF2.out).mono ?_)
  rintro e w3 ⟨v3, rfl, hv3, hb⟩
  obtain ⟨a3, c3, rfl⟩ := hv3.len
  have hb' := below_call hb (below_alloc (Below.refl _ w3) (.cells #[.int .i64 (x.toNat : Int), .int .i64 (y.toNat : Int), .slice a3 xs.length c3] 24))
  have HX3 := Lib.hid (HX2.out.below hb')
  have HY3 := Lib.hid (box_new w3 (x.toNat : Int) (y.toNat : Int) (.slice a3 xs.length c3))
  have HB3 := Lib.hid (below_call HB2.out hb')
  have HU3 := Lib.hid (HU2.out.below hb')
  have HV3 := Lib.hid (HV2.out.below hb')
  have HW3 := Lib.hid (hv3.below (below_alloc (Below.refl _ w3) (.cells #[.int .i64 (x.toNat : Int), .int .i64 (y.toNat : Int), .slice a3 xs.length c3] 24)))
  obtain ⟨e0, e1, e2⟩ := HX3.out.cells
  obtain ⟨f0, f1, f2⟩ := HY3.out.cells
  clear hb hb' hv3 HX2 HB2 HU2 HV2 HR2 HF3
  go_wp2_with fail
  (with_reducible refine (same_any _ _ _ _ _ _ xs xs _ HU3.out HW3.out true (by simp)).mono ?_)
  rintro e w4 ⟨rfl, hb⟩
  have HB4 := Lib.hid (below_call HB3.out hb)
  have HV4 := Lib.hid (HV3.out.below hb)
  clear hb HX3 HY3 HB3 HU3 HV3 HW3 e0 e1 e2 f0 f1 f2
  go_wp2_with fail
  (with_reducible refine (HD.out _ _ HV4.out).mono ?_)
  rintro e w5 ⟨v5, rfl, hv5, hb⟩
  obtain ⟨a5, c5, rfl⟩ := hv5.len
  have hb' := below_call hb (below_alloc (Below.refl _ w5) (.cells #[.int .i64 (x2.toNat : Int), .int .i64 (y2.toNat : Int), .slice a5 ys.length c5] 24))
  have HY5 := Lib.hid (box_new w5 (x2.toNat : Int) (y2.toNat : Int) (.slice a5 ys.length c5))
  have HB5 := Lib.hid (below_call HB4.out hb')
  have HV5 := Lib.hid (HV4.out.below hb')
  have HW5 := Lib.hid (hv5.below (below_alloc (Below.refl _ w5) (.cells #[.int .i64 (x2.toNat : Int), .int .i64 (y2.toNat : Int), .slice a5 ys.length c5] 24)))
  obtain ⟨f0, f1, f2⟩ := HY5.out.cells
  clear hb hb' hv5 HB4 HV4
  go_wp2_with fail
  (with_reducible refine (enc_yes _ _ _ _ _ HW5.out HG1.out HG2.out).mono ?_)
  rintro e w6 ⟨r6, rfl, hown, hb⟩
  obtain ⟨a6, c6, rfl⟩ := hown.byts.len
  have HB6 := Lib.hid (below_call HB5.out hb)
  have HV6 := Lib.hid (HV5.out.below hb)
  have hr := hown.byts
  rw [← HE.out] at hr ⊢
  have cr1 := txt_run _ _ _ hr
  have cr2 := txt_run _ _ _ HV6.out
  have qx := txt_same b
  clear hb hown hr HY5 HB5 HV5 HW5 f0 f1 f2
  go_wp2_with fail
  go_ret
  exact ⟨rfl, HB6.out⟩

set_option maxHeartbeats 4000000 in
set_option maxRecDepth 10000 in
theorem back_yn (x y : BitVec 8) (u v : Value) (xs b : List (BitVec 8)) (w : World) (hu : Byts w u xs) (hv : Byts w v b) (hx : x.toNat ≤ 15) (hxl : xs.length ≤ 16) (hbl : b.length ≤ 300) (hd : ∀ u w, Byts w u b → Calls Tryd.prog 12 #[u] w fun e w' => ∃ g, e = .returned (.tuple #[.agg #[.int .i64 0, .int .i64 0, .slice none 0 0], .iface 50 (.pointer (some ⟨g, 0, none⟩))]) ∧ Below w.heap.size w w') :
    Calls Tryd.prog 4 #[.agg #[.int .i64 (x.toNat : Int), .int .i64 (y.toNat : Int), u], v] w fun e w' => e = .returned (.bool true) ∧ Below w.heap.size w w' := by
  have q0 : decide ((300 : Int) < (xs.length : Int)) = false := decide_eq_false (by omega)
  have q1 : decide ((300 : Int) < (b.length : Int)) = false := decide_eq_false (by omega)
  have HU := Lib.hid hu
  have HV := Lib.hid hv
  have HD := Lib.hid hd
  have HF1 := Lib.hid hx
  have HF2 := Lib.hid hxl
  have HF3 := Lib.hid (show (sealed (frm x y xs)).length ≤ 1000000 by rw [length_sealed]; omega)
  obtain ⟨au, cu, rfl⟩ := hu.len
  obtain ⟨av, cv, rfl⟩ := hv.len
  clear hu hv hbl hd hx hxl
  have HB := Lib.hid (below_alloc (Below.refl _ w) (.cells #[.int .i64 (x.toNat : Int), .int .i64 (y.toNat : Int), .slice au xs.length cu] 24))
  have HX := Lib.hid (box_new w (x.toNat : Int) (y.toNat : Int) (.slice au xs.length cu))
  go_enter Tryd.func4, Tryd.ntmps4
  go_wp2_with fail
  (with_reducible refine (small_true _).mono ?_)
  rintro e w1 ⟨rfl, hb⟩
  have HX1 := Lib.hid (HX.out.below hb)
  obtain ⟨e0, e1, e2⟩ := HX1.out.cells
  have HB1 := Lib.hid (below_call HB.out hb)
  have HU1 := Lib.hid (HU.out.below HB1.out)
  have HV1 := Lib.hid (HV.out.below HB1.out)
  clear hb HX HB HU HV
  go_wp2_with fail
  (with_reducible refine (enc_yes _ _ _ _ _ HU1.out HF1.out HF2.out).mono ?_)
  rintro e w2 ⟨r, rfl, hown, hb⟩
  have HX2 := Lib.hid (HX1.out.below hb)
  have HB2 := Lib.hid (below_call HB1.out hb)
  have HU2 := Lib.hid (HU1.out.below hb)
  have HV2 := Lib.hid (HV1.out.below hb)
  have HR2 := Lib.hid hown.byts
  obtain ⟨ar, cr, rfl⟩ := hown.byts.len
  clear hb hown e0 e1 e2 HX1 HB1 HU1 HV1
  go_wp2_with fail
  (with_reducible refine (dec_yes _ _ x y xs _ HR2.out HF3.out (opens_sealed _) (front_sealed _) HF1.out HF2.out).mono ?_)
  rintro e w3 ⟨v3, rfl, hv3, hb⟩
  obtain ⟨a3, c3, rfl⟩ := hv3.len
  have hb' := below_call hb (below_alloc (Below.refl _ w3) (.cells #[.int .i64 (x.toNat : Int), .int .i64 (y.toNat : Int), .slice a3 xs.length c3] 24))
  have HX3 := Lib.hid (HX2.out.below hb')
  have HY3 := Lib.hid (box_new w3 (x.toNat : Int) (y.toNat : Int) (.slice a3 xs.length c3))
  have HB3 := Lib.hid (below_call HB2.out hb')
  have HU3 := Lib.hid (HU2.out.below hb')
  have HV3 := Lib.hid (HV2.out.below hb')
  have HW3 := Lib.hid (hv3.below (below_alloc (Below.refl _ w3) (.cells #[.int .i64 (x.toNat : Int), .int .i64 (y.toNat : Int), .slice a3 xs.length c3] 24)))
  obtain ⟨e0, e1, e2⟩ := HX3.out.cells
  obtain ⟨f0, f1, f2⟩ := HY3.out.cells
  clear hb hb' hv3 HX2 HB2 HU2 HV2 HR2 HF3
  go_wp2_with fail
  (with_reducible refine (same_any _ _ _ _ _ _ xs xs _ HU3.out HW3.out true (by simp)).mono ?_)
  rintro e w4 ⟨rfl, hb⟩
  have HB4 := Lib.hid (below_call HB3.out hb)
  have HV4 := Lib.hid (HV3.out.below hb)
  clear hb HX3 HY3 HB3 HU3 HV3 HW3 e0 e1 e2 f0 f1 f2
  go_wp2_with fail
  (with_reducible refine (HD.out _ _ HV4.out).mono ?_)
  rintro e w5 ⟨g5, rfl, hb⟩
  have hb' := below_call hb (below_alloc (Below.refl _ w5) (.cells #[.int .i64 0, .int .i64 0, .slice none 0 0] 24))
  have HY5 := Lib.hid (box_new w5 0 0 (.slice none 0 0))
  have HB5 := Lib.hid (below_call HB4.out hb')
  obtain ⟨f0, f1, f2⟩ := HY5.out.cells
  clear hb hb' HB4 HV4
  go_wp2_with fail
  (with_reducible refine (same_any 0 0 0 0 _ _ [] [] _ (byts_nil _) (byts_nil _) true (by simp)).mono ?_)
  rintro e w6 ⟨rfl, hb⟩
  have HB6 := Lib.hid (below_call HB5.out hb)
  clear hb HY5 HB5 f0 f1 f2
  go_wp2_with fail
  go_ret
  exact ⟨rfl, HB6.out⟩

set_option maxHeartbeats 4000000 in
set_option maxRecDepth 10000 in
theorem back_ny (c q : Int) (u v : Value) (xs b : List (BitVec 8)) (w : World) (hu : Byts w u xs) (hv : Byts w v b) (hf : ¬ Fit c q xs.length) (hxl : xs.length ≤ 300) (hbl : b.length ≤ 300) (x2 y2 : BitVec 8) (ys : List (BitVec 8)) (he : b = sealed (frm x2 y2 ys)) (hx2 : x2.toNat ≤ 15) (hyl : ys.length ≤ 16) (hd : ∀ u w, Byts w u b → Calls Tryd.prog 12 #[u] w fun e w' => ∃ v, e = .returned (.tuple #[.agg #[.int .i64 (x2.toNat : Int), .int .i64 (y2.toNat : Int), v], .nilIface]) ∧ Byts w' v ys ∧ Below w.heap.size w w') :
    Calls Tryd.prog 4 #[.agg #[.int .i64 c, .int .i64 q, u], v] w fun e w' => e = .returned (.bool true) ∧ Below w.heap.size w w' := by
  have q0 : decide ((300 : Int) < (xs.length : Int)) = false := decide_eq_false (by omega)
  have q1 : decide ((300 : Int) < (b.length : Int)) = false := decide_eq_false (by omega)
  have HU := Lib.hid hu
  have HV := Lib.hid hv
  have HD := Lib.hid hd
  have HF := Lib.hid hf
  have HE := Lib.hid he
  have HG1 := Lib.hid hx2
  have HG2 := Lib.hid hyl
  obtain ⟨au, cu, rfl⟩ := hu.len
  obtain ⟨av, cv, rfl⟩ := hv.len
  clear hu hv hbl hd hf hxl he hx2 hyl
  have HB := Lib.hid (below_alloc (Below.refl _ w) (.cells #[.int .i64 c, .int .i64 q, .slice au xs.length cu] 24))
  have HX := Lib.hid (box_new w c q (.slice au xs.length cu))
  go_enter Tryd.func4, Tryd.ntmps4
  go_wp2_with fail
  (with_reducible refine (small_true _).mono ?_)
  rintro e w1 ⟨rfl, hb⟩
  have HX1 := Lib.hid (HX.out.below hb)
  obtain ⟨e0, e1, e2⟩ := HX1.out.cells
  have HB1 := Lib.hid (below_call HB.out hb)
  have HU1 := Lib.hid (HU.out.below HB1.out)
  have HV1 := Lib.hid (HV.out.below HB1.out)
  clear hb HX HB HU HV
  go_wp2_with fail
  (with_reducible refine (enc_no _ _ _ _ _ HU1.out HF.out).mono ?_)
  rintro e w4 ⟨g, _, rfl, _, hb⟩
  have HB4 := Lib.hid (below_call HB1.out hb)
  have HV4 := Lib.hid (HV1.out.below hb)
  clear hb e0 e1 e2 HX1 HB1 HU1 HV1
  go_wp2_with fail
  (with_reducible refine (HD.out _ _ HV4.out).mono ?_)
  rintro e w5 ⟨v5, rfl, hv5, hb⟩
  obtain ⟨a5, c5, rfl⟩ := hv5.len
  have hb' := below_call hb (below_alloc (Below.refl _ w5) (.cells #[.int .i64 (x2.toNat : Int), .int .i64 (y2.toNat : Int), .slice a5 ys.length c5] 24))
  have HY5 := Lib.hid (box_new w5 (x2.toNat : Int) (y2.toNat : Int) (.slice a5 ys.length c5))
  have HB5 := Lib.hid (below_call HB4.out hb')
  have HV5 := Lib.hid (HV4.out.below hb')
  have HW5 := Lib.hid (hv5.below (below_alloc (Below.refl _ w5) (.cells #[.int .i64 (x2.toNat : Int), .int .i64 (y2.toNat : Int), .slice a5 ys.length c5] 24)))
  obtain ⟨f0, f1, f2⟩ := HY5.out.cells
  clear hb hb' hv5 HB4 HV4
  go_wp2_with fail
  (with_reducible refine (enc_yes _ _ _ _ _ HW5.out HG1.out HG2.out).mono ?_)
  rintro e w6 ⟨r6, rfl, hown, hb⟩
  obtain ⟨a6, c6, rfl⟩ := hown.byts.len
  have HB6 := Lib.hid (below_call HB5.out hb)
  have HV6 := Lib.hid (HV5.out.below hb)
  have hr := hown.byts
  rw [← HE.out] at hr ⊢
  have cr1 := txt_run _ _ _ hr
  have cr2 := txt_run _ _ _ HV6.out
  have qx := txt_same b
  clear hb hown hr HY5 HB5 HV5 HW5 f0 f1 f2
  go_wp2_with fail
  go_ret
  exact ⟨rfl, HB6.out⟩

set_option maxHeartbeats 4000000 in
set_option maxRecDepth 10000 in
theorem back_nn (c q : Int) (u v : Value) (xs b : List (BitVec 8)) (w : World) (hu : Byts w u xs) (hv : Byts w v b) (hf : ¬ Fit c q xs.length) (hxl : xs.length ≤ 300) (hbl : b.length ≤ 300) (hd : ∀ u w, Byts w u b → Calls Tryd.prog 12 #[u] w fun e w' => ∃ g, e = .returned (.tuple #[.agg #[.int .i64 0, .int .i64 0, .slice none 0 0], .iface 50 (.pointer (some ⟨g, 0, none⟩))]) ∧ Below w.heap.size w w') :
    Calls Tryd.prog 4 #[.agg #[.int .i64 c, .int .i64 q, u], v] w fun e w' => e = .returned (.bool true) ∧ Below w.heap.size w w' := by
  have q0 : decide ((300 : Int) < (xs.length : Int)) = false := decide_eq_false (by omega)
  have q1 : decide ((300 : Int) < (b.length : Int)) = false := decide_eq_false (by omega)
  have HU := Lib.hid hu
  have HV := Lib.hid hv
  have HD := Lib.hid hd
  have HF := Lib.hid hf
  obtain ⟨au, cu, rfl⟩ := hu.len
  obtain ⟨av, cv, rfl⟩ := hv.len
  clear hu hv hbl hd hf hxl
  have HB := Lib.hid (below_alloc (Below.refl _ w) (.cells #[.int .i64 c, .int .i64 q, .slice au xs.length cu] 24))
  have HX := Lib.hid (box_new w c q (.slice au xs.length cu))
  go_enter Tryd.func4, Tryd.ntmps4
  go_wp2_with fail
  (with_reducible refine (small_true _).mono ?_)
  rintro e w1 ⟨rfl, hb⟩
  have HX1 := Lib.hid (HX.out.below hb)
  obtain ⟨e0, e1, e2⟩ := HX1.out.cells
  have HB1 := Lib.hid (below_call HB.out hb)
  have HU1 := Lib.hid (HU.out.below HB1.out)
  have HV1 := Lib.hid (HV.out.below HB1.out)
  clear hb HX HB HU HV
  go_wp2_with fail
  (with_reducible refine (enc_no _ _ _ _ _ HU1.out HF.out).mono ?_)
  rintro e w4 ⟨g, _, rfl, _, hb⟩
  have HB4 := Lib.hid (below_call HB1.out hb)
  have HV4 := Lib.hid (HV1.out.below hb)
  clear hb e0 e1 e2 HX1 HB1 HU1 HV1
  go_wp2_with fail
  (with_reducible refine (HD.out _ _ HV4.out).mono ?_)
  rintro e w5 ⟨g5, rfl, hb⟩
  have hb' := below_call hb (below_alloc (Below.refl _ w5) (.cells #[.int .i64 0, .int .i64 0, .slice none 0 0] 24))
  have HY5 := Lib.hid (box_new w5 0 0 (.slice none 0 0))
  have HB5 := Lib.hid (below_call HB4.out hb')
  obtain ⟨f0, f1, f2⟩ := HY5.out.cells
  clear hb hb' HB4 HV4
  go_wp2_with fail
  (with_reducible refine (same_any 0 0 0 0 _ _ [] [] _ (byts_nil _) (byts_nil _) true (by simp)).mono ?_)
  rintro e w6 ⟨rfl, hb⟩
  have HB6 := Lib.hid (below_call HB5.out hb)
  clear hb HY5 HB5 f0 f1 f2
  go_wp2_with fail
  go_ret
  exact ⟨rfl, HB6.out⟩

theorem back_any (c q : Int) (u v : Value) (xs b : List (BitVec 8)) (w : World) (hu : Byts w u xs) (hv : Byts w v b) :
    Calls Tryd.prog 4 #[.agg #[.int .i64 c, .int .i64 q, u], v] w fun e w' => e = .returned (.bool true) ∧ Below w.heap.size w w' := by
  by_cases hl : 300 < xs.length ∨ 300 < b.length
  · exact back_long c q u v xs b w hu hv hl
  · by_cases h : Fit c q xs.length
    · obtain ⟨x, y, rfl, rfl, hx⟩ := fit_bytes h
      rcases dec_cases b (by omega) with hd | ⟨x2, y2, ys, he, hx2, hyl, hd⟩
      · exact back_yn x y u v xs b w hu hv hx h.2.2.2.2 (by omega) hd
      · exact back_yy x y u v xs b w hu hv hx h.2.2.2.2 (by omega) x2 y2 ys he hx2 hyl hd
    · rcases dec_cases b (by omega) with hd | ⟨x2, y2, ys, he, hx2, hyl, hd⟩
      · exact back_nn c q u v xs b w hu hv h (by omega) (by omega) hd
      · exact back_ny c q u v xs b w hu hv h (by omega) (by omega) x2 y2 ys he hx2 hyl hd
end Go.Proofs.YtdgehinmkbhjlaaDoor

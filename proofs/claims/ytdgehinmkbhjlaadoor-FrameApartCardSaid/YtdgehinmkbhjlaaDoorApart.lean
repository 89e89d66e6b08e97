/-
  The walk of crossbucklaw06.FrameApart: true, whatever it is given.
-/
import Derived.Test.YtdgehinmkbhjlaaDoorMay
import Derived.Deep.QuietTactic
import Derived.BigQuiet
namespace Go.Proofs.YtdgehinmkbhjlaaDoor
open Go.RowKit

theorem two_boxes (w : World) (c q c' q' : Int) (u v : Value) : Box ((w.alloc (.cells #[.int .i64 c, .int .i64 q, u] 24)).alloc (.cells #[.int .i64 c', .int .i64 q', v] 24)) w.heap.size c q u ∧
    Box ((w.alloc (.cells #[.int .i64 c, .int .i64 q, u] 24)).alloc (.cells #[.int .i64 c', .int .i64 q', v] 24)) (w.heap.size + 1) c' q' v := by
  refine ⟨(box_new w c q u).below (below_alloc (Below.refl _ _) _), ?_⟩
  have := box_new (w.alloc (.cells #[.int .i64 c, .int .i64 q, u] 24)) c' q' v
  simpa using this
set_option maxHeartbeats 4000000 in
set_option maxRecDepth 10000 in
theorem apart_long (c q c' q' : Int) (u v : Value) (xs ys : List (BitVec 8)) (w : World) (hu : Byts w u xs) (hv : Byts w v ys) (hl : 300 < xs.length ∨ 300 < ys.length) :
    Calls Tryd.prog 8 #[.agg #[.int .i64 c, .int .i64 q, u], .agg #[.int .i64 c', .int .i64 q', v]] w fun e w' => e = .returned (.bool true) ∧ Below w.heap.size w w' := by
  have HLL := Lib.hid hl
  obtain ⟨au, cu, rfl⟩ := hu.len
  obtain ⟨av, cv, rfl⟩ := hv.len
  clear hu hv hl
  have HB := Lib.hid (below_alloc (below_alloc (Below.refl _ w) (.cells #[.int .i64 c, .int .i64 q, .slice au xs.length cu] 24)) (.cells #[.int .i64 c', .int .i64 q', .slice av ys.length cv] 24))
  have HX := Lib.hid (two_boxes w c q c' q' (.slice au xs.length cu) (.slice av ys.length cv))
  go_enter Tryd.func8, Tryd.ntmps8
  go_wp2_with fail
  (with_reducible refine (small_true _).mono ?_)
  rintro e w1 ⟨rfl, hb⟩
  obtain ⟨e0, e1, e2⟩ := (HX.out.1.below hb).cells
  obtain ⟨d0, d1, d2⟩ := (HX.out.2.below hb).cells
  have HB1 := Lib.hid (below_call HB.out hb)
  clear hb HX HB
  by_cases h1 : 300 < xs.length
  · have q0 : decide ((300 : Int) < (xs.length : Int)) = true := decide_eq_true (by omega)
    clear h1
    go_wp2_with fail
    go_ret
    exact ⟨rfl, HB1.out⟩
  · have q0 : decide ((300 : Int) < (xs.length : Int)) = false := decide_eq_false (by omega)
    have q1 : decide ((300 : Int) < (ys.length : Int)) = true := decide_eq_true (by have := HLL.out; omega)
    clear h1
    go_wp2_with fail
    go_ret
    exact ⟨rfl, HB1.out⟩

set_option maxHeartbeats 4000000 in
set_option maxRecDepth 10000 in
theorem apart_fit (x y x' y' : BitVec 8) (u v : Value) (xs ys : List (BitVec 8)) (w : World) (hu : Byts w u xs) (hv : Byts w v ys) (hx : x.toNat ≤ 15) (hxl : xs.length ≤ 16) (hx' : x'.toNat ≤ 15) (hyl : ys.length ≤ 16) :
    Calls Tryd.prog 8 #[.agg #[.int .i64 (x.toNat : Int), .int .i64 (y.toNat : Int), u], .agg #[.int .i64 (x'.toNat : Int), .int .i64 (y'.toNat : Int), v]] w fun e w' => e = .returned (.bool true) ∧ Below w.heap.size w w' := by
  have q0 : decide ((300 : Int) < (xs.length : Int)) = false := decide_eq_false (by omega)
  have q1 : decide ((300 : Int) < (ys.length : Int)) = false := decide_eq_false (by omega)
  obtain ⟨b, hb, hs⟩ : ∃ b : Bool, b = decide ((x.toNat : Int) = (x'.toNat : Int) ∧ (y.toNat : Int) = (y'.toNat : Int) ∧ xs = ys) ∧ ((txt (sealed (frm x y xs))).toList == (txt (sealed (frm x' y' ys))).toList) = b := by
    by_cases h : x = x' ∧ y = y' ∧ xs = ys
    · obtain ⟨rfl, rfl, rfl⟩ := h
      exact ⟨true, by simp, txt_same _⟩
    · refine ⟨false, ?_, txt_other fun e => h (frm_inj (sealed_inj e))⟩
      symm
      refine decide_eq_false fun hh => h ⟨BitVec.eq_of_toNat_eq (by omega), BitVec.eq_of_toNat_eq (by omega), hh.2.2⟩
  have HBB := Lib.hid hb
  have HU := Lib.hid hu
  have HV := Lib.hid hv
  have HF1 := Lib.hid hx
  have HF2 := Lib.hid hxl
  have HF3 := Lib.hid hx'
  have HF4 := Lib.hid hyl
  obtain ⟨au, cu, rfl⟩ := hu.len
  obtain ⟨av, cv, rfl⟩ := hv.len
  clear hu hv hx hxl hx' hyl hb
  have HB := Lib.hid (below_alloc (below_alloc (Below.refl _ w) (.cells #[.int .i64 (x.toNat : Int), .int .i64 (y.toNat : Int), .slice au xs.length cu] 24)) (.cells #[.int .i64 (x'.toNat : Int), .int .i64 (y'.toNat : Int), .slice av ys.length cv] 24))
  have HX := Lib.hid (two_boxes w (x.toNat : Int) (y.toNat : Int) (x'.toNat : Int) (y'.toNat : Int) (.slice au xs.length cu) (.slice av ys.length cv))
  go_enter Tryd.func8, Tryd.ntmps8
  go_wp2_with fail
  (with_reducible refine (small_true _).mono ?_)
  rintro e w1 ⟨rfl, hb⟩
  have HX1 := Lib.hid (HX.out.1.below hb)
  have HY1 := Lib.hid (HX.out.2.below hb)
  obtain ⟨e0, e1, e2⟩ := HX1.out.cells
  obtain ⟨d0, d1, d2⟩ := HY1.out.cells
  have HB1 := Lib.hid (below_call HB.out hb)
  have HU1 := Lib.hid (HU.out.below HB1.out)
  have HV1 := Lib.hid (HV.out.below HB1.out)
  clear hb HX HB HU HV
  go_wp2_with fail
  (with_reducible refine (enc_yes _ _ _ _ _ HU1.out HF1.out HF2.out).mono ?_)
  rintro e w2 ⟨r, rfl, hown, hb⟩
  have HX2 := Lib.hid (HX1.out.below hb)
  have HY2 := Lib.hid (HY1.out.below hb)
  clear e0 e1 e2 d0 d1 d2
  obtain ⟨d0, d1, d2⟩ := HY2.out.cells
  have HB2 := Lib.hid (below_call HB1.out hb)
  have HU2 := Lib.hid (HU1.out.below hb)
  have HV2 := Lib.hid (HV1.out.below hb)
  have HR := Lib.hid hown.byts
  obtain ⟨ar, cr, rfl⟩ := hown.byts.len
  clear hb hown HX1 HY1 HB1 HU1 HV1
  go_wp2_with fail
  (with_reducible refine (enc_yes _ _ _ _ _ HV2.out HF3.out HF4.out).mono ?_)
  rintro e w3 ⟨r', rfl, hown, hb⟩
  have HX3 := Lib.hid (HX2.out.below hb)
  have HY3 := Lib.hid (HY2.out.below hb)
  clear d0 d1 d2
  have HB3 := Lib.hid (below_call HB2.out hb)
  have HU3 := Lib.hid (HU2.out.below hb)
  have HV3 := Lib.hid (HV2.out.below hb)
  have HR3 := Lib.hid (HR.out.below hb)
  have HS3 := Lib.hid hown.byts
  obtain ⟨az, cs, rfl⟩ := hown.byts.len
  clear hb hown HX2 HY2 HB2 HU2 HV2 HR
  generalize sealed (frm x y xs) = X at *
  generalize sealed (frm x' y' ys) = Y at *
  have held : ∀ wy : World, Byts wy (.slice ar X.length cr) X → Byts wy (.slice az Y.length cs) Y → Box wy w.heap.size (x.toNat : Int) (y.toNat : Int) (.slice au xs.length cu) → Box wy (w.heap.size + 1) (x'.toNat : Int) (y'.toNat : Int) (.slice av ys.length cv) →
      ((convert 22 9 (.slice ar X.length cr)).run Tryd.prog wy = .ok (.string (txt X)) wy ∧ (convert 22 9 (.slice az Y.length cs)).run Tryd.prog wy = .ok (.string (txt Y)) wy) ∧
      (wy.cell? ⟨w.heap.size, 0, none⟩ = some (.int .i64 (x.toNat : Int)) ∧ wy.cell? ⟨w.heap.size, 1, none⟩ = some (.int .i64 (y.toNat : Int)) ∧ wy.cell? ⟨w.heap.size, 2, none⟩ = some (.slice au xs.length cu)) ∧
      (wy.cell? ⟨w.heap.size + 1, 0, none⟩ = some (.int .i64 (x'.toNat : Int)) ∧ wy.cell? ⟨w.heap.size + 1, 1, none⟩ = some (.int .i64 (y'.toNat : Int)) ∧ wy.cell? ⟨w.heap.size + 1, 2, none⟩ = some (.slice av ys.length cv)) := fun _ h1 h2 h3 h4 => ⟨⟨txt_run _ _ _ h1, txt_run _ _ _ h2⟩, h3.cells, h4.cells⟩
  have hD : Below w3.heap.size w3 w3.drew := (Below.refl _ w3).drew
  have HK := Lib.hid (held _ (HR3.out.below hD) (HS3.out.below hD) (HX3.out.below hD) (HY3.out.below hD))
  have HSM := Lib.hid (same_any (x.toNat : Int) (y.toNat : Int) (x'.toNat : Int) (y'.toNat : Int) _ _ xs ys _ (HU3.out.below hD) (HV3.out.below hD) b HBB.out)
  have HH := Lib.hid held
  have HRD := Lib.hid (HR3.out.below hD)
  have HSD := Lib.hid (HS3.out.below hD)
  have HXD := Lib.hid (HX3.out.below hD)
  have HYD := Lib.hid (HY3.out.below hD)
  have HBD := Lib.hid (below_call HB3.out hD)
  have hk := HK.out
  have qb : (b == b) = true := by simp
  clear held hD HR3 HS3 HX3 HY3 HB3 HU3 HV3
  go_wp2_with fail
  go_region_held3 (fun w' => ((convert 22 9 (.slice ar X.length cr)).run Tryd.prog w' = .ok (.string (txt X)) w' ∧ (convert 22 9 (.slice az Y.length cs)).run Tryd.prog w' = .ok (.string (txt Y)) w') ∧
      (w'.cell? ⟨w.heap.size, 0, none⟩ = some (.int .i64 (x.toNat : Int)) ∧ w'.cell? ⟨w.heap.size, 1, none⟩ = some (.int .i64 (y.toNat : Int)) ∧ w'.cell? ⟨w.heap.size, 2, none⟩ = some (.slice au xs.length cu)) ∧
      (w'.cell? ⟨w.heap.size + 1, 0, none⟩ = some (.int .i64 (x'.toNat : Int)) ∧ w'.cell? ⟨w.heap.size + 1, 1, none⟩ = some (.int .i64 (y'.toNat : Int)) ∧ w'.cell? ⟨w.heap.size + 1, 2, none⟩ = some (.slice av ys.length cv))) (first | exact hk | exact HK4.out)
    (first | (go_at_call 15; (with_reducible refine HSM.out.mono ?_); rintro e w4 ⟨rfl, hb⟩; have HB4 := Lib.hid (below_call HBD.out hb); have HK4 := Lib.hid (HH.out _ (HRD.out.below hb) (HSD.out.below hb) (HXD.out.below hb) (HYD.out.below hb)); clear hb))
  go_wp2_with fail
  go_ret
  exact ⟨by simp, HB4.out⟩
theorem enc_some (c q : Int) (u : Value) (xs : List (BitVec 8)) (w : World) (hu : Byts w u xs) :
    Calls Tryd.prog 10 #[.agg #[.int .i64 c, .int .i64 q, u]] w fun e w' => ∃ r e2, e = .returned (.tuple #[r, e2]) ∧ Below w.heap.size w w' := by
  by_cases h : Fit c q xs.length
  · obtain ⟨x, y, rfl, rfl, hx⟩ := fit_bytes h
    exact (enc_yes x y u xs w hu hx h.2.2.2.2).mono fun e w' ⟨r, h1, _, h3⟩ => ⟨r, _, h1, h3⟩
  · exact (enc_no c q u xs w hu h).mono fun e w' ⟨g, _, h1, _, h3⟩ => ⟨_, _, h1, h3⟩

set_option maxHeartbeats 4000000 in
set_option maxRecDepth 10000 in
theorem apart_no1 (c q c' q' : Int) (u v : Value) (xs ys : List (BitVec 8)) (w : World) (hu : Byts w u xs) (hv : Byts w v ys) (hxl : xs.length ≤ 300) (hyl : ys.length ≤ 300) (hf : ¬ Fit c q xs.length) :
    Calls Tryd.prog 8 #[.agg #[.int .i64 c, .int .i64 q, u], .agg #[.int .i64 c', .int .i64 q', v]] w fun e w' => e = .returned (.bool true) ∧ Below w.heap.size w w' := by
  have q0 : decide ((300 : Int) < (xs.length : Int)) = false := decide_eq_false (by omega)
  have q1 : decide ((300 : Int) < (ys.length : Int)) = false := decide_eq_false (by omega)
  have HU := Lib.hid hu
  have HV := Lib.hid hv
  have HF := Lib.hid hf
  obtain ⟨au, cu, rfl⟩ := hu.len
  obtain ⟨av, cv, rfl⟩ := hv.len
  clear hu hv hxl hyl hf
  have HB := Lib.hid (below_alloc (below_alloc (Below.refl _ w) (.cells #[.int .i64 (c), .int .i64 (q), .slice au xs.length cu] 24)) (.cells #[.int .i64 c', .int .i64 q', .slice av ys.length cv] 24))
  have HX := Lib.hid (two_boxes w (c) (q) c' q' (.slice au xs.length cu) (.slice av ys.length cv))
  go_enter Tryd.func8, Tryd.ntmps8
  go_wp2_with fail
  (with_reducible refine (small_true _).mono ?_)
  rintro e w1 ⟨rfl, hb⟩
  have HX1 := Lib.hid (HX.out.1.below hb)
  have HY1 := Lib.hid (HX.out.2.below hb)
  obtain ⟨e0, e1, e2⟩ := HX1.out.cells
  obtain ⟨d0, d1, d2⟩ := HY1.out.cells
  have HB1 := Lib.hid (below_call HB.out hb)
  have HU1 := Lib.hid (HU.out.below HB1.out)
  have HV1 := Lib.hid (HV.out.below HB1.out)
  clear hb HX HB HU HV
  go_wp2_with fail
  (with_reducible refine (enc_no _ _ _ _ _ HU1.out HF.out).mono ?_)
  rintro e w2 ⟨g2, _, rfl, _, hb⟩
  have HY2 := Lib.hid (HY1.out.below hb)
  clear e0 e1 e2 d0 d1 d2
  obtain ⟨d0, d1, d2⟩ := HY2.out.cells
  have HB2 := Lib.hid (below_call HB1.out hb)
  have HV2 := Lib.hid (HV1.out.below hb)
  clear hb HX1 HY1 HB1 HU1 HV1
  go_wp2_with fail
  (with_reducible refine (enc_some _ _ _ _ _ HV2.out).mono ?_)
  rintro e w3 ⟨r3, e3, rfl, hb⟩
  have HB3 := Lib.hid (below_call HB2.out hb)
  clear hb d0 d1 d2
  go_wp2_with fail
  go_quiet (fail)
  go_wp2_with fail
  go_ret
  exact ⟨rfl, below_drewN HB3.out _⟩

set_option maxHeartbeats 4000000 in
set_option maxRecDepth 10000 in
theorem apart_no2 (x y : BitVec 8) (c' q' : Int) (u v : Value) (xs ys : List (BitVec 8)) (w : World) (hu : Byts w u xs) (hv : Byts w v ys) (hx : x.toNat ≤ 15) (hxl : xs.length ≤ 16) (hyl : ys.length ≤ 300) (hf : ¬ Fit c' q' ys.length) :
    Calls Tryd.prog 8 #[.agg #[.int .i64 (x.toNat : Int), .int .i64 (y.toNat : Int), u], .agg #[.int .i64 c', .int .i64 q', v]] w fun e w' => e = .returned (.bool true) ∧ Below w.heap.size w w' := by
  have q0 : decide ((300 : Int) < (xs.length : Int)) = false := decide_eq_false (by omega)
  have q1 : decide ((300 : Int) < (ys.length : Int)) = false := decide_eq_false (by omega)
  have HU := Lib.hid hu
  have HV := Lib.hid hv
  have HF := Lib.hid hf
  have HF1 := Lib.hid hx
  have HF2 := Lib.hid hxl
  obtain ⟨au, cu, rfl⟩ := hu.len
  obtain ⟨av, cv, rfl⟩ := hv.len
  clear hu hv hx hxl hyl hf
  have HB := Lib.hid (below_alloc (below_alloc (Below.refl _ w) (.cells #[.int .i64 (x.toNat : Int), .int .i64 (y.toNat : Int), .slice au xs.length cu] 24)) (.cells #[.int .i64 c', .int .i64 q', .slice av ys.length cv] 24))
  have HX := Lib.hid (two_boxes w (x.toNat : Int) (y.toNat : Int) c' q' (.slice au xs.length cu) (.slice av ys.length cv))
  go_enter Tryd.func8, Tryd.ntmps8
  go_wp2_with fail
  (with_reducible refine (small_true _).mono ?_)
  rintro e w1 ⟨rfl, hb⟩
  have HX1 := Lib.hid (HX.out.1.below hb)
  have HY1 := Lib.hid (HX.out.2.below hb)
  obtain ⟨e0, e1, e2⟩ := HX1.out.cells
  obtain ⟨d0, d1, d2⟩ := HY1.out.cells
  have HB1 := Lib.hid (below_call HB.out hb)
  have HU1 := Lib.hid (HU.out.below HB1.out)
  have HV1 := Lib.hid (HV.out.below HB1.out)
  clear hb HX HB HU HV
  go_wp2_with fail
  (with_reducible refine (enc_yes _ _ _ _ _ HU1.out HF1.out HF2.out).mono ?_)
  rintro e w2 ⟨r2, rfl, _, hb⟩
  have HY2 := Lib.hid (HY1.out.below hb)
  clear e0 e1 e2 d0 d1 d2
  obtain ⟨d0, d1, d2⟩ := HY2.out.cells
  have HB2 := Lib.hid (below_call HB1.out hb)
  have HV2 := Lib.hid (HV1.out.below hb)
  clear hb HX1 HY1 HB1 HU1 HV1
  go_wp2_with fail
  (with_reducible refine (enc_no _ _ _ _ _ HV2.out HF.out).mono ?_)
  rintro e w3 ⟨g3, _, rfl, _, hb⟩
  have HB3 := Lib.hid (below_call HB2.out hb)
  clear hb d0 d1 d2
  go_wp2_with fail
  go_quiet (fail)
  go_wp2_with fail
  go_ret
  exact ⟨rfl, below_drewN HB3.out _⟩

theorem apart_any (c q c' q' : Int) (u v : Value) (xs ys : List (BitVec 8)) (w : World) (hu : Byts w u xs) (hv : Byts w v ys) :
    Calls Tryd.prog 8 #[.agg #[.int .i64 c, .int .i64 q, u], .agg #[.int .i64 c', .int .i64 q', v]] w fun e w' => e = .returned (.bool true) ∧ Below w.heap.size w w' := by
  by_cases hl : 300 < xs.length ∨ 300 < ys.length
  · exact apart_long c q c' q' u v xs ys w hu hv hl
  · by_cases h1 : Fit c q xs.length
    · obtain ⟨x, y, rfl, rfl, hx⟩ := fit_bytes h1
      by_cases h2 : Fit c' q' ys.length
      · obtain ⟨x', y', rfl, rfl, hx'⟩ := fit_bytes h2
        exact apart_fit x y x' y' u v xs ys w hu hv hx h1.2.2.2.2 hx' h2.2.2.2.2
      · exact apart_no2 x y c' q' u v xs ys w hu hv hx h1.2.2.2.2 (by omega) h2
    · exact apart_no1 c q c' q' u v xs ys w hu hv (by omega) (by omega) h1
end Go.Proofs.YtdgehinmkbhjlaaDoor

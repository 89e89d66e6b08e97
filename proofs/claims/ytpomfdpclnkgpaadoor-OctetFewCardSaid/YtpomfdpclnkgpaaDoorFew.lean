/-
  The walk of crossbucklaw03.OctetFew: true, whatever it is given.
-/
import Derived.Test.YtpomfdpclnkgpaaDoorSmall
import Derived.Test.YtpomfdpclnkgpaaDoorSlices
namespace Go.Proofs.YtpomfdpclnkgpaaDoor
open Go.RowKit

/-- What a reader is behind a call that finds nothing left. -/
theorem took_none {T b lo L k : Nat} {w w' : World} (h : Took T b lo L [] true k w w') : Rd w' T b lo L [] true ∧ Apart b w w' := by
  obtain ⟨h1, h2⟩ := h
  rw [List.drop_nil, Bool.true_or] at h1
  exact ⟨h1, h2⟩

theorem rem_three (c : Int) : (c.tmod 3 = 0) ∨ (c.tmod 3 = 1) ∨ (c.tmod 3 = 2) ∨ ((c.tmod 3 == 0) = false ∧ (c.tmod 3 == 1) = false ∧ (c.tmod 3 == 2) = false) := by
  by_cases h0 : c.tmod 3 = 0
  · exact .inl h0
  by_cases h1 : c.tmod 3 = 1
  · exact .inr (.inl h1)
  by_cases h2 : c.tmod 3 = 2
  · exact .inr (.inr (.inl h2))
  · exact .inr (.inr (.inr ⟨by simpa using h0, by simpa using h1, by simpa using h2⟩))

set_option maxHeartbeats 4000000 in
set_option maxRecDepth 100000 in
theorem few_main (v u : Value) (xs : List (BitVec 8)) (cs : List Int) (w : World) (hv : Byts w v xs) (hu : Sl (Value.int .i64) w u cs) (hx : xs.length ≤ 300) (hn : cs.length ≤ 60) :
    Calls Tryd.prog 6 #[v, u] w fun e w' => e = .returned (.bool true) ∧ Below w.heap.size w w' := by
  obtain ⟨av, cv, ev⟩ := hv.len
  obtain ⟨au, cu, eu⟩ := hu.len
  have HS := Lib.hid (small_true w)
  have HV := Lib.hid hv
  have HU := Lib.hid hu
  clear hv hu
  subst ev eu
  go_enter Tryd.func6, Tryd.ntmps6
  go_wp2_with fail
  (with_reducible refine HS.out.mono ?_)
  rintro e w1 ⟨rfl, hb⟩
  have HB := Lib.hid hb
  have HV1 := Lib.hid (HV.out.below hb)
  clear hb HS HV
  go_wp2_with fail
  (with_reducible refine (over_any _ xs _ HV1.out (by omega)).mono ?_)
  rintro e w2 ⟨b, rfl, hr, hle, hb⟩
  have HB2 := Lib.hid (below_call HB.out hb)
  have HR2 := Lib.hid hr
  have HWB := Lib.hid (Nat.le_trans HB.out.size hle)
  clear hr hle hb HB HV1
  generalize w1.heap.size = lo at *
  go_wp2_with fail
  go_loopw [7] (fun i wr => ∃ j : Nat, j ≤ xs.length + 1 ∧ i = .int .i64 j ∧ Rd wr 56 b lo b (xs.drop j) (decide (xs.length < j)) ∧ Below w.heap.size w wr) (fun i _ => xs.length + 1 - (intOf i).toNat)
  case atStart => exact ⟨0, by omega, rfl, HR2.out, HB2.out⟩
  case round =>
    obtain ⟨j, hj, rfl, hr, hb⟩ := hrel
    have HRW := Lib.hid hr
    have HBW := Lib.hid hb
    clear hr hb
    by_cases hlt : j < xs.length + 1
    · go_wp2_with fail
      (with_reducible refine (u8_any _ b _ _ _ _ _ HRW.out).mono ?_)
      rintro e w3 ⟨rfl, hr, ha⟩
      rw [List.drop_drop, show (decide (xs.length < j) || decide ((xs.drop j).length < 1)) = decide (xs.length < j + 1) by
        rw [List.length_drop]
        by_cases h1 : xs.length < j
        · simp [h1]; omega
        · simp [h1]; omega] at hr
      have HR3 := Lib.hid hr
      have HB3 := Lib.hid (below_apart HBW.out ha HWB.out)
      clear hr ha
      go_wp2_with fail
      go_roundw
      case rel => exact ⟨j + 1, by omega, by go_num, HR3.out, HB3.out⟩
      case measure => simp [intOf]; omega
    · have HR3 := Lib.hid (show Rd wr 56 b lo b [] true by
        have := HRW.out
        rwa [List.drop_eq_nil_of_le (by omega), show decide (xs.length < j) = true by simp; omega] at this)
      clear HRW HR2 HB2
      go_wp2_with fail
      go_loopw [8] (fun i wr => ∃ j : Nat, j ≤ cs.length ∧ i = .int .i64 j ∧ Rd wr 56 b lo b [] true ∧ Below w.heap.size w wr) (fun i _ => cs.length - (intOf i).toNat)
      case atStart => exact ⟨0, by omega, rfl, HR3.out, HBW.out⟩
      case round =>
        obtain ⟨j, hj, rfl, hr, hb⟩ := hrel
        clear HR3 HBW
        have HRW := Lib.hid hr
        have HBW := Lib.hid hb
        clear hr hb
        by_cases hlt : j < cs.length
        · obtain ⟨g1, o1, c1, c, e1, hc1, hg1, hxc, h1⟩ := (HU.out.below HBW.out).at_ j hlt
          simp only [Value.slice.injEq] at e1
          obtain ⟨rfl, _, rfl⟩ := e1
          clear hxc
          rcases rem_three c with h3 | h3 | h3 | ⟨h30, h31, h32⟩
          · have q0 : (c.tmod 3 == 0) = true := by simpa using h3
            clear h3
            go_wp2_with fail
            (with_reducible refine (u8_any _ b _ _ _ _ _ HRW.out).mono ?_)
            rintro e w4 ⟨rfl, ht⟩
            obtain ⟨hr, ha⟩ := took_none ht
            have HR4 := Lib.hid hr
            have HB4 := Lib.hid (below_apart HBW.out ha HWB.out)
            clear ht hr ha
            rw [val_nil _ (by omega)]
            go_wp2_with fail
            (with_reducible refine (err_t _ b _ _ _ _ HR4.out).mono ?_)
            rintro e w5 ⟨g, hg, rfl, hcc, hb⟩
            have HR5 := Lib.hid (HR4.out.below hb)
            have HB5 := Lib.hid (below_call HB4.out hb)
            clear hg hcc hb HR4 HB4
            go_wp2_with fail
            (with_reducible refine (end_bad _ b _ _ _ _ HR5.out).mono ?_)
            rintro e w6 ⟨g6, hg, rfl, hcc, hb⟩
            have HR6 := Lib.hid (HR5.out.below hb)
            have HB6 := Lib.hid (below_call HB5.out hb)
            clear hg hcc hb HR5 HB5
            go_wp2_with fail
            (with_reducible refine (rest_any _ b _ _ _ _ _ HR6.out (by simp)).mono ?_)
            rintro e w7 ⟨r7, rfl, hown, hr, ha⟩
            obtain ⟨a7, c7, e7⟩ := hown.byts.len
            have HR7 := Lib.hid hr
            have HB7 := Lib.hid (below_apart HB6.out ha HWB.out)
            clear hown ha hr HB6 HR6
            subst e7
            go_wp2_with fail
            go_roundw
            case rel => exact ⟨j + 1, by omega, by go_num, HR7.out, HB7.out⟩
            case measure => simp [intOf]; omega
          · have q0 : (c.tmod 3 == 0) = false := by simp [h3]
            have q1 : (c.tmod 3 == 1) = true := by simpa using h3
            clear h3
            go_wp2_with fail
            (with_reducible refine (u16_any _ b _ _ _ _ _ HRW.out).mono ?_)
            rintro e w4 ⟨rfl, ht⟩
            obtain ⟨hr, ha⟩ := took_none ht
            have HR4 := Lib.hid hr
            have HB4 := Lib.hid (below_apart HBW.out ha HWB.out)
            clear ht hr ha
            rw [val_nil _ (by omega)]
            go_wp2_with fail
            (with_reducible refine (err_t _ b _ _ _ _ HR4.out).mono ?_)
            rintro e w5 ⟨g, hg, rfl, hcc, hb⟩
            have HR5 := Lib.hid (HR4.out.below hb)
            have HB5 := Lib.hid (below_call HB4.out hb)
            clear hg hcc hb HR4 HB4
            go_wp2_with fail
            (with_reducible refine (end_bad _ b _ _ _ _ HR5.out).mono ?_)
            rintro e w6 ⟨g6, hg, rfl, hcc, hb⟩
            have HR6 := Lib.hid (HR5.out.below hb)
            have HB6 := Lib.hid (below_call HB5.out hb)
            clear hg hcc hb HR5 HB5
            go_wp2_with fail
            (with_reducible refine (rest_any _ b _ _ _ _ _ HR6.out (by simp)).mono ?_)
            rintro e w7 ⟨r7, rfl, hown, hr, ha⟩
            obtain ⟨a7, c7, e7⟩ := hown.byts.len
            have HR7 := Lib.hid hr
            have HB7 := Lib.hid (below_apart HB6.out ha HWB.out)
            clear hown ha hr HB6 HR6
            subst e7
            go_wp2_with fail
            go_roundw
            case rel => exact ⟨j + 1, by omega, by go_num, HR7.out, HB7.out⟩
            case measure => simp [intOf]; omega
          · have q0 : (c.tmod 3 == 0) = false := by simp [h3]
            have q1 : (c.tmod 3 == 1) = false := by simp [h3]
            have q2 : (c.tmod 3 == 2) = true := by simpa using h3
            clear h3
            go_wp2_with fail
            (with_reducible refine (u32_any _ b _ _ _ _ _ HRW.out).mono ?_)
            rintro e w4 ⟨rfl, ht⟩
            obtain ⟨hr, ha⟩ := took_none ht
            have HR4 := Lib.hid hr
            have HB4 := Lib.hid (below_apart HBW.out ha HWB.out)
            clear ht hr ha
            rw [val_nil _ (by omega)]
            go_wp2_with fail
            (with_reducible refine (err_t _ b _ _ _ _ HR4.out).mono ?_)
            rintro e w5 ⟨g, hg, rfl, hcc, hb⟩
            have HR5 := Lib.hid (HR4.out.below hb)
            have HB5 := Lib.hid (below_call HB4.out hb)
            clear hg hcc hb HR4 HB4
            go_wp2_with fail
            (with_reducible refine (end_bad _ b _ _ _ _ HR5.out).mono ?_)
            rintro e w6 ⟨g6, hg, rfl, hcc, hb⟩
            have HR6 := Lib.hid (HR5.out.below hb)
            have HB6 := Lib.hid (below_call HB5.out hb)
            clear hg hcc hb HR5 HB5
            go_wp2_with fail
            (with_reducible refine (rest_any _ b _ _ _ _ _ HR6.out (by simp)).mono ?_)
            rintro e w7 ⟨r7, rfl, hown, hr, ha⟩
            obtain ⟨a7, c7, e7⟩ := hown.byts.len
            have HR7 := Lib.hid hr
            have HB7 := Lib.hid (below_apart HB6.out ha HWB.out)
            clear hown ha hr HB6 HR6
            subst e7
            go_wp2_with fail
            go_roundw
            case rel => exact ⟨j + 1, by omega, by go_num, HR7.out, HB7.out⟩
            case measure => simp [intOf]; omega
          · have HR4 := Lib.hid HRW.out
            have HB4 := Lib.hid HBW.out
            go_wp2_with fail
            (with_reducible refine (err_t _ b _ _ _ _ HR4.out).mono ?_)
            rintro e w5 ⟨g, hg, rfl, hcc, hb⟩
            have HR5 := Lib.hid (HR4.out.below hb)
            have HB5 := Lib.hid (below_call HB4.out hb)
            clear hg hcc hb HR4 HB4
            go_wp2_with fail
            (with_reducible refine (end_bad _ b _ _ _ _ HR5.out).mono ?_)
            rintro e w6 ⟨g6, hg, rfl, hcc, hb⟩
            have HR6 := Lib.hid (HR5.out.below hb)
            have HB6 := Lib.hid (below_call HB5.out hb)
            clear hg hcc hb HR5 HB5
            go_wp2_with fail
            (with_reducible refine (rest_any _ b _ _ _ _ _ HR6.out (by simp)).mono ?_)
            rintro e w7 ⟨r7, rfl, hown, hr, ha⟩
            obtain ⟨a7, c7, e7⟩ := hown.byts.len
            have HR7 := Lib.hid hr
            have HB7 := Lib.hid (below_apart HB6.out ha HWB.out)
            clear hown ha hr HB6 HR6
            subst e7
            go_wp2_with fail
            go_roundw
            case rel => exact ⟨j + 1, by omega, by go_num, HR7.out, HB7.out⟩
            case measure => simp [intOf]; omega
        · go_wp2_with fail
          (with_reducible refine (err_t _ b _ _ _ _ HRW.out).mono ?_)
          rintro e w3 ⟨g, hg, rfl, hcc, hb⟩
          have HC3 := Lib.hid hcc
          have HB3 := Lib.hid (below_call HBW.out hb)
          clear hg hcc hb
          go_wp2_with fail
          (with_reducible refine (code_place g 2 _ HC3.out).mono ?_)
          rintro e w4 ⟨rfl, rfl⟩
          go_wp2_with fail
          go_ret
          exact ⟨rfl, HB3.out⟩

set_option maxRecDepth 100000 in
theorem few_any (v u : Value) (xs : List (BitVec 8)) (cs : List Int) (w : World) (hv : Byts w v xs) (hu : Sl (Value.int .i64) w u cs) (hx : xs.length ≤ 140737488351232) (hm : cs.length ≤ maxLen) :
    Calls Tryd.prog 6 #[v, u] w fun e w' => e = .returned (.bool true) ∧ Below w.heap.size w w' := by
  by_cases hmain : xs.length ≤ 300 ∧ cs.length ≤ 60
  · exact few_main v u xs cs w hv hu hmain.1 hmain.2
  · obtain ⟨av, cv, ev⟩ := hv.len
    obtain ⟨au, cu, eu⟩ := hu.len
    have HS := Lib.hid (small_true w)
    have HV := Lib.hid hv
    have HX := Lib.hid hx
    clear hv hu hx
    subst ev eu
    unfold maxLen at hm
    have hc : 300 < xs.length ∨ (xs.length ≤ 300 ∧ 60 < cs.length) := by omega
    clear hmain
    rcases hc with hc | ⟨hc, hd⟩
    all_goals
      go_enter Tryd.func6, Tryd.ntmps6
      go_wp2_with fail
      (with_reducible refine HS.out.mono ?_)
      rintro e w1 ⟨rfl, hb⟩
      have HB := Lib.hid hb
      have HV1 := Lib.hid (HV.out.below hb)
      clear hb
      go_wp2_with fail
      (with_reducible refine (over_any _ xs _ HV1.out (by have := HX.out; omega)).mono ?_)
      rintro e w2 ⟨b, rfl, hr, hle, hb⟩
      have HB2 := Lib.hid (below_call HB.out hb)
      clear hr hle hb
      go_wp2_with fail
      go_ret
      exact ⟨rfl, HB2.out⟩
end Go.Proofs.YtpomfdpclnkgpaaDoor

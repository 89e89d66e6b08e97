/-
  The walk of crossbucklaw03.OctetEnds: true, whatever it is given.
-/
import Derived.Test.YtpomfdpclnkgpaaDoorSmall
namespace Go.Proofs.YtpomfdpclnkgpaaDoor
open Go.RowKit

set_option maxHeartbeats 2000000 in
set_option maxRecDepth 100000 in
theorem ends_main (n m : Nat) (hn : n ≤ 300) (hm : m ≤ 400) (w : World) :
    Calls Tryd.prog 8 #[.int .i64 (n : Int), .int .i64 (m : Int)] w fun e w' => e = .returned (.bool true) ∧ Below w.heap.size w w' := by
  obtain ⟨M, hM, hM0, hmk⟩ := run_make_u8 n (by omega) n (by omega)
  have HS := Lib.hid (small_true w)
  have HM0 := Lib.hid hM0
  clear hM hM0
  go_enter Tryd.func8, Tryd.ntmps8
  go_wp2_with fail
  (with_reducible refine HS.out.mono ?_)
  rintro e w1 ⟨rfl, hb⟩
  have HB := Lib.hid hb
  have HL := Lib.hid (made_byts w1 M n HM0.out)
  have HZ := Lib.hid (show (List.replicate n 0#8).length = n by simp)
  clear hb HS
  generalize List.replicate n 0#8 = zs at *
  go_wp2_with fail
  (with_reducible refine (over_any _ zs _ HL.out (by rw [HZ.out]; omega)).mono ?_)
  rintro e w2 ⟨b, rfl, hr, hle, hb⟩
  have HB2 := Lib.hid (below_call (below_alloc HB.out _) hb)
  have HR2 := Lib.hid hr
  have HWB := Lib.hid (Nat.le_trans (below_alloc HB.out (.cells M 5)).size hle)
  clear hr hle hb HL HB hmk
  generalize (w1.alloc (.cells M 5)).heap.size = lo at *
  go_wp2_with fail
  go_loopw [7] (fun i wr => ∃ j : Nat, j ≤ m ∧ i = .int .i64 j ∧ Rd wr 56 b lo b (zs.drop j) (decide (n < j)) ∧ Below w.heap.size w wr) (fun i _ => m - (intOf i).toNat)
  case atStart => exact ⟨0, by omega, rfl, HR2.out, HB2.out⟩
  case round =>
    obtain ⟨j, hj, rfl, hr, hb⟩ := hrel
    have HRW := Lib.hid hr
    have HBW := Lib.hid hb
    clear hr hb
    by_cases hlt : j < m
    · go_wp2_with fail
      (with_reducible refine (u8_any _ b _ _ _ _ _ HRW.out).mono ?_)
      rintro e w3 ⟨rfl, hr, ha⟩
      rw [List.drop_drop, show (decide (n < j) || decide ((zs.drop j).length < 1)) = decide (n < j + 1) by
        rw [List.length_drop, HZ.out]
        by_cases h1 : n < j
        · simp [h1]; omega
        · simp [h1]; omega] at hr
      have HR3 := Lib.hid hr
      have HB3 := Lib.hid (below_apart HBW.out ha HWB.out)
      clear hr ha
      go_wp2_with fail
      go_roundw
      case rel => exact ⟨j + 1, by omega, by go_num, HR3.out, HB3.out⟩
      case measure => simp [intOf]; omega
    · obtain rfl : j = m := by omega
      have hc : j < n ∨ j = n ∨ n < j := by omega
      rcases hc with hc | hc | hc
      · have HL := Lib.hid (show 0 < (zs.drop j).length by rw [List.length_drop, HZ.out]; omega)
        have HRW2 := Lib.hid (show Rd wr 56 b lo b (zs.drop j) false by have := HRW.out; rwa [show decide (n < j) = false by simp; omega] at this)
        have q1 : ((n : Int) == (j : Int)) = false := by simp; omega
        have q2 : decide ((j : Int) ≤ (n : Int)) = true := by simp; omega
        clear HRW
        go_wp2_with fail
        (with_reducible refine (end_left _ b _ _ _ _ HRW2.out HL.out).mono ?_)
        rintro e w3 ⟨g, hg, rfl, hcc, hb⟩
        have HR3 := Lib.hid (HRW2.out.below hb)
        have HB3 := Lib.hid (below_call HBW.out hb)
        clear hg hcc hb
        go_wp2_with fail
        (with_reducible refine (err_f _ b _ _ _ _ HR3.out).mono ?_)
        rintro e w4 ⟨rfl, rfl⟩
        go_wp2_with fail
        go_ret
        exact ⟨by simp; omega, HB3.out⟩
      · subst hc
        have HRW2 := Lib.hid (show Rd wr 56 b lo b [] false by have := HRW.out; rwa [show decide (j < j) = false by simp, List.drop_eq_nil_of_le (by rw [HZ.out]; omega)] at this)
        have q1 : ((j : Int) == (j : Int)) = true := by simp
        clear HRW
        go_wp2_with fail
        (with_reducible refine (end_nil _ b _ _ _ HRW2.out).mono ?_)
        rintro e w3 ⟨rfl, rfl⟩
        go_wp2_with fail
        (with_reducible refine (err_f _ b _ _ _ _ HRW2.out).mono ?_)
        rintro e w4 ⟨rfl, rfl⟩
        go_wp2_with fail
        go_ret
        exact ⟨by simp, HBW.out⟩
      · have HRW2 := Lib.hid (show Rd wr 56 b lo b (zs.drop j) true by have := HRW.out; rwa [show decide (n < j) = true by simp; omega] at this)
        have q1 : ((n : Int) == (j : Int)) = false := by simp; omega
        have q2 : decide ((j : Int) ≤ (n : Int)) = false := by simp; omega
        clear HRW
        go_wp2_with fail
        (with_reducible refine (end_bad _ b _ _ _ _ HRW2.out).mono ?_)
        rintro e w3 ⟨g, hg, rfl, hcc, hb⟩
        have HR3 := Lib.hid (HRW2.out.below hb)
        have HB3 := Lib.hid (below_call HBW.out hb)
        clear hg hcc hb
        go_wp2_with fail
        (with_reducible refine (err_t _ b _ _ _ _ HR3.out).mono ?_)
        rintro e w4 ⟨g4, hg, rfl, hcc, hb⟩
        have HB4 := Lib.hid (below_call HB3.out hb)
        clear hg hcc hb
        go_wp2_with fail
        go_ret
        exact ⟨by simp; omega, HB4.out⟩

theorem ends_any (n m : Int) (w : World) :
    Calls Tryd.prog 8 #[.int .i64 n, .int .i64 m] w fun e w' => e = .returned (.bool true) ∧ Below w.heap.size w w' := by
  by_cases hmain : 0 ≤ n ∧ n ≤ 300 ∧ 0 ≤ m ∧ m ≤ 400
  · obtain ⟨h1, h2, h3, h4⟩ := hmain
    obtain ⟨n', rfl⟩ : ∃ k : Nat, n = (k : Int) := ⟨n.toNat, by omega⟩
    obtain ⟨m', rfl⟩ : ∃ k : Nat, m = (k : Int) := ⟨m.toNat, by omega⟩
    exact ends_main n' m' (by omega) (by omega) w
  · have HS := Lib.hid (small_true w)
    have hc : n < 0 ∨ (0 ≤ n ∧ 300 < n) ∨ (0 ≤ n ∧ n ≤ 300 ∧ m < 0) ∨ (0 ≤ n ∧ n ≤ 300 ∧ 0 ≤ m ∧ 400 < m) := by omega
    clear hmain
    rcases hc with hc | ⟨hc, hd⟩ | ⟨hc, hd, he⟩ | ⟨hc, hd, he, hf⟩
    all_goals
      go_enter Tryd.func8, Tryd.ntmps8
      go_wp2_with fail
      (with_reducible refine HS.out.mono ?_)
      rintro e w1 ⟨rfl, hb⟩
      go_wp2_with fail
      go_ret
      exact ⟨rfl, hb⟩
end Go.Proofs.YtpomfdpclnkgpaaDoor

/-
  WheelFires, walked.
-/
import Derived.Test.YtaonnkocopngaaaDoorMine
namespace Go.Proofs.YtaonnkocopngaaaDoor
open Go.RowKit

set_option maxHeartbeats 2000000 in
theorem fires_out (ahead n tag : Int) (w : World) (hbad : ahead < 0 ∨ 100000 < ahead ∨ n < 1 ∨ 300000 < n) :
    Calls Tryd.prog 4 #[.int .i64 ahead, .int .i64 n, .int .i64 tag] w fun e w' => e = .returned (.bool true) ∧ Below w.heap.size w w' := by
  have HB0 := Lib.hid hbad
  clear hbad
  go_enter Tryd.func4, Tryd.ntmps4
  go_wp2_with fail
  (with_reducible refine (small_true w).mono ?_)
  rintro e w1 ⟨rfl, hb⟩
  have HB := Lib.hid hb
  clear hb
  go_wp2_with fail
  (with_reducible refine (mine_new 3 3 (by decide) HB.out).mono ?_)
  rintro e w2 ⟨b, rfl, hm⟩
  have HM := Lib.hid hm
  clear hm
  by_cases c1 : ahead < 0
  · have q1 : decide (ahead < 0) = true := decide_eq_true c1
    go_wp2_with fail
    go_ret
    exact ⟨rfl, HM.out.below⟩
  · have q1 : decide (ahead < 0) = false := decide_eq_false c1
    by_cases c2 : 100000 < ahead
    · have q2 : decide (100000 < ahead) = true := decide_eq_true c2
      go_wp2_with fail
      go_ret
      exact ⟨rfl, HM.out.below⟩
    · have q2 : decide (100000 < ahead) = false := decide_eq_false c2
      by_cases c3 : n < 1
      · have q3 : decide (n < 1) = true := decide_eq_true c3
        go_wp2_with fail
        go_ret
        exact ⟨rfl, HM.out.below⟩
      · have q3 : decide (n < 1) = false := decide_eq_false c3
        have q4 : decide (300000 < n) = true := by have := HB0.out; simp; omega
        go_wp2_with fail
        go_ret
        exact ⟨rfl, HM.out.below⟩

set_option maxHeartbeats 2000000 in
theorem fires_in (a n : Nat) (tag : Int) (w : World) (ha : a ≤ 100000) (hn1 : 1 ≤ n) (hn2 : n ≤ 300000) :
    Calls Tryd.prog 4 #[.int .i64 (a : Int), .int .i64 (n : Int), .int .i64 tag] w fun e w' => e = .returned (.bool true) ∧ Below w.heap.size w w' := by
  have q1 : decide ((a : Int) < 0) = false := by simp
  have q2 : decide (100000 < (a : Int)) = false := by simp; omega
  have q3 : decide ((n : Int) < 1) = false := by simp; omega
  have q4 : decide (300000 < (n : Int)) = false := by simp; omega
  go_enter Tryd.func4, Tryd.ntmps4
  go_wp2_with fail
  (with_reducible refine (small_true w).mono ?_)
  rintro e w1 ⟨rfl, hb⟩
  have HB := Lib.hid hb
  clear hb
  go_wp2_with fail
  (with_reducible refine (mine_new 3 3 (by decide) HB.out).mono ?_)
  rintro e w2 ⟨b, rfl, hm⟩
  have HM := Lib.hid hm
  clear hm HB
  go_wp2_with fail
  clear q1 q2 q3 q4
  go_loopw [9] (fun i wr => ∃ (j : Nat), j ≤ a ∧ i = .int .i64 (j : Int) ∧ Hid (Mine w wr b 3 j [])) (fun i _ => a - (intOf i).toNat)
  case atStart => exact ⟨0, by omega, rfl, HM⟩
  case round =>
    obtain ⟨j, hj, rfl, HJ⟩ := hrel
    clear HM
    by_cases hlt : j < a
    · go_wp2_with fail
      (with_reducible refine (mine_tick HJ.out (by omega)).mono ?_)
      rintro e w3 ⟨v, rfl, ho, hm⟩
      obtain ⟨a3, c3, rfl⟩ := Own.len ho
      have HM := Lib.hid (show Mine w w3 b 3 (j + 1) [] from hm)
      clear ho hm
      go_wp2_with fail
      go_roundw
      case rel => exact ⟨j + 1, by omega, by go_num, HM⟩
      case measure => simp [intOf]; omega
    · obtain rfl : j = a := by omega
      go_wp2_with fail
      (with_reducible refine (mine_arm HJ.out (by omega) 0 n (least_nil 3 (by decide)) n tag rfl hn1 (by omega)).mono ?_)
      rintro e w3 ⟨rfl, hm⟩
      have HM := Lib.hid (show Mine w w3 b 3 j [⟨0, tag, j + n⟩] from hm)
      clear hm HJ
      go_wp2_with fail
      go_loopw [12] (fun i wr => ∃ (k : Nat), k + 1 ≤ n ∧ i = .int .i64 ((k : Int) + 1) ∧ Hid (Mine w wr b 3 (j + k) [⟨0, tag, j + n⟩])) (fun i _ => n - (intOf i).toNat)
      case atStart => exact ⟨0, by omega, rfl, HM⟩
      case round =>
        obtain ⟨k, hk, rfl, HK⟩ := hrel
        clear HM
        by_cases hlt2 : k + 1 < n
        · have hlt3 : (k : Int) + 1 < (n : Int) := by omega
          go_wp2_with fail
          (with_reducible refine (mine_left HK.out (by omega) ⟨0, tag, j + n⟩ (by simp) 0 rfl ((n : Int) - ((k : Int) + 1) + 1) (by show _ = ((j + n - (j + k) : Nat) : Int); omega)).mono ?_)
          rintro e w4 ⟨rfl, hm⟩
          have HM := Lib.hid hm
          clear hm HK
          go_wp2_with fail
          (with_reducible refine (mine_tick HM.out (by omega)).mono ?_)
          rintro e w5 ⟨v, rfl, ho, hm⟩
          have hne : (j + n == j + k + 1) = false := by simp; omega
          rw [show ([⟨0, tag, j + n⟩] : List Tm).filter (fun a => a.due == j + k + 1) = [] by simp [hne]] at ho
          rw [show ([⟨0, tag, j + n⟩] : List Tm).filter (fun a => a.due != j + k + 1) = [⟨0, tag, j + n⟩] by simp [bne, hne]] at hm
          obtain ⟨a3, c3, rfl⟩ := Own.len ho
          have HK := Lib.hid hm
          clear ho hm HM hne
          rw [show (List.map Tm.tag []).length = 0 from rfl]
          go_wp2_with fail
          go_roundw
          case rel => exact ⟨k + 1, by omega, by go_num, HK⟩
          case measure => simp [intOf]; omega
        · obtain rfl : n = k + 1 := by omega
          clear hn1 hk hlt2
          go_wp2_with fail
          (with_reducible refine (mine_left HK.out (by omega) ⟨0, tag, j + (k + 1)⟩ (by simp) 0 rfl 1 (by show _ = ((j + (k + 1) - (j + k) : Nat) : Int); omega)).mono ?_)
          rintro e w4 ⟨rfl, hm⟩
          have HM := Lib.hid hm
          clear hm HK
          go_wp2_with fail
          (with_reducible refine (mine_tick HM.out (by omega)).mono ?_)
          rintro e w5 ⟨v, rfl, ho, hm⟩
          have hne : (j + (k + 1) == j + k + 1) = true := by simp; omega
          rw [show ([⟨0, tag, j + (k + 1)⟩] : List Tm).filter (fun a => a.due == j + k + 1) = [⟨0, tag, j + (k + 1)⟩] by simp [hne]] at ho
          rw [show ([⟨0, tag, j + (k + 1)⟩] : List Tm).filter (fun a => a.due != j + k + 1) = [] by simp [bne, hne]] at hm
          have HO := Lib.hid ho
          have HK := Lib.hid hm
          clear ho hm HM hne
          go_wp2_with fail
          have hb5 := below_alloc (Below.refl w5.heap.size w5) (.cells #[.int .i64 tag] 3)
          have HS := Lib.hid (same_any (w := w5.alloc (.cells #[.int .i64 tag] 3)) v _ [tag] [tag] (HO.out.keep (Keep.of_below (F := fun _ => False) hb5) (fun _ _ h => h)) (own_one w5 tag) (by simp) true (by simp))
          have HM := Lib.hid (HK.out.still hb5)
          clear hb5 HK HO
          go_wp2_with fail
          (with_reducible refine HS.out.mono ?_)
          rintro e w6 ⟨rfl, m, rfl⟩
          have HK := Lib.hid (HM.out.drew m)
          clear HM HS
          go_wp2_with fail
          (with_reducible refine (mine_left0 HK.out 0 (by simp)).mono ?_)
          rintro e w7 ⟨rfl, rfl⟩
          go_wp2_with fail
          (with_reducible refine (mine_tick HK.out (by omega)).mono ?_)
          rintro e w8 ⟨v8, rfl, ho, hm⟩
          obtain ⟨a8, c8, rfl⟩ := Own.len ho
          have HM := Lib.hid hm.below
          clear ho hm HK
          go_wp2_with fail
          go_ret
          exact ⟨rfl, HM.out⟩
theorem fires_any (ahead n tag : Int) (w : World) :
    Calls Tryd.prog 4 #[.int .i64 ahead, .int .i64 n, .int .i64 tag] w fun e w' => e = .returned (.bool true) ∧ Below w.heap.size w w' := by
  by_cases h : ahead < 0 ∨ 100000 < ahead ∨ n < 1 ∨ 300000 < n
  · exact fires_out ahead n tag w h
  · obtain ⟨a, rfl⟩ : ∃ a : Nat, ahead = (a : Int) := ⟨ahead.toNat, by omega⟩
    obtain ⟨k, rfl⟩ : ∃ k : Nat, n = (k : Int) := ⟨n.toNat, by omega⟩
    exact fires_in a k tag w (by omega) (by omega) (by omega)
end Go.Proofs.YtaonnkocopngaaaDoor

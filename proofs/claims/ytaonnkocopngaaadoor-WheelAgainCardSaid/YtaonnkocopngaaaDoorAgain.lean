/-
  WheelAgain, walked.
-/
import Derived.Test.YtaonnkocopngaaaDoorMine
namespace Go.Proofs.YtaonnkocopngaaaDoor
open Go.RowKit

set_option maxHeartbeats 2000000 in
theorem again_out (n k : Int) (w : World) (hbad : n < 1 ∨ 5000 < n ∨ k < 0 ∨ 8 < k) :
    Calls Tryd.prog 8 #[.int .i64 n, .int .i64 k] w fun e w' => e = .returned (.bool true) ∧ Below w.heap.size w w' := by
  have HB0 := Lib.hid hbad
  clear hbad
  go_enter Tryd.func8, Tryd.ntmps8
  go_wp2_with fail
  (with_reducible refine (small_true w).mono ?_)
  rintro e w1 ⟨rfl, hb⟩
  have HB := Lib.hid hb
  clear hb
  go_wp2_with fail
  (with_reducible refine (mine_new 1 1 (by decide) HB.out).mono ?_)
  rintro e w2 ⟨b, rfl, hm⟩
  have HM := Lib.hid hm
  clear hm
  by_cases c0 : n < 1
  · have q0 : decide (n < 1) = true := decide_eq_true c0
    go_wp2_with fail
    go_ret
    exact ⟨rfl, HM.out.below⟩
  · have q0 : decide (n < 1) = false := decide_eq_false c0
    by_cases c1 : 5000 < n
    · have q1 : decide (5000 < n) = true := decide_eq_true c1
      go_wp2_with fail
      go_ret
      exact ⟨rfl, HM.out.below⟩
    · have q1 : decide (5000 < n) = false := decide_eq_false c1
      by_cases c2 : k < 0
      · have q2 : decide (k < 0) = true := decide_eq_true c2
        go_wp2_with fail
        go_ret
        exact ⟨rfl, HM.out.below⟩
      · have q2 : decide (k < 0) = false := decide_eq_false c2
        have q3 : decide (8 < k) = true := by have := HB0.out; simp; omega
        go_wp2_with fail
        go_ret
        exact ⟨rfl, HM.out.below⟩

theorem due_one (c s n : Nat) (tg : Int) (h : s + 1 ≠ n) : ([⟨0, tg, c + n⟩] : List Tm).filter (fun a => a.due == c + s + 1) = [] ∧ ([⟨0, tg, c + n⟩] : List Tm).filter (fun a => a.due != c + s + 1) = [⟨0, tg, c + n⟩] := by
  have hne : (c + n == c + s + 1) = false := by simp; omega
  exact ⟨by simp [hne], by simp [bne, hne]⟩
theorem due_now (c s n : Nat) (tg : Int) (h : s + 1 = n) : ([⟨0, tg, c + n⟩] : List Tm).filter (fun a => a.due == c + s + 1) = [⟨0, tg, c + n⟩] ∧ ([⟨0, tg, c + n⟩] : List Tm).filter (fun a => a.due != c + s + 1) = [] := by
  have hne : (c + n == c + s + 1) = true := by simp; omega
  exact ⟨by simp [hne], by simp [bne, hne]⟩

set_option maxHeartbeats 4000000 in
theorem again_in (n k : Nat) (w : World) (hn1 : 1 ≤ n) (hn2 : n ≤ 5000) (hk : k ≤ 8) :
    Calls Tryd.prog 8 #[.int .i64 (n : Int), .int .i64 (k : Int)] w fun e w' => e = .returned (.bool true) ∧ Below w.heap.size w w' := by
  have q1 : decide ((n : Int) < 1) = false := by simp; omega
  have q2 : decide (5000 < (n : Int)) = false := by simp; omega
  have q3 : decide ((k : Int) < 0) = false := by simp
  have q4 : decide (8 < (k : Int)) = false := by simp; omega
  go_enter Tryd.func8, Tryd.ntmps8
  go_wp2_with fail
  (with_reducible refine (small_true w).mono ?_)
  rintro e w1 ⟨rfl, hb⟩
  have HB := Lib.hid hb
  clear hb
  go_wp2_with fail
  (with_reducible refine (mine_new 1 1 (by decide) HB.out).mono ?_)
  rintro e w2 ⟨b, rfl, hm⟩
  have HM := Lib.hid hm
  clear hm HB
  go_wp2_with fail
  clear q1 q2 q3 q4
  go_loopw [7] (fun i wr => ∃ (j c : Nat), j ≤ k ∧ c ≤ 5000 * j ∧ i = .int .i64 (j : Int) ∧ Hid (Mine w wr b 1 c [])) (fun i _ => k - (intOf i).toNat)
  case atStart => exact ⟨0, 0, by omega, by omega, rfl, HM⟩
  case round =>
    obtain ⟨j, c, hj, hc, rfl, HJ⟩ := hrel
    clear HM
    by_cases hlt : j < k
    · go_wp2_with fail
      (with_reducible refine (mine_arm HJ.out (by omega) 0 n (least_nil 1 (by decide)) n (j : Int) rfl hn1 (by omega)).mono ?_)
      rintro e w3 ⟨rfl, hm⟩
      have HM := Lib.hid (show Mine w w3 b 1 c [⟨0, (j : Int), c + n⟩] from hm)
      clear hm HJ
      go_wp2_with fail
      go_loopw [10] (fun u10 wr => ∃ (s : Nat), s ≤ n ∧ u10 = .int .i64 ((s : Int) + 1) ∧ Hid (Mine w wr b 1 (c + s) (if s < n then [⟨0, (j : Int), c + n⟩] else []))) (fun u10 _ => n + 1 - (intOf u10).toNat)
      case atStart => exact ⟨0, by omega, rfl, Lib.hid (by rw [if_pos (by omega)]; exact HM.out)⟩
      case round =>
        obtain ⟨s, hs, rfl, HK⟩ := hrel
        clear HM
        by_cases hl2 : s < n
        · rw [if_pos hl2] at HK
          have hle : (s : Int) + 1 ≤ (n : Int) := by omega
          by_cases hl3 : s + 1 = n
          · have qn : (((s : Int) + 1) == (n : Int)) = true := by simp; omega
            go_wp2_with fail
            (with_reducible refine (mine_tick HK.out (by omega)).mono ?_)
            rintro e w4 ⟨v, rfl, ho, hm⟩
            obtain ⟨e1, e2⟩ := due_now c s n (j : Int) hl3
            rw [e1] at ho
            rw [e2] at hm
            obtain ⟨g, cap, rfl, _, hcell, _⟩ := Own.at_ ho 0 (j : Int) rfl
            have HM := Lib.hid hm
            clear ho hm HK e1 e2
            rw [show (List.map Tm.tag [⟨0, (j : Int), c + n⟩]).length = 1 from rfl]
            go_wp2_with fail
            go_roundw
            case rel => exact ⟨s + 1, by omega, by go_num, Lib.hid (by rw [if_neg (by omega)]; exact HM.out)⟩
            case measure => simp [intOf]; omega
          · have qn : (((s : Int) + 1) == (n : Int)) = false := by simp; omega
            go_wp2_with fail
            (with_reducible refine (mine_tick HK.out (by omega)).mono ?_)
            rintro e w4 ⟨v, rfl, ho, hm⟩
            obtain ⟨e1, e2⟩ := due_one c s n (j : Int) hl3
            rw [e1] at ho
            rw [e2] at hm
            obtain ⟨a3, c3, rfl⟩ := Own.len ho
            have HM := Lib.hid hm
            clear ho hm HK e1 e2
            rw [show (List.map Tm.tag []).length = 0 from rfl]
            go_wp2_with fail
            go_roundw
            case rel => exact ⟨s + 1, by omega, by go_num, Lib.hid (by rw [if_pos (by omega)]; exact HM.out)⟩
            case measure => simp [intOf]; omega
        · rw [if_neg hl2] at HK
          obtain rfl : s = n := by omega
          have hle : decide ((s : Int) + 1 ≤ (s : Int)) = false := by simp; omega
          go_wp2_with fail
          go_roundw
          case rel => exact ⟨j + 1, c + s, by omega, by omega, by go_num, HK⟩
          case measure => simp [intOf]; omega
    · obtain rfl : j = k := by omega
      go_wp2_with fail
      (with_reducible refine (mine_free HJ.out 1 rfl).mono ?_)
      rintro e w3 ⟨rfl, hm⟩
      have HM := Lib.hid hm.below
      clear hm
      go_wp2_with fail
      go_ret
      exact ⟨rfl, HM.out⟩
theorem again_any (n k : Int) (w : World) :
    Calls Tryd.prog 8 #[.int .i64 n, .int .i64 k] w fun e w' => e = .returned (.bool true) ∧ Below w.heap.size w w' := by
  by_cases h : n < 1 ∨ 5000 < n ∨ k < 0 ∨ 8 < k
  · exact again_out n k w h
  · obtain ⟨a, rfl⟩ : ∃ a : Nat, n = (a : Int) := ⟨n.toNat, by omega⟩
    obtain ⟨b, rfl⟩ : ∃ b : Nat, k = (b : Int) := ⟨k.toNat, by omega⟩
    exact again_in a b w (by omega) (by omega) (by omega)
end Go.Proofs.YtaonnkocopngaaaDoor

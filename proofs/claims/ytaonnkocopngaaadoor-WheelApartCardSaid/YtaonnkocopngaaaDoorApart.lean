/-
  WheelApart, walked.
-/
import Derived.Test.YtaonnkocopngaaaDoorMine
namespace Go.Proofs.YtaonnkocopngaaaDoor
open Go.RowKit

set_option maxHeartbeats 2000000 in
theorem apart_out (n m cut : Int) (w : World) (hbad : n < 1 ∨ 20000 < n ∨ m < 1 ∨ 20000 < m ∨ cut < 0 ∨ n ≤ cut) :
    Calls Tryd.prog 7 #[.int .i64 n, .int .i64 m, .int .i64 cut] w fun e w' => e = .returned (.bool true) ∧ Below w.heap.size w w' := by
  have HB0 := Lib.hid hbad
  clear hbad
  go_enter Tryd.func7, Tryd.ntmps7
  go_wp2_with fail
  (with_reducible refine (small_true w).mono ?_)
  rintro e w1 ⟨rfl, hb⟩
  have HB := Lib.hid hb
  clear hb
  go_wp2_with fail
  (with_reducible refine (mine_new 2 2 (by decide) HB.out).mono ?_)
  rintro e w2 ⟨b, rfl, hm⟩
  have HM := Lib.hid hm
  clear hm
  by_cases c0 : n < 1
  · have q0 : decide (n < 1) = true := decide_eq_true c0
    go_wp2_with fail
    go_ret
    exact ⟨rfl, HM.out.below⟩
  · have q0 : decide (n < 1) = false := decide_eq_false c0
    by_cases c1 : 20000 < n
    · have q1 : decide (20000 < n) = true := decide_eq_true c1
      go_wp2_with fail
      go_ret
      exact ⟨rfl, HM.out.below⟩
    · have q1 : decide (20000 < n) = false := decide_eq_false c1
      by_cases c2 : m < 1
      · have q2 : decide (m < 1) = true := decide_eq_true c2
        go_wp2_with fail
        go_ret
        exact ⟨rfl, HM.out.below⟩
      · have q2 : decide (m < 1) = false := decide_eq_false c2
        by_cases c3 : 20000 < m
        · have q3 : decide (20000 < m) = true := decide_eq_true c3
          go_wp2_with fail
          go_ret
          exact ⟨rfl, HM.out.below⟩
        · have q3 : decide (20000 < m) = false := decide_eq_false c3
          by_cases c4 : cut < 0
          · have q4 : decide (cut < 0) = true := decide_eq_true c4
            go_wp2_with fail
            go_ret
            exact ⟨rfl, HM.out.below⟩
          · have q4 : decide (cut < 0) = false := decide_eq_false c4
            have q5 : decide (n ≤ cut) = true := by have := HB0.out; simp; omega
            go_wp2_with fail
            go_ret
            exact ⟨rfl, HM.out.below⟩

/-- The timers that are armed behind s ticks (p: the first one is). -/
def Two (p q : Bool) (n m : Nat) : List Tm := (if p then [⟨0, 1, n⟩] else []) ++ (if q then [⟨1, 2, m⟩] else [])
theorem two_fire (p q : Bool) (n m s : Nat) (h : p = true → n ≠ s + 1) : (Two p q n m).filter (fun a => a.due == s + 1) = if q && decide (m = s + 1) then [⟨1, 2, m⟩] else [] := by
  have e1 : p = true → (n == s + 1) = false := fun hp => by have := h hp; simp; omega
  by_cases e2 : m = s + 1
  · cases p <;> cases q <;> simp_all [Two]
  · have e3 : (m == s + 1) = false := by simp; omega
    cases p <;> cases q <;> simp_all [Two]
theorem two_rest (p q : Bool) (n m s : Nat) (h : p = true → n ≠ s + 1) : (Two p q n m).filter (fun a => a.due != s + 1) = Two p (q && !decide (m = s + 1)) n m := by
  have e1 : p = true → (n == s + 1) = false := fun hp => by have := h hp; simp; omega
  by_cases e2 : m = s + 1
  · cases p <;> cases q <;> simp_all [Two, bne]
  · have e3 : (m == s + 1) = false := by simp; omega
    cases p <;> cases q <;> simp_all [Two, bne]
theorem two_less (q : Bool) (n m : Nat) : (Two true q n m).filter (fun c => c.num != 0) = Two false q n m := by
  cases q <;> simp [Two]

theorem least_one (n : Nat) : Least 2 [⟨0, 1, n⟩] 1 := ⟨by decide, by simp, fun i hi => ⟨⟨0, 1, n⟩, by simp, by show 0 = i; omega⟩⟩

set_option maxHeartbeats 8000000 in
theorem apart_in (n m cut : Nat) (w : World) (hn1 : 1 ≤ n) (hn2 : n ≤ 20000) (hm1 : 1 ≤ m) (hm2 : m ≤ 20000) (hc : cut < n) :
    Calls Tryd.prog 7 #[.int .i64 (n : Int), .int .i64 (m : Int), .int .i64 (cut : Int)] w fun e w' => e = .returned (.bool true) ∧ Below w.heap.size w w' := by
  have q1 : decide ((n : Int) < 1) = false := by simp; omega
  have q2 : decide (20000 < (n : Int)) = false := by simp; omega
  have q3 : decide ((m : Int) < 1) = false := by simp; omega
  have q4 : decide (20000 < (m : Int)) = false := by simp; omega
  have q5 : decide ((cut : Int) < 0) = false := by simp
  have q6 : decide ((n : Int) ≤ (cut : Int)) = false := by simp; omega
  go_enter Tryd.func7, Tryd.ntmps7
  go_wp2_with fail
  (with_reducible refine (small_true w).mono ?_)
  rintro e w1 ⟨rfl, hb⟩
  have HB := Lib.hid hb
  clear hb
  go_wp2_with fail
  (with_reducible refine (mine_new 2 2 (by decide) HB.out).mono ?_)
  rintro e w2 ⟨b, rfl, hm⟩
  have HM := Lib.hid hm
  clear hm HB
  go_wp2_with fail
  (with_reducible refine (mine_arm HM.out (by omega) 0 n (least_nil 2 (by decide)) n 1 rfl hn1 (by omega)).mono ?_)
  rintro e w3 ⟨rfl, hm⟩
  have HJ := Lib.hid (show Mine w w3 b 2 0 [⟨0, 1, n⟩] by rw [show n = 0 + n by omega]; exact hm)
  clear hm HM
  go_wp2_with fail
  (with_reducible refine (mine_arm HJ.out (by omega) 1 m (least_one n) m 2 rfl hm1 (by omega)).mono ?_)
  rintro e w4 ⟨rfl, hm⟩
  have HM := Lib.hid (show Mine w w4 b 2 0 (Two true true n m) by rw [show m = 0 + m by omega]; exact hm)
  clear hm HJ
  go_wp2_with fail
  clear q1 q2 q3 q4 q5 q6
  go_loopw [13] (fun u wr => ∃ (s : Nat), s ≤ 20000 ∧ u = .int .i64 ((s : Int) + 1) ∧ Hid (Mine w wr b 2 s (Two (decide (s ≤ cut)) (decide (s < m)) n m))) (fun u _ => 20001 - (intOf u).toNat)
  case atStart => exact ⟨0, by omega, rfl, Lib.hid (by rw [show decide (0 ≤ cut) = true by simp, show decide (0 < m) = true by simp; omega]; exact HM.out)⟩
  case round =>
    obtain ⟨s, hs, rfl, HK⟩ := hrel
    clear HM
    by_cases hl : s < 20000
    · have hle : decide ((s : Int) + 1 ≤ 20000) = true := by simp; omega
      rcases Nat.lt_trichotomy s cut with hcu | hcu | hcu
      · have qc : (((s : Int) + 1) == ((cut : Int) + 1)) = false := by simp; omega
        rw [show decide (s ≤ cut) = true by simp; omega] at HK
        have HCU := Lib.hid hcu
        clear hcu
        have HQ := HK
        clear HK
        go_wp2_with fail
        (with_reducible refine (mine_tick HQ.out (by omega)).mono ?_)
        rintro e w6 ⟨v, rfl, ho, hm⟩
        rw [two_fire _ _ n m s (fun _ => by have := HCU.out; omega)] at ho
        rw [two_rest _ _ n m s (fun _ => by have := HCU.out; omega)] at hm
        by_cases hf : m = s + 1
        · have qm : (((s : Int) + 1) == (m : Int)) = true := by simp; omega
          rw [show (decide (s < m) && decide (m = s + 1)) = true by simp; omega, if_pos rfl] at ho
          obtain ⟨g, cap, rfl, _, hcell, _⟩ := Own.at_ ho 0 2 rfl
          obtain ⟨tg, htg, qt⟩ : ∃ tg : Int, (2 : Int) = tg ∧ (tg == 2) = true := ⟨2, rfl, rfl⟩
          rw [htg] at hcell
          have HM := Lib.hid (show Mine w w6 b 2 (s + 1) (Two (decide (s + 1 ≤ cut)) (decide (s + 1 < m)) n m) by
            rw [show decide (s + 1 ≤ cut) = true by have := HCU.out; simp; omega, show decide (s + 1 < m) = (decide (s < m) && !decide (m = s + 1)) by rw [Bool.eq_iff_iff]; simp; omega]; exact hm)
          have HFF := Lib.hid hf
          clear ho hm HQ hf hle
          clear htg
          rw [show (List.map Tm.tag [⟨1, 2, m⟩]).length = 1 from rfl]
          go_wp2_with fail
          go_roundw
          case rel => exact ⟨s + 1, by omega, by go_num, HM⟩
          case measure => simp [intOf]; omega
        · have qm : (((s : Int) + 1) == (m : Int)) = false := by simp; omega
          rw [show (decide (s < m) && decide (m = s + 1)) = false by simp [hf], if_neg (by decide)] at ho
          obtain ⟨a3, c3, rfl⟩ := Own.len ho
          have HM := Lib.hid (show Mine w w6 b 2 (s + 1) (Two (decide (s + 1 ≤ cut)) (decide (s + 1 < m)) n m) by
            rw [show decide (s + 1 ≤ cut) = true by have := HCU.out; simp; omega, show decide (s + 1 < m) = (decide (s < m) && !decide (m = s + 1)) by rw [Bool.eq_iff_iff]; simp; omega]; exact hm)
          have HFF := Lib.hid hf
          clear ho hm HQ hf hle
          rw [show (List.map Tm.tag []).length = 0 from rfl]
          go_wp2_with fail
          go_roundw
          case rel => exact ⟨s + 1, by omega, by go_num, HM⟩
          case measure => simp [intOf]; omega
      · have qc : (((s : Int) + 1) == ((cut : Int) + 1)) = true := by simp; omega
        rw [show decide (s ≤ cut) = true by simp; omega] at HK
        have HCU := Lib.hid hcu
        clear hcu
        go_wp2_with fail
        (with_reducible refine (mine_cancel HK.out (by omega) ⟨0, 1, n⟩ (by simp [Two]) 0 rfl).mono ?_)
        rintro e w5 ⟨rfl, hm⟩
        rw [two_less] at hm
        have HQ := Lib.hid hm
        clear hm HK
        go_wp2_with fail
        (with_reducible refine (mine_tick HQ.out (by omega)).mono ?_)
        rintro e w6 ⟨v, rfl, ho, hm⟩
        rw [two_fire _ _ n m s (fun h => by cases h)] at ho
        rw [two_rest _ _ n m s (fun h => by cases h)] at hm
        by_cases hf : m = s + 1
        · have qm : (((s : Int) + 1) == (m : Int)) = true := by simp; omega
          rw [show (decide (s < m) && decide (m = s + 1)) = true by simp; omega, if_pos rfl] at ho
          obtain ⟨g, cap, rfl, _, hcell, _⟩ := Own.at_ ho 0 2 rfl
          obtain ⟨tg, htg, qt⟩ : ∃ tg : Int, (2 : Int) = tg ∧ (tg == 2) = true := ⟨2, rfl, rfl⟩
          rw [htg] at hcell
          have HM := Lib.hid (show Mine w w6 b 2 (s + 1) (Two (decide (s + 1 ≤ cut)) (decide (s + 1 < m)) n m) by
            rw [show decide (s + 1 ≤ cut) = false by have := HCU.out; simp; omega, show decide (s + 1 < m) = (decide (s < m) && !decide (m = s + 1)) by rw [Bool.eq_iff_iff]; simp; omega]; exact hm)
          have HFF := Lib.hid hf
          clear ho hm HQ hf hle
          clear htg
          rw [show (List.map Tm.tag [⟨1, 2, m⟩]).length = 1 from rfl]
          go_wp2_with fail
          go_roundw
          case rel => exact ⟨s + 1, by omega, by go_num, HM⟩
          case measure => simp [intOf]; omega
        · have qm : (((s : Int) + 1) == (m : Int)) = false := by simp; omega
          rw [show (decide (s < m) && decide (m = s + 1)) = false by simp [hf], if_neg (by decide)] at ho
          obtain ⟨a3, c3, rfl⟩ := Own.len ho
          have HM := Lib.hid (show Mine w w6 b 2 (s + 1) (Two (decide (s + 1 ≤ cut)) (decide (s + 1 < m)) n m) by
            rw [show decide (s + 1 ≤ cut) = false by have := HCU.out; simp; omega, show decide (s + 1 < m) = (decide (s < m) && !decide (m = s + 1)) by rw [Bool.eq_iff_iff]; simp; omega]; exact hm)
          have HFF := Lib.hid hf
          clear ho hm HQ hf hle
          rw [show (List.map Tm.tag []).length = 0 from rfl]
          go_wp2_with fail
          go_roundw
          case rel => exact ⟨s + 1, by omega, by go_num, HM⟩
          case measure => simp [intOf]; omega
      · have qc : (((s : Int) + 1) == ((cut : Int) + 1)) = false := by simp; omega
        rw [show decide (s ≤ cut) = false by simp; omega] at HK
        have HCU := Lib.hid hcu
        clear hcu
        have HQ := HK
        clear HK
        go_wp2_with fail
        (with_reducible refine (mine_tick HQ.out (by omega)).mono ?_)
        rintro e w6 ⟨v, rfl, ho, hm⟩
        rw [two_fire _ _ n m s (fun h => by cases h)] at ho
        rw [two_rest _ _ n m s (fun h => by cases h)] at hm
        by_cases hf : m = s + 1
        · have qm : (((s : Int) + 1) == (m : Int)) = true := by simp; omega
          rw [show (decide (s < m) && decide (m = s + 1)) = true by simp; omega, if_pos rfl] at ho
          obtain ⟨g, cap, rfl, _, hcell, _⟩ := Own.at_ ho 0 2 rfl
          obtain ⟨tg, htg, qt⟩ : ∃ tg : Int, (2 : Int) = tg ∧ (tg == 2) = true := ⟨2, rfl, rfl⟩
          rw [htg] at hcell
          have HM := Lib.hid (show Mine w w6 b 2 (s + 1) (Two (decide (s + 1 ≤ cut)) (decide (s + 1 < m)) n m) by
            rw [show decide (s + 1 ≤ cut) = false by have := HCU.out; simp; omega, show decide (s + 1 < m) = (decide (s < m) && !decide (m = s + 1)) by rw [Bool.eq_iff_iff]; simp; omega]; exact hm)
          have HFF := Lib.hid hf
          clear ho hm HQ hf hle
          clear htg
          rw [show (List.map Tm.tag [⟨1, 2, m⟩]).length = 1 from rfl]
          go_wp2_with fail
          go_roundw
          case rel => exact ⟨s + 1, by omega, by go_num, HM⟩
          case measure => simp [intOf]; omega
        · have qm : (((s : Int) + 1) == (m : Int)) = false := by simp; omega
          rw [show (decide (s < m) && decide (m = s + 1)) = false by simp [hf], if_neg (by decide)] at ho
          obtain ⟨a3, c3, rfl⟩ := Own.len ho
          have HM := Lib.hid (show Mine w w6 b 2 (s + 1) (Two (decide (s + 1 ≤ cut)) (decide (s + 1 < m)) n m) by
            rw [show decide (s + 1 ≤ cut) = false by have := HCU.out; simp; omega, show decide (s + 1 < m) = (decide (s < m) && !decide (m = s + 1)) by rw [Bool.eq_iff_iff]; simp; omega]; exact hm)
          have HFF := Lib.hid hf
          clear ho hm HQ hf hle
          rw [show (List.map Tm.tag []).length = 0 from rfl]
          go_wp2_with fail
          go_roundw
          case rel => exact ⟨s + 1, by omega, by go_num, HM⟩
          case measure => simp [intOf]; omega
    · obtain rfl : s = 20000 := by omega
      have HQ := Lib.hid (show Mine w wr b 2 20000 [] by rw [show ([] : List Tm) = Two false false n m from rfl, show false = decide (20000 ≤ cut) by simp; omega, show decide (20000 ≤ cut) = decide (20000 < m) by rw [Bool.eq_iff_iff]; simp; omega]; rw [show decide (20000 ≤ cut) = decide (20000 < m) by rw [Bool.eq_iff_iff]; simp; omega] at HK; exact HK.out)
      have hle : decide (((20000 : Nat) : Int) + 1 ≤ 20000) = false := by decide
      clear HK
      go_wp2_with fail
      (with_reducible refine (mine_free HQ.out 2 rfl).mono ?_)
      rintro e w5 ⟨rfl, hm⟩
      have HM := Lib.hid hm.below
      clear hm
      go_wp2_with fail
      go_ret
      exact ⟨rfl, HM.out⟩
theorem apart_any (n m cut : Int) (w : World) :
    Calls Tryd.prog 7 #[.int .i64 n, .int .i64 m, .int .i64 cut] w fun e w' => e = .returned (.bool true) ∧ Below w.heap.size w w' := by
  by_cases h : n < 1 ∨ 20000 < n ∨ m < 1 ∨ 20000 < m ∨ cut < 0 ∨ n ≤ cut
  · exact apart_out n m cut w h
  · obtain ⟨a, rfl⟩ : ∃ a : Nat, n = (a : Int) := ⟨n.toNat, by omega⟩
    obtain ⟨c, rfl⟩ : ∃ c : Nat, m = (c : Int) := ⟨m.toNat, by omega⟩
    obtain ⟨d, rfl⟩ : ∃ d : Nat, cut = (d : Int) := ⟨cut.toNat, by omega⟩
    exact apart_in a c d w (by omega) (by omega) (by omega) (by omega) (by omega)
end Go.Proofs.YtaonnkocopngaaaDoor

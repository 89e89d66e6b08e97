/-
  The walk of crossbucklaw08.ConfigTimes: true, whatever it is given.
-/
import Derived.Test.YthjpacdhaeoecaaDoorHead
namespace Go.Proofs.YthjpacdhaeoecaaDoor
open Go.RowKit

theorem times_out (n t : Int) (hn : n < 0 ∨ 20 < n) (w : World) : Calls Tryd.prog 7 #[.int .i64 n, .int .i64 t] w fun e w' => e = .returned (.bool true) ∧ Below w.heap.size w w' := by
  go_enter Tryd.func7, Tryd.ntmps7
  go_wp2_with fail
  (with_reducible refine (small_true _).mono ?_)
  rintro e w1 ⟨rfl, hb⟩
  have HB := Lib.hid hb
  clear hb
  by_cases h : n < 0
  · have q1 : decide (n < 0) = true := decide_eq_true h
    clear hn h
    go_wp2_with fail
    go_ret
    exact ⟨rfl, HB.out⟩
  · have q1 : decide (n < 0) = false := decide_eq_false h
    have q2 : decide (20 < n) = true := decide_eq_true (by omega)
    clear hn h
    go_wp2_with fail
    go_ret
    exact ⟨rfl, HB.out⟩

set_option maxHeartbeats 1000000 in
theorem times_yes (n : Nat) (t : Int) (hn : n ≤ 20) (h0 : 1 ≤ n) (h1 : n ≤ 8) (h2 : 1 ≤ t) (h3 : t ≤ 6000) (w : World) : Calls Tryd.prog 7 #[.int .i64 (n : Int), .int .i64 t] w fun e w' => e = .returned (.bool true) ∧ Below w.heap.size w w' := by
  have HC := Lib.hid (fun w => crossing_any n hn t w)
  have HCH := Lib.hid (fun a c w h => check_any (.slice a n c) (fun _ => t) (ones n) 0 (if_pos (ones_ok.2 (by omega))).symm w h)
  unfold cfc at HCH
  dsimp only at HCH
  have z1 : decide ((n : Int) < 0) = false := decide_eq_false (by omega)
  have z2 : decide ((20 : Int) < (n : Int)) = false := decide_eq_false (by omega)
  have p0 : decide ((1 : Int) ≤ (n : Int)) = true := decide_eq_true (by omega)
  have p0' : decide (1 ≤ n) = true := decide_eq_true (by omega)
  have p1 : decide ((n : Int) ≤ 8) = true := decide_eq_true (by omega)
  have p1' : decide (n ≤ 8) = true := decide_eq_true (by omega)
  have p2 : decide (1 ≤ t) = true := decide_eq_true (by omega)
  have p3 : decide (t ≤ 6000) = true := decide_eq_true (by omega)
  clear h0 h1 h2 h3
  go_enter Tryd.func7, Tryd.ntmps7
  go_wp2_with fail
  (with_reducible refine (small_true _).mono ?_)
  rintro e w1 ⟨rfl, hb⟩
  have HB := Lib.hid hb
  clear hb
  go_wp2_with fail
  (with_reducible refine (HC.out _).mono ?_)
  rintro e w2 ⟨a, c, rfl, he, hb⟩
  have HE := Lib.hid he
  have HB2 := Lib.hid (below_call HB.out hb)
  clear he hb HB
  go_wp2_with fail
  (with_reducible refine (HCH.out _ _ _ HE.out).mono ?_)
  rintro e w3 ⟨r, rfl, hr, hb⟩
  obtain rfl := hr.nil
  have HB3 := Lib.hid (below_call HB2.out hb)
  clear hr hb HB2 HE HC HCH
  go_wp2_with fail
  go_ret
  exact ⟨rfl, HB3.out⟩

set_option maxHeartbeats 1000000 in
theorem times_n1 (n : Nat) (t : Int) (hn : n ≤ 20) (h0 : ¬ 1 ≤ n) (w : World) : Calls Tryd.prog 7 #[.int .i64 (n : Int), .int .i64 t] w fun e w' => e = .returned (.bool true) ∧ Below w.heap.size w w' := by
  have HC := Lib.hid (fun w => crossing_any n hn t w)
  have HCH := Lib.hid (fun a c w h => check_any (.slice a n c) (fun _ => t) (ones n) 6 (if_neg (fun h => by have := ones_ok.1 h; omega)).symm w h)
  unfold cfc at HCH
  dsimp only at HCH
  have z1 : decide ((n : Int) < 0) = false := decide_eq_false (by omega)
  have z2 : decide ((20 : Int) < (n : Int)) = false := decide_eq_false (by omega)
  have p0 : decide ((1 : Int) ≤ (n : Int)) = false := decide_eq_false (by omega)
  have p0' : decide (1 ≤ n) = false := decide_eq_false (by omega)
  clear h0
  go_enter Tryd.func7, Tryd.ntmps7
  go_wp2_with fail
  (with_reducible refine (small_true _).mono ?_)
  rintro e w1 ⟨rfl, hb⟩
  have HB := Lib.hid hb
  clear hb
  go_wp2_with fail
  (with_reducible refine (HC.out _).mono ?_)
  rintro e w2 ⟨a, c, rfl, he, hb⟩
  have HE := Lib.hid he
  have HB2 := Lib.hid (below_call HB.out hb)
  clear he hb HB
  go_wp2_with fail
  (with_reducible refine (HCH.out _ _ _ HE.out).mono ?_)
  rintro e w3 ⟨r, rfl, hr, hb⟩
  obtain ⟨g, rfl, _⟩ := hr.not (by decide)
  have HB3 := Lib.hid (below_call HB2.out hb)
  clear hr hb HB2 HE HC HCH
  go_wp2_with fail
  go_ret
  exact ⟨rfl, HB3.out⟩

set_option maxHeartbeats 1000000 in
theorem times_n8 (n : Nat) (t : Int) (hn : n ≤ 20) (h0 : 1 ≤ n) (h1 : ¬ n ≤ 8) (w : World) : Calls Tryd.prog 7 #[.int .i64 (n : Int), .int .i64 t] w fun e w' => e = .returned (.bool true) ∧ Below w.heap.size w w' := by
  have HC := Lib.hid (fun w => crossing_any n hn t w)
  have HCH := Lib.hid (fun a c w h => check_any (.slice a n c) (fun _ => t) (ones n) 6 (if_neg (fun h => by have := ones_ok.1 h; omega)).symm w h)
  unfold cfc at HCH
  dsimp only at HCH
  have z1 : decide ((n : Int) < 0) = false := decide_eq_false (by omega)
  have z2 : decide ((20 : Int) < (n : Int)) = false := decide_eq_false (by omega)
  have p0 : decide ((1 : Int) ≤ (n : Int)) = true := decide_eq_true (by omega)
  have p0' : decide (1 ≤ n) = true := decide_eq_true (by omega)
  have p1 : decide ((n : Int) ≤ 8) = false := decide_eq_false (by omega)
  have p1' : decide (n ≤ 8) = false := decide_eq_false (by omega)
  clear h0 h1
  go_enter Tryd.func7, Tryd.ntmps7
  go_wp2_with fail
  (with_reducible refine (small_true _).mono ?_)
  rintro e w1 ⟨rfl, hb⟩
  have HB := Lib.hid hb
  clear hb
  go_wp2_with fail
  (with_reducible refine (HC.out _).mono ?_)
  rintro e w2 ⟨a, c, rfl, he, hb⟩
  have HE := Lib.hid he
  have HB2 := Lib.hid (below_call HB.out hb)
  clear he hb HB
  go_wp2_with fail
  (with_reducible refine (HCH.out _ _ _ HE.out).mono ?_)
  rintro e w3 ⟨r, rfl, hr, hb⟩
  obtain ⟨g, rfl, _⟩ := hr.not (by decide)
  have HB3 := Lib.hid (below_call HB2.out hb)
  clear hr hb HB2 HE HC HCH
  go_wp2_with fail
  go_ret
  exact ⟨rfl, HB3.out⟩

set_option maxHeartbeats 1000000 in
theorem times_t1 (n : Nat) (t : Int) (hn : n ≤ 20) (h0 : 1 ≤ n) (h1 : n ≤ 8) (h2 : ¬ 1 ≤ t) (w : World) : Calls Tryd.prog 7 #[.int .i64 (n : Int), .int .i64 t] w fun e w' => e = .returned (.bool true) ∧ Below w.heap.size w w' := by
  have HC := Lib.hid (fun w => crossing_any n hn t w)
  have HCH := Lib.hid (fun a c w h => check_any (.slice a n c) (fun _ => t) (ones n) 6 (if_neg (fun h => by have := ones_ok.1 h; omega)).symm w h)
  unfold cfc at HCH
  dsimp only at HCH
  have z1 : decide ((n : Int) < 0) = false := decide_eq_false (by omega)
  have z2 : decide ((20 : Int) < (n : Int)) = false := decide_eq_false (by omega)
  have p0 : decide ((1 : Int) ≤ (n : Int)) = true := decide_eq_true (by omega)
  have p0' : decide (1 ≤ n) = true := decide_eq_true (by omega)
  have p1 : decide ((n : Int) ≤ 8) = true := decide_eq_true (by omega)
  have p1' : decide (n ≤ 8) = true := decide_eq_true (by omega)
  have p2 : decide (1 ≤ t) = false := decide_eq_false (by omega)
  clear h0 h1 h2
  go_enter Tryd.func7, Tryd.ntmps7
  go_wp2_with fail
  (with_reducible refine (small_true _).mono ?_)
  rintro e w1 ⟨rfl, hb⟩
  have HB := Lib.hid hb
  clear hb
  go_wp2_with fail
  (with_reducible refine (HC.out _).mono ?_)
  rintro e w2 ⟨a, c, rfl, he, hb⟩
  have HE := Lib.hid he
  have HB2 := Lib.hid (below_call HB.out hb)
  clear he hb HB
  go_wp2_with fail
  (with_reducible refine (HCH.out _ _ _ HE.out).mono ?_)
  rintro e w3 ⟨r, rfl, hr, hb⟩
  obtain ⟨g, rfl, _⟩ := hr.not (by decide)
  have HB3 := Lib.hid (below_call HB2.out hb)
  clear hr hb HB2 HE HC HCH
  go_wp2_with fail
  go_ret
  exact ⟨rfl, HB3.out⟩

set_option maxHeartbeats 1000000 in
theorem times_t6 (n : Nat) (t : Int) (hn : n ≤ 20) (h0 : 1 ≤ n) (h1 : n ≤ 8) (h2 : 1 ≤ t) (h3 : ¬ t ≤ 6000) (w : World) : Calls Tryd.prog 7 #[.int .i64 (n : Int), .int .i64 t] w fun e w' => e = .returned (.bool true) ∧ Below w.heap.size w w' := by
  have HC := Lib.hid (fun w => crossing_any n hn t w)
  have HCH := Lib.hid (fun a c w h => check_any (.slice a n c) (fun _ => t) (ones n) 6 (if_neg (fun h => by have := ones_ok.1 h; omega)).symm w h)
  unfold cfc at HCH
  dsimp only at HCH
  have z1 : decide ((n : Int) < 0) = false := decide_eq_false (by omega)
  have z2 : decide ((20 : Int) < (n : Int)) = false := decide_eq_false (by omega)
  have p0 : decide ((1 : Int) ≤ (n : Int)) = true := decide_eq_true (by omega)
  have p0' : decide (1 ≤ n) = true := decide_eq_true (by omega)
  have p1 : decide ((n : Int) ≤ 8) = true := decide_eq_true (by omega)
  have p1' : decide (n ≤ 8) = true := decide_eq_true (by omega)
  have p2 : decide (1 ≤ t) = true := decide_eq_true (by omega)
  have p3 : decide (t ≤ 6000) = false := decide_eq_false (by omega)
  clear h0 h1 h2 h3
  go_enter Tryd.func7, Tryd.ntmps7
  go_wp2_with fail
  (with_reducible refine (small_true _).mono ?_)
  rintro e w1 ⟨rfl, hb⟩
  have HB := Lib.hid hb
  clear hb
  go_wp2_with fail
  (with_reducible refine (HC.out _).mono ?_)
  rintro e w2 ⟨a, c, rfl, he, hb⟩
  have HE := Lib.hid he
  have HB2 := Lib.hid (below_call HB.out hb)
  clear he hb HB
  go_wp2_with fail
  (with_reducible refine (HCH.out _ _ _ HE.out).mono ?_)
  rintro e w3 ⟨r, rfl, hr, hb⟩
  obtain ⟨g, rfl, _⟩ := hr.not (by decide)
  have HB3 := Lib.hid (below_call HB2.out hb)
  clear hr hb HB2 HE HC HCH
  go_wp2_with fail
  go_ret
  exact ⟨rfl, HB3.out⟩

theorem lawTimes_any (n t : Int) (w : World) : Calls Tryd.prog 7 #[.int .i64 n, .int .i64 t] w fun e w' => e = .returned (.bool true) ∧ Below w.heap.size w w' := by
  by_cases h : n < 0 ∨ 20 < n
  · exact times_out n t h w
  · obtain ⟨m, rfl⟩ : ∃ m : Nat, n = (m : Int) := ⟨n.toNat, by omega⟩
    have hm : m ≤ 20 := by omega
    by_cases h0 : 1 ≤ m
    · by_cases h1 : m ≤ 8
      · by_cases h2 : 1 ≤ t
        · by_cases h3 : t ≤ 6000
          · exact times_yes m t hm h0 h1 h2 h3 w
          · exact times_t6 m t hm h0 h1 h2 h3 w
        · exact times_t1 m t hm h0 h1 h2 w
      · exact times_n8 m t hm h0 h1 w
    · exact times_n1 m t hm h0 w
end Go.Proofs.YthjpacdhaeoecaaDoor

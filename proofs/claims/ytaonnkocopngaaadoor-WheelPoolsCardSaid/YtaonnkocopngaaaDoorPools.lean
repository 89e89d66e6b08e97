/-
  WheelPools, walked.
-/
import Derived.Test.YtaonnkocopngaaaDoorMine
namespace Go.Proofs.YtaonnkocopngaaaDoor
open Go.RowKit

variable {b n now : Nat} {A : List Tm} {w w1 w2 : World}
theorem mine_full (h : Mine w w1 b n now A) (hl : A.length = n) (t tag : Int) (h1 : 1 ≤ t) (h2 : t ≤ 16777215) :
    Calls Tryd.prog 12 #[.pointer (some ⟨b, 0, none⟩), .int .i64 t, .int .i64 tag] w1 fun e w2 => ∃ g, e = .returned (.tuple #[.int .i64 0, .iface 66 (.pointer (some ⟨g, 0, none⟩))]) ∧ w2.cell? ⟨g, 1, none⟩ = some (.int .i64 5) ∧ Mine w w2 b n now A := by
  obtain ⟨fp, e1, e2, e3⟩ := h
  exact (arm_full e1 hl t tag h1 h2).mono fun e w2 ⟨g, r1, r2, r3, r4⟩ => ⟨g, r2, r3, fp, e1.below r4, below_call e2 r4, e3⟩
theorem mine_cancel0 (h : Mine w w1 b n now A) (t : Int) (hno : ∀ a ∈ A, (a.num : Int) ≠ t) :
    Calls Tryd.prog 15 #[.pointer (some ⟨b, 0, none⟩), .int .i64 t] w1 fun e w2 => e = .returned (.bool false) ∧ Mine w w2 b n now A := by
  obtain ⟨fp, e1, e2, e3⟩ := h
  exact (cancel_out e1 t hno).mono fun e w2 ⟨r1, r2⟩ => ⟨r1, fp, e1.below r2, below_call e2 r2, e3⟩
/-- The first i timers, all armed at once. -/
def Row (i : Nat) : List Tm := (List.range i).map fun j => ⟨j, (j : Int), 9⟩
theorem row_len (i : Nat) : (Row i).length = i := by simp [Row]
theorem row_next (i : Nat) : Row i ++ [⟨i, (i : Int), 0 + 9⟩] = Row (i + 1) := by simp [Row, List.range_succ]
theorem row_least (n i : Nat) (h : i < n) : Least n (Row i) i :=
  ⟨h, fun a ha => by obtain ⟨j, hj, rfl⟩ := List.mem_map.1 ha; have := List.mem_range.1 hj; show j ≠ i; omega, fun j hj => ⟨⟨j, (j : Int), 9⟩, List.mem_map.2 ⟨j, List.mem_range.2 hj, rfl⟩, rfl⟩⟩
theorem row_gone (n r : Nat) (h : r < n) : Least n ((Row n).filter fun c => c.num != r) r := by
  refine ⟨h, fun a ha => by simpa using (List.mem_filter.1 ha).2, fun j hj => ⟨⟨j, (j : Int), 9⟩, List.mem_filter.2 ⟨List.mem_map.2 ⟨j, List.mem_range.2 (by omega), rfl⟩, ?_⟩, rfl⟩⟩
  simp
  omega

set_option maxHeartbeats 4000000 in
theorem pools_any (pool again : Int) (w : World) :
    Calls Tryd.prog 6 #[.int .i64 pool, .int .i64 again] w fun e w' => e = .returned (.bool true) ∧ Below w.heap.size w w' := by
  obtain ⟨n, hn⟩ : ∃ n : Nat, (n : Int) = min (max pool 0) 64 := ⟨(min (max pool 0) 64).toNat, by omega⟩
  obtain ⟨m, hm⟩ : ∃ m : Int, m = max pool 0 := ⟨_, rfl⟩
  have hmx : ∀ (ts : Array TypeId) (t : TypeId) (w : World), (Builtin.max_ ts t #[.int .i64 pool, .int .i64 0]).run Tryd.prog w = .ok (.int .i64 m) w := by
    intro ts t w
    rw [run_max_int2, show (if (0 : Int) > pool then 0 else pool) = m by rw [hm]; split <;> omega]
  have hmn : ∀ (ts : Array TypeId) (t : TypeId) (w : World), (Builtin.min_ ts t #[.int .i64 m, .int .i64 64]).run Tryd.prog w = .ok (.int .i64 (n : Int)) w := by
    intro ts t w
    rw [run_min_int2, show (if (64 : Int) < m then 64 else m) = (n : Int) by rw [hm, hn]; split <;> omega]
  have hn64 : n ≤ 64 := by omega
  have HN := Lib.hid hn
  clear hm hn
  go_enter Tryd.func6, Tryd.ntmps6
  go_wp2_with fail
  (with_reducible refine (small_true w).mono ?_)
  rintro e w1 ⟨rfl, hb⟩
  have HB := Lib.hid hb
  clear hb
  go_wp2_with fail
  (with_reducible refine (mine_new pool n HN.out HB.out).mono ?_)
  rintro e w2 ⟨b, rfl, hm⟩
  have HM := Lib.hid hm
  clear hm HB
  go_wp2_with fail
  go_loopw [8] (fun u wr => ∃ (i : Nat), i ≤ n ∧ u = .int .i64 (i : Int) ∧ Hid (Mine w wr b n 0 (Row i))) (fun u _ => n - (intOf u).toNat)
  case atStart => exact ⟨0, by omega, rfl, HM⟩
  case round =>
    obtain ⟨i, hi, rfl, HK⟩ := hrel
    clear HM
    by_cases hl : i < n
    · have hlz : (i : Int) < (n : Int) := by omega
      go_wp2_with fail
      (with_reducible refine (mine_arm HK.out (by omega) i 9 (row_least n i hl) 9 (i : Int) rfl (by decide) (by decide)).mono ?_)
      rintro e w3 ⟨rfl, hm⟩
      rw [row_next] at hm
      have HM := Lib.hid hm
      clear hm HK
      go_wp2_with fail
      (with_reducible refine (mine_free HM.out ((n : Int) - (i : Int) - 1) (by rw [row_len]; omega)).mono ?_)
      rintro e w4 ⟨rfl, hm⟩
      have HK := Lib.hid hm
      clear hm HM
      go_wp2_with fail
      go_roundw
      case rel => exact ⟨i + 1, by omega, by go_num, HK⟩
      case measure => simp [intOf]; omega
    · obtain rfl : i = n := by omega
      clear hl hi
      go_wp2_with fail
      (with_reducible refine (mine_full HK.out (row_len i) 9 0 (by decide) (by decide)).mono ?_)
      rintro e w3 ⟨g, rfl, hc, hm⟩
      have HM := Lib.hid hm
      have HC := Lib.hid hc
      clear hm hc HK
      go_wp2_with fail
      (with_reducible refine (code_place g 5 _ HC.out).mono ?_)
      rintro e w4 ⟨rfl, hw⟩
      cases hw
      clear HC
      go_wp2_with fail
      (with_reducible refine (mine_free HM.out 0 (by rw [row_len]; omega)).mono ?_)
      rintro e w5 ⟨rfl, hm⟩
      have HK := Lib.hid hm
      clear hm HM
      by_cases c1 : again < 0
      · have q1 : decide (again < 0) = true := decide_eq_true c1
        go_wp2_with fail
        (with_reducible refine (mine_cancel0 HK.out again (fun a ha => by omega)).mono ?_)
        rintro e w6 ⟨rfl, hm⟩
        have HM := Lib.hid hm.below
        clear hm
        go_wp2_with fail
        go_ret
        exact ⟨rfl, HM.out⟩
      · have q1 : decide (again < 0) = false := decide_eq_false c1
        by_cases c2 : (i : Int) ≤ again
        · have q2 : decide ((i : Int) ≤ again) = true := decide_eq_true c2
          go_wp2_with fail
          have HNO := Lib.hid (show ∀ a ∈ Row i, (a.num : Int) ≠ again by
            intro a ha
            obtain ⟨j, hj, rfl⟩ := List.mem_map.1 ha
            have := List.mem_range.1 hj
            show (j : Int) ≠ again
            omega)
          (with_reducible refine (mine_cancel0 HK.out again HNO.out).mono ?_)
          rintro e w6 ⟨rfl, hm⟩
          have HM := Lib.hid hm.below
          clear hm
          go_wp2_with fail
          go_ret
          exact ⟨rfl, HM.out⟩
        · have q2 : decide ((i : Int) ≤ again) = false := decide_eq_false c2
          obtain ⟨r, rfl⟩ : ∃ r : Nat, again = (r : Int) := ⟨again.toNat, by omega⟩
          have hr : r < i := by omega
          clear c1 c2
          go_wp2_with fail
          (with_reducible refine (mine_cancel HK.out (by decide) ⟨r, (r : Int), 9⟩ (List.mem_map.2 ⟨r, List.mem_range.2 hr, rfl⟩) (r : Int) rfl).mono ?_)
          rintro e w6 ⟨rfl, hm⟩
          have HM := Lib.hid hm
          clear hm HK
          go_wp2_with fail
          (with_reducible refine (mine_arm HM.out (by decide) r 5 (row_gone i r hr) 5 1 rfl (by decide) (by decide)).mono ?_)
          rintro e w7 ⟨rfl, hm⟩
          have HK := Lib.hid hm
          clear hm HM
          go_wp2_with fail
          (with_reducible refine (mine_left HK.out (by decide) ⟨r, 1, 0 + 5⟩ (by simp) (r : Int) rfl 5 rfl).mono ?_)
          rintro e w8 ⟨rfl, hm⟩
          have HM := Lib.hid hm.below
          clear hm HK
          go_wp2_with fail
          go_ret
          exact ⟨rfl, HM.out⟩
end Go.Proofs.YtaonnkocopngaaaDoor

/-
  The calls of prove, and the document's, by contracts: Down, Step, Proved.
-/
import Derived.Test.YtmljjihjmppcmaaPvMath
import Derived.Test.YtmljjihjmppcmaaBlk
namespace Go.Proofs.Ytmljjihjmppcmaa
open Go.RowKit

theorem box4b (w : World) (a b c d : Bool) : Blk (w.alloc (.cells #[.bool a, .bool b, .bool c, .bool d] 23)) w.heap.size #[.bool a, .bool b, .bool c, .bool d] 23 := blk_new w _ _
theorem down_to (a b c d r : Bool) (hr : (a && c) = r) (w : World) : Calls Try.prog 9 #[.agg #[.bool a, .bool b, .bool c, .bool d]] w fun e w' => e = .returned (.bool r) ∧ Below w.heap.size w w' := by
  have HB := Lib.hid (below_alloc (Below.refl _ w) (.cells #[.bool a, .bool b, .bool c, .bool d] 23))
  obtain ⟨x0, x1, x2, x3⟩ := (box4b w a b c d).four
  subst hr
  cases a
  all_goals
    go_enter Try.func9, Try.ntmps9
    go_wp2_with fail
    go_ret
    exact ⟨by simp, HB.out⟩
theorem step_to (n : Int) (a b c d : Bool) (l m : Int) (hm : pvs n (a && c) l = m) (hl : l ≤ 9223372036854775807) (w : World) : Calls Try.prog 11 #[.int .i64 n, .agg #[.bool a, .bool b, .bool c, .bool d], .int .i64 l] w fun e w' => e = .returned (.int .i64 m) ∧ Below w.heap.size w w' := by
  have HB := Lib.hid (below_alloc (Below.refl _ w) (.cells #[.bool a, .bool b, .bool c, .bool d] 23))
  obtain ⟨x0, x1, x2, x3⟩ := (box4b w a b c d).four
  obtain ⟨r, hr⟩ : ∃ r, (a && c) = r := ⟨_, rfl⟩
  have HD := Lib.hid (down_to a b c d r hr)
  rw [hr] at hm
  have HL := Lib.hid hl
  clear hr hl
  cases r
  · go_enter Try.func11, Try.ntmps11
    go_wp2_with fail
    (with_reducible refine (HD.out _).mono ?_)
    rintro e w1 ⟨rfl, hb⟩
    have HB1 := Lib.hid (below_call HB.out hb)
    clear hb
    go_wp2_with fail
    go_ret
    exact ⟨by rw [← hm, pvs_no]; rfl, HB1.out⟩
  · rw [pvs_yes] at hm
    have q0 : wrap64 0 = 0 := IntWalk.wrap64_in _ (by decide)
    have q1 : wrap64 1 = 1 := IntWalk.wrap64_in _ (by decide)
    obtain ⟨k, hk⟩ : ∃ k, l - 1 = k := ⟨_, rfl⟩
    have hcs : (l < 1 ∧ n < 0 ∧ m = 1) ∨ (l < 1 ∧ 0 ≤ n ∧ n ≤ 0 ∧ m = 1) ∨ (l < 1 ∧ 0 ≤ n ∧ 0 < n ∧ m = 1) ∨ (1 ≤ l ∧ n < 0 ∧ m = 1) ∨ (1 ≤ l ∧ 0 ≤ n ∧ n ≤ k ∧ m = n + 1) ∨ (1 ≤ l ∧ 0 ≤ n ∧ k < n ∧ l = m) := by
      by_cases h1 : l < 1
      · rw [if_pos h1] at hm
        by_cases h2 : 1 ≤ n
        · rw [if_pos h2] at hm; omega
        · rw [if_neg h2] at hm
          by_cases h3 : n < 0
          · rw [if_pos h3] at hm; omega
          · rw [if_neg h3] at hm; omega
      · rw [if_neg h1] at hm
        by_cases h2 : l ≤ n
        · rw [if_pos h2] at hm; omega
        · rw [if_neg h2] at hm
          by_cases h3 : n < 0
          · rw [if_pos h3] at hm; omega
          · rw [if_neg h3] at hm; omega
    have HK := Lib.hid hk
    clear hm hk
    rcases hcs with ⟨h1, h2, rfl⟩ | ⟨h1, h2, h3, rfl⟩ | ⟨h1, h2, h3, rfl⟩ | ⟨h1, h2, rfl⟩ | ⟨h1, h2, h3, rfl⟩ | ⟨h1, h2, h3, rfl⟩
    · go_enter Try.func11, Try.ntmps11
      go_wp2_with fail
      (with_reducible refine (HD.out _).mono ?_)
      rintro e w1 ⟨rfl, hb⟩
      have HB1 := Lib.hid (below_call HB.out hb)
      clear hb
      go_wp2_with fail
      go_ret
      exact ⟨by simp, HB1.out⟩
    · obtain rfl : n = 0 := by omega
      go_enter Try.func11, Try.ntmps11
      go_wp2_with fail
      (with_reducible refine (HD.out _).mono ?_)
      rintro e w1 ⟨rfl, hb⟩
      have HB1 := Lib.hid (below_call HB.out hb)
      clear hb
      go_wp2_with fail
      go_ret
      exact ⟨by simp, HB1.out⟩
    · go_enter Try.func11, Try.ntmps11
      go_wp2_with fail
      (with_reducible refine (HD.out _).mono ?_)
      rintro e w1 ⟨rfl, hb⟩
      have HB1 := Lib.hid (below_call HB.out hb)
      clear hb
      go_wp2_with fail
      go_ret
      exact ⟨by simp, HB1.out⟩
    · have hw : wrap64 (l - 1) = k := by rw [HK.out]; exact IntWalk.wrap64_in _ (by have := HK.out; have := HL.out; omega)
      have h4 : (0 : Int) ≤ k := by have := HK.out; omega
      go_enter Try.func11, Try.ntmps11
      go_wp2_with fail
      (with_reducible refine (HD.out _).mono ?_)
      rintro e w1 ⟨rfl, hb⟩
      have HB1 := Lib.hid (below_call HB.out hb)
      clear hb
      go_wp2_with fail
      go_ret
      exact ⟨by simp, HB1.out⟩
    · have hw : wrap64 (l - 1) = k := by rw [HK.out]; exact IntWalk.wrap64_in _ (by have := HK.out; have := HL.out; omega)
      have hv : wrap64 (n + 1) = n + 1 := IntWalk.wrap64_in _ (by have := HK.out; have := HL.out; omega)
      go_enter Try.func11, Try.ntmps11
      go_wp2_with fail
      (with_reducible refine (HD.out _).mono ?_)
      rintro e w1 ⟨rfl, hb⟩
      have HB1 := Lib.hid (below_call HB.out hb)
      clear hb
      go_wp2_with fail
      go_ret
      exact ⟨by simp [hv], HB1.out⟩
    · have hw : wrap64 (l - 1) = k := by rw [HK.out]; exact IntWalk.wrap64_in _ (by have := HK.out; have := HL.out; omega)
      have hv : wrap64 (k + 1) = l := by rw [← HK.out, show l - 1 + 1 = l by omega]; exact IntWalk.wrap64_in _ (by have := HL.out; omega)
      go_enter Try.func11, Try.ntmps11
      go_wp2_with fail
      (with_reducible refine (HD.out _).mono ?_)
      rintro e w1 ⟨rfl, hb⟩
      have HB1 := Lib.hid (below_call HB.out hb)
      clear hb
      go_wp2_with fail
      go_ret
      exact ⟨by simp [hv], HB1.out⟩
theorem proved_to (n l : Int) (r : Bool) (hr : decide (l ≤ n ∧ 1 ≤ n) = r) (w : World) : Calls Try.prog 13 #[.int .i64 n, .int .i64 l] w fun e w' => e = .returned (.bool r) ∧ w' = w := by
  subst hr
  by_cases h : l ≤ n <;> by_cases h1 : 1 ≤ n
  all_goals
    go_enter Try.func13, Try.ntmps13
    go_wp2_with fail
    go_ret
    exact ⟨by simp [h, h1], rfl⟩
theorem rdown_to (a b c d r : Bool) (hr : (a && c) = r) (w : World) : Calls Try.prog 10 #[.agg #[.bool a, .bool b, .bool c, .bool d]] w fun e w' => e = .returned (.bool r) ∧ Below w.heap.size w w' := by
  have HB := Lib.hid (below_alloc (Below.refl _ w) (.cells #[.bool a, .bool b, .bool c, .bool d] 23))
  obtain ⟨x0, x1, x2, x3⟩ := (box4b w a b c d).four
  subst hr
  cases a
  all_goals
    go_enter Try.func10, Try.ntmps10
    go_wp2_with fail
    go_ret
    exact ⟨by simp, HB.out⟩
theorem rstep_to (n : Int) (a b c d : Bool) (l m : Int) (hm : pvs n (a && c) l = m) (hl : l ≤ 9223372036854775807) (w : World) : Calls Try.prog 12 #[.int .i64 n, .agg #[.bool a, .bool b, .bool c, .bool d], .int .i64 l] w fun e w' => e = .returned (.int .i64 m) ∧ Below w.heap.size w w' := by
  have HB := Lib.hid (below_alloc (Below.refl _ w) (.cells #[.bool a, .bool b, .bool c, .bool d] 23))
  obtain ⟨x0, x1, x2, x3⟩ := (box4b w a b c d).four
  obtain ⟨r, hr⟩ : ∃ r, (a && c) = r := ⟨_, rfl⟩
  have HD := Lib.hid (rdown_to a b c d r hr)
  rw [hr] at hm
  have HL := Lib.hid hl
  clear hr hl
  cases r
  · go_enter Try.func12, Try.ntmps12
    go_wp2_with fail
    (with_reducible refine (HD.out _).mono ?_)
    rintro e w1 ⟨rfl, hb⟩
    have HB1 := Lib.hid (below_call HB.out hb)
    clear hb
    go_wp2_with fail
    go_ret
    exact ⟨by rw [← hm, pvs_no]; rfl, HB1.out⟩
  · rw [pvs_yes] at hm
    have hcs : (l < 1 ∧ n < 0 ∧ n < 1 ∧ m = 1) ∨ (l < 1 ∧ n = 0 ∧ m = 1) ∨ (l < 1 ∧ 0 ≤ n ∧ 1 ≤ n ∧ m = 1) ∨ (1 ≤ l ∧ n < 0 ∧ n < l ∧ m = 1) ∨ (1 ≤ l ∧ 0 ≤ n ∧ n < l ∧ m = n + 1) ∨ (1 ≤ l ∧ 0 ≤ n ∧ l ≤ n ∧ l = m) := by
      by_cases h1 : l < 1
      · rw [if_pos h1] at hm
        by_cases h2 : 1 ≤ n
        · rw [if_pos h2] at hm; omega
        · rw [if_neg h2] at hm
          by_cases h3 : n < 0
          · rw [if_pos h3] at hm; omega
          · rw [if_neg h3] at hm; omega
      · rw [if_neg h1] at hm
        by_cases h2 : l ≤ n
        · rw [if_pos h2] at hm; omega
        · rw [if_neg h2] at hm
          by_cases h3 : n < 0
          · rw [if_pos h3] at hm; omega
          · rw [if_neg h3] at hm; omega
    clear hm
    have q1 : wrap64 1 = 1 := IntWalk.wrap64_in _ (by decide)
    rcases hcs with ⟨h1, h2, h3, rfl⟩ | ⟨h1, rfl, rfl⟩ | ⟨h1, h2, h3, rfl⟩ | ⟨h1, h2, h3, rfl⟩ | ⟨h1, h2, h3, rfl⟩ | ⟨h1, h2, h3, rfl⟩
    all_goals
      try have hv : wrap64 (n + 1) = n + 1 := IntWalk.wrap64_in _ (by have := HL.out; omega)
      go_enter Try.func12, Try.ntmps12
      go_wp2_with fail
      (with_reducible refine (HD.out _).mono ?_)
      rintro e w1 ⟨rfl, hb⟩
      have HB1 := Lib.hid (below_call HB.out hb)
      clear hb
      go_wp2_with fail
      go_ret
      exact ⟨by first | rfl | (simp; done) | (simp [hv]; done), HB1.out⟩
theorem rproved_to (n l : Int) (r : Bool) (hr : decide (l ≤ n ∧ 1 ≤ n) = r) (w : World) : Calls Try.prog 14 #[.int .i64 n, .int .i64 l] w fun e w' => e = .returned (.bool r) ∧ w' = w := by
  subst hr
  by_cases h : l ≤ n <;> by_cases h1 : 1 ≤ n
  all_goals
    go_enter Try.func14, Try.ntmps14
    go_wp2_with fail
    go_ret
    exact ⟨by simp [h, h1], rfl⟩
end Go.Proofs.Ytmljjihjmppcmaa

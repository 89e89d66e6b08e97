/-
  The document's Add, Mul and Way by contract.
-/
import Derived.Test.YtkagkfgnnhdofaaDoorDlMath
namespace Go.Proofs.YtkagkfgnnhdofaaDoor
open Go.RowKit

theorem dlradd_any (a b : Int) (ha : Rng a) (hb : Rng b) (w : World) : Calls Tryd.prog 11 #[.int .i64 a, .int .i64 b] w fun e w' => ∃ s k, e = .returned (.tuple #[.int .i64 s, .int .i64 k]) ∧ SumV a b s k ∧ w = w' := by
  obtain ⟨a0, a1⟩ := ha
  obtain ⟨b0, b1⟩ := hb
  by_cases h0 : 0 < b
  · have q0 : decide (0 < b) = true := decide_eq_true h0
    have q1 : decide (b < 0) = false := decide_eq_false (by omega)
    by_cases h1 : 9223372036854775807 - b < a
    · have q2 : decide (9223372036854775807 - b < a) = true := decide_eq_true h1
      have H := Lib.hid (show ¬ Rng (a + b) by omega)
      clear h1
      go_enter Tryd.func11, Tryd.ntmps11
      go_wp2_with fail
      go_ret2
      exact ⟨0, 6, rfl, .inr ⟨rfl, rfl, H.out⟩, rfl⟩
    · have q2 : decide (9223372036854775807 - b < a) = false := decide_eq_false h1
      have H := Lib.hid (show Rng (a + b) by omega)
      have h2 : a + b ≤ 9223372036854775807 := by omega
      have h3 : -9223372036854775808 ≤ a + b := by omega
      clear h1
      go_enter Tryd.func11, Tryd.ntmps11
      go_wp2_with fail
      go_ret2
      exact ⟨_, 0, rfl, .inl ⟨rfl, rfl, H.out⟩, rfl⟩
  · have q0 : decide (0 < b) = false := decide_eq_false h0
    by_cases hn : b < 0
    · have q1 : decide (b < 0) = true := decide_eq_true hn
      by_cases h1 : a < -9223372036854775808 - b
      · have q2 : decide (a < -9223372036854775808 - b) = true := decide_eq_true h1
        have H := Lib.hid (show ¬ Rng (a + b) by omega)
        clear h1
        go_enter Tryd.func11, Tryd.ntmps11
        go_wp2_with fail
        go_ret2
        exact ⟨0, 6, rfl, .inr ⟨rfl, rfl, H.out⟩, rfl⟩
      · have q2 : decide (a < -9223372036854775808 - b) = false := decide_eq_false h1
        have H := Lib.hid (show Rng (a + b) by omega)
        have h2 : a + b ≤ 9223372036854775807 := by omega
        have h3 : -9223372036854775808 ≤ a + b := by omega
        clear h1
        go_enter Tryd.func11, Tryd.ntmps11
        go_wp2_with fail
        go_ret2
        exact ⟨_, 0, rfl, .inl ⟨rfl, rfl, H.out⟩, rfl⟩
    · have q1 : decide (b < 0) = false := decide_eq_false hn
      have H := Lib.hid (show Rng (a + b) by omega)
      have h2 : a + b ≤ 9223372036854775807 := by omega
      have h3 : -9223372036854775808 ≤ a + b := by omega
      go_enter Tryd.func11, Tryd.ntmps11
      go_wp2_with fail
      go_ret2
      exact ⟨_, 0, rfl, .inl ⟨rfl, rfl, H.out⟩, rfl⟩
theorem dlrway_any (a b : Int) (ha : Rng a) (w : World) : Calls Tryd.prog 15 #[.int .i64 a, .int .i64 b] w fun e w' => ∃ s k, e = .returned (.tuple #[.int .i64 s, .int .i64 k]) ∧ WayV a b s k ∧ w = w' := by
  obtain ⟨a0, a1⟩ := ha
  go_enter Tryd.func15, Tryd.ntmps15
  by_cases h1 : a < 0
  · have q0 : decide (a < 0) = true := decide_eq_true h1
    have H := Lib.hid (show ¬ (0 ≤ a ∧ 1 ≤ b) by omega)
    clear h1
    go_wp2_with fail
    go_ret2
    exact ⟨0, 1, rfl, .inr ⟨rfl, rfl, H.out⟩, rfl⟩
  · have q0 : decide (a < 0) = false := decide_eq_false h1
    by_cases h2 : b < 1
    · have q1 : decide (b < 1) = true := decide_eq_true h2
      have H := Lib.hid (show ¬ (0 ≤ a ∧ 1 ≤ b) by omega)
      clear h1 h2
      go_wp2_with fail
      go_ret2
      exact ⟨0, 1, rfl, .inr ⟨rfl, rfl, H.out⟩, rfl⟩
    · have q1 : decide (b < 1) = false := decide_eq_false h2
      have H := Lib.hid (show 0 ≤ a ∧ 1 ≤ b by omega)
      have h3 : 0 ≤ a := by omega
      have h4 : 1 ≤ b := by omega
      clear h1 h2
      go_wp2_with fail
      go_ret2
      exact ⟨_, 0, rfl, .inl ⟨rfl, rfl, H.out⟩, rfl⟩
theorem dlrway_yes (a b : Int) (ha : Rng a) (h : 0 ≤ a ∧ 1 ≤ b) (w : World) : Calls Tryd.prog 15 #[.int .i64 a, .int .i64 b] w fun e w' => e = .returned (.tuple #[.int .i64 (a / b), .int .i64 0]) ∧ w = w' :=
  (dlrway_any a b ha w).mono fun e w' ⟨s, k, he, hv, hw⟩ => by
    rcases hv with ⟨rfl, rfl, _⟩ | ⟨_, _, hn⟩
    · exact ⟨he, hw⟩
    · exact absurd h hn
theorem dlrway_no (a b : Int) (ha : Rng a) (h : ¬ (0 ≤ a ∧ 1 ≤ b)) (w : World) : Calls Tryd.prog 15 #[.int .i64 a, .int .i64 b] w fun e w' => e = .returned (.tuple #[.int .i64 0, .int .i64 1]) ∧ w = w' :=
  (dlrway_any a b ha w).mono fun e w' ⟨s, k, he, hv, hw⟩ => by
    rcases hv with ⟨_, _, hy⟩ | ⟨rfl, rfl, _⟩
    · exact absurd hy h
    · exact ⟨he, hw⟩
theorem dlrmul_yes (a b : Int) (ha : Rng a) (h : Rng (a * b)) (w : World) : Calls Tryd.prog 13 #[.int .i64 a, .int .i64 b] w fun e w' => e = .returned (.tuple #[.int .i64 (a * b), .int .i64 0]) ∧ w = w' := by
  by_cases hz : a = 0
  · subst hz
    rw [Int.zero_mul]
    clear h ha
    go_enter Tryd.func13, Tryd.ntmps13
    go_wp2_with fail
    go_ret2
    exact ⟨rfl, rfl⟩
  · by_cases hy : b = 0
    · subst hy
      rw [Int.mul_zero]
      clear h ha
      go_enter Tryd.func13, Tryd.ntmps13
      go_wp2_with fail
      go_ret2
      exact ⟨rfl, rfl⟩
    · by_cases hb1 : a = -1 ∧ b = -1
      · obtain ⟨rfl, rfl⟩ := hb1
        clear h ha
        go_enter Tryd.func13, Tryd.ntmps13
        go_wp2_with fail
        go_ret2
        exact ⟨rfl, rfl⟩
      by_cases hz1 : a = -1
      · subst hz1
        have hy1 : b ≠ -1 := by omega
        have hzy : ¬ ((-1 : Int) = 0 ∨ b = 0) := by omega
        have h0 : b ≠ -9223372036854775808 := by omega
        have h1 : -9223372036854775807 ≤ b := by omega
        have h2 : b ≤ 9223372036854775808 := by omega
        have q := quo_yes (a := b) (b := -1) hy ha (by rw [Int.mul_comm]; exact h)
        rw [show b * -1 = -b by omega] at q
        rw [show -1 * b = -b by omega] at h ⊢
        rw [IntWalk.wrap64_in _ h] at q
        clear ha
        go_enter Tryd.func13, Tryd.ntmps13
        go_wp2_with fail
        go_ret2
        exact ⟨rfl, rfl⟩
      · by_cases hy1 : b = -1
        · subst hy1
          have h0 : a ≠ -9223372036854775808 := by omega
          have hzy : ¬ (a = 0 ∨ (-1 : Int) = 0) := by omega
          have h1 : -9223372036854775807 ≤ a := by omega
          have h2 : a ≤ 9223372036854775807 := by omega
          rw [show a * -1 = -a by omega]
          clear ha h
          go_enter Tryd.func13, Tryd.ntmps13
          go_wp2_with fail
          go_ret2
          exact ⟨rfl, rfl⟩
        · have e0 : (a == 0) = false := by simp [hz]
          have e1 : (b == 0) = false := by simp [hy]
          have q := quo_yes (a := b) (b := a) hy ha (by rw [Int.mul_comm]; exact h)
          rw [Int.mul_comm, IntWalk.wrap64_in _ h] at q
          obtain ⟨p, hp⟩ : ∃ p, p = a * b := ⟨_, rfl⟩
          rw [← hp] at q h ⊢
          have e : wrap64 (a * b) = p := by rw [← hp]; exact IntWalk.wrap64_in _ h
          clear ha h hp
          go_enter Tryd.func13, Tryd.ntmps13
          go_wp2_with fail
          go_ret2
          exact ⟨rfl, rfl⟩
theorem dlrmul_no (a b : Int) (ha : Rng a) (hb : Rng b) (h : ¬ Rng (a * b)) (w : World) : Calls Tryd.prog 13 #[.int .i64 a, .int .i64 b] w fun e w' => e = .returned (.tuple #[.int .i64 0, .int .i64 6]) ∧ w = w' := by
  have hz : a ≠ 0 := by
    intro e
    subst e
    rw [Int.zero_mul] at h
    exact h (by decide)
  have hy : b ≠ 0 := by
    intro e
    subst e
    rw [Int.mul_zero] at h
    exact h (by decide)
  by_cases hz1 : a = -1
  · subst hz1
    obtain rfl := neg_far hb h
    clear ha hb h hz hy
    go_enter Tryd.func13, Tryd.ntmps13
    go_wp2_with fail
    go_ret2
    exact ⟨rfl, rfl⟩
  · by_cases hy1 : b = -1
    · subst hy1
      obtain rfl := neg_far ha (by rw [Int.mul_comm]; exact h)
      clear ha hb h hz hy
      go_enter Tryd.func13, Tryd.ntmps13
      go_wp2_with fail
      go_ret2
      exact ⟨rfl, rfl⟩
    · have e0 : (a == 0) = false := by simp [hz]
      have e1 : (b == 0) = false := by simp [hy]
      have q := quo_no (a := b) (b := a) hb hy hy1 (by rw [Int.mul_comm]; exact h)
      rw [Int.mul_comm] at q
      clear ha hb h
      go_enter Tryd.func13, Tryd.ntmps13
      go_wp2_with fail
      go_ret2
      exact ⟨rfl, rfl⟩
theorem dlrmul_any (a b : Int) (ha : Rng a) (hb : Rng b) (w : World) : Calls Tryd.prog 13 #[.int .i64 a, .int .i64 b] w fun e w' => ∃ s k, e = .returned (.tuple #[.int .i64 s, .int .i64 k]) ∧ MulV a b s k ∧ w = w' := by
  by_cases h : Rng (a * b)
  · exact (dlrmul_yes a b ha h w).mono fun e w' ⟨he, hw⟩ => ⟨_, 0, he, .inl ⟨rfl, rfl, h⟩, hw⟩
  · exact (dlrmul_no a b ha hb h w).mono fun e w' ⟨he, hw⟩ => ⟨_, 6, he, .inr ⟨rfl, rfl, h⟩, hw⟩
end Go.Proofs.YtkagkfgnnhdofaaDoor

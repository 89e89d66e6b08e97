/-
  delay's Add, Mul and Way by contract, and the document's.
-/
import Derived.Test.YtkagkfgnnhdofaaDoorDlMath
import Derived.Test.YtkagkfgnnhdofaaDoorErrs
namespace Go.Proofs.YtkagkfgnnhdofaaDoor
open Go.RowKit

theorem dladd_yes (a b : Int) (ha : Rng a) (hb : Rng b) (h : Rng (a + b)) (w : World) : Calls Tryd.prog 10 #[.int .i64 a, .int .i64 b] w fun e w' => e = .returned (.tuple #[.int .i64 (a + b), .nilIface]) ∧ w = w' := by
  obtain ⟨a0, a1⟩ := ha
  obtain ⟨b0, b1⟩ := hb
  obtain ⟨h0, h1⟩ := h
  have q : ((decide (a + b < a)) == (decide (b < 0))) = true := by
    by_cases hb : b < 0
    · rw [decide_eq_true hb, decide_eq_true (by omega)]; rfl
    · rw [decide_eq_false hb, decide_eq_false (by omega)]; rfl
  go_enter Tryd.func10, Tryd.ntmps10
  go_wp2_with fail
  go_ret2
  exact ⟨rfl, rfl⟩
theorem dladd_no (a b : Int) (ha : Rng a) (hb : Rng b) (h : ¬ Rng (a + b)) (w : World) : Calls Tryd.prog 10 #[.int .i64 a, .int .i64 b] w fun e w' => ∃ r, e = .returned (.tuple #[.int .i64 0, r]) ∧ ErrV w' r 6 ∧ Below w.heap.size w w' := by
  obtain ⟨a0, a1⟩ := ha
  obtain ⟨b0, b1⟩ := hb
  have q : ((decide (wrap64 (a + b) < a)) == (decide (b < 0))) = false := by
    unfold wrap64
    by_cases hb : b < 0
    · rw [decide_eq_true hb, decide_eq_false (by omega)]; rfl
    · rw [decide_eq_false hb, decide_eq_true (by omega)]; rfl
  go_enter Tryd.func10, Tryd.ntmps10
  go_wp2_with fail
  (with_reducible refine (new_form 6 (by decide) _ _).mono ?_)
  rintro e w1 ⟨x, hx, rfl, hc, hb⟩
  go_wp2_with fail
  go_ret2
  exact ⟨_, rfl, .inr ⟨x, by decide, rfl, hc⟩, hb⟩
theorem dlway_yes (a b : Int) (ha : Rng a) (h : 0 ≤ a ∧ 1 ≤ b) (w : World) : Calls Tryd.prog 14 #[.int .i64 a, .int .i64 b] w fun e w' => e = .returned (.tuple #[.int .i64 (a / b), .nilIface]) ∧ w = w' := by
  obtain ⟨a0, a1⟩ := ha
  obtain ⟨h0, h1⟩ := h
  have q0 : decide (a < 0) = false := decide_eq_false (by omega)
  have q1 : decide (b < 1) = false := decide_eq_false (by omega)
  go_enter Tryd.func14, Tryd.ntmps14
  go_wp2_with fail
  go_ret2
  exact ⟨rfl, rfl⟩
theorem dlway_no (a b : Int) (h : ¬ (0 ≤ a ∧ 1 ≤ b)) (w : World) : Calls Tryd.prog 14 #[.int .i64 a, .int .i64 b] w fun e w' => ∃ r, e = .returned (.tuple #[.int .i64 0, r]) ∧ ErrV w' r 1 ∧ Below w.heap.size w w' := by
  go_enter Tryd.func14, Tryd.ntmps14
  by_cases h1 : a < 0
  · have q0 : decide (a < 0) = true := decide_eq_true h1
    clear h h1
    go_wp2_with fail
    (with_reducible refine (new_form 1 (by decide) _ _).mono ?_)
    rintro e w1 ⟨x, hx, rfl, hc, hb⟩
    go_wp2_with fail
    go_ret2
    exact ⟨_, rfl, .inr ⟨x, by decide, rfl, hc⟩, hb⟩
  · have q0 : decide (a < 0) = false := decide_eq_false h1
    have q1 : decide (b < 1) = true := decide_eq_true (by omega)
    clear h h1
    go_wp2_with fail
    (with_reducible refine (new_form 1 (by decide) _ _).mono ?_)
    rintro e w1 ⟨x, hx, rfl, hc, hb⟩
    go_wp2_with fail
    go_ret2
    exact ⟨_, rfl, .inr ⟨x, by decide, rfl, hc⟩, hb⟩
theorem dlmul_yes (a b : Int) (hb : Rng b) (h : Rng (a * b)) (w : World) : Calls Tryd.prog 12 #[.int .i64 a, .int .i64 b] w fun e w' => e = .returned (.tuple #[.int .i64 (a * b), .nilIface]) ∧ w = w' := by
  by_cases hz : a = 0
  · subst hz
    rw [Int.zero_mul]
    clear h
    go_enter Tryd.func12, Tryd.ntmps12
    go_wp2_with fail
    go_ret2
    exact ⟨rfl, rfl⟩
  · by_cases hz1 : a = -1
    · subst hz1
      have h0 : -9223372036854775807 ≤ b := by omega
      have h1 : b ≤ 9223372036854775807 := hb.2
      rw [show -1 * b = -b by omega]
      clear h hb
      go_enter Tryd.func12, Tryd.ntmps12
      go_wp2_with fail
      go_ret2
      exact ⟨rfl, rfl⟩
    · have q := quo_yes hz hb h
      rw [IntWalk.wrap64_in _ h] at q
      obtain ⟨p, hp⟩ : ∃ p, p = a * b := ⟨_, rfl⟩
      rw [← hp] at q h ⊢
      have e : wrap64 (a * b) = p := by rw [← hp]; exact IntWalk.wrap64_in _ h
      clear hb h hp
      go_enter Tryd.func12, Tryd.ntmps12
      go_wp2_with fail
      go_ret2
      exact ⟨rfl, rfl⟩
theorem dlmul_no (a b : Int) (ha : Rng a) (hb : Rng b) (h : ¬ Rng (a * b)) (w : World) : Calls Tryd.prog 12 #[.int .i64 a, .int .i64 b] w fun e w' => ∃ r, e = .returned (.tuple #[.int .i64 0, r]) ∧ ErrV w' r 6 ∧ Below w.heap.size w w' := by
  have hz : a ≠ 0 := by
    intro e
    subst e
    rw [Int.zero_mul] at h
    exact h (by decide)
  by_cases hz1 : a = -1
  · subst hz1
    obtain rfl := neg_far hb h
    have q : wrap64 (-wrap64 9223372036854775808) = -9223372036854775808 := by unfold wrap64; omega
    clear ha hb h hz
    go_enter Tryd.func12, Tryd.ntmps12
    go_wp2_with fail
    (with_reducible refine (new_form 6 (by decide) _ _).mono ?_)
    rintro e w1 ⟨x, hx, rfl, hc, hb⟩
    go_wp2_with fail
    go_ret2
    exact ⟨_, rfl, .inr ⟨x, by decide, rfl, hc⟩, hb⟩
  · have q := quo_no ha hz hz1 h
    clear ha hb h
    go_enter Tryd.func12, Tryd.ntmps12
    go_wp2_with fail
    (with_reducible refine (new_form 6 (by decide) _ _).mono ?_)
    rintro e w1 ⟨x, hx, rfl, hc, hb⟩
    go_wp2_with fail
    go_ret2
    exact ⟨_, rfl, .inr ⟨x, by decide, rfl, hc⟩, hb⟩

/-! All at once. -/
theorem dladd_any (a b : Int) (ha : Rng a) (hb : Rng b) (w : World) : Calls Tryd.prog 10 #[.int .i64 a, .int .i64 b] w fun e w' => ∃ s k r, e = .returned (.tuple #[.int .i64 s, r]) ∧ SumV a b s k ∧ ErrV w' r k ∧ Below w.heap.size w w' := by
  by_cases h : Rng (a + b)
  · exact (dladd_yes a b ha hb h w).mono fun e w' ⟨he, hw⟩ => ⟨_, 0, _, he, .inl ⟨rfl, rfl, h⟩, .inl ⟨rfl, rfl⟩, by rw [hw]; exact Below.refl _ _⟩
  · exact (dladd_no a b ha hb h w).mono fun e w' ⟨r, he, hr, hb⟩ => ⟨_, 6, _, he, .inr ⟨rfl, rfl, h⟩, hr, hb⟩
theorem dlmul_any (a b : Int) (ha : Rng a) (hb : Rng b) (w : World) : Calls Tryd.prog 12 #[.int .i64 a, .int .i64 b] w fun e w' => ∃ s k r, e = .returned (.tuple #[.int .i64 s, r]) ∧ MulV a b s k ∧ ErrV w' r k ∧ Below w.heap.size w w' := by
  by_cases h : Rng (a * b)
  · exact (dlmul_yes a b hb h w).mono fun e w' ⟨he, hw⟩ => ⟨_, 0, _, he, .inl ⟨rfl, rfl, h⟩, .inl ⟨rfl, rfl⟩, by rw [hw]; exact Below.refl _ _⟩
  · exact (dlmul_no a b ha hb h w).mono fun e w' ⟨r, he, hr, hb⟩ => ⟨_, 6, _, he, .inr ⟨rfl, rfl, h⟩, hr, hb⟩
theorem dlway_any (a b : Int) (ha : Rng a) (w : World) : Calls Tryd.prog 14 #[.int .i64 a, .int .i64 b] w fun e w' => ∃ s k r, e = .returned (.tuple #[.int .i64 s, r]) ∧ WayV a b s k ∧ ErrV w' r k ∧ Below w.heap.size w w' := by
  by_cases h : 0 ≤ a ∧ 1 ≤ b
  · exact (dlway_yes a b ha h w).mono fun e w' ⟨he, hw⟩ => ⟨_, 0, _, he, .inl ⟨rfl, rfl, h⟩, .inl ⟨rfl, rfl⟩, by rw [hw]; exact Below.refl _ _⟩
  · exact (dlway_no a b h w).mono fun e w' ⟨r, he, hr, hb⟩ => ⟨_, 1, _, he, .inr ⟨rfl, rfl, h⟩, hr, hb⟩
end Go.Proofs.YtkagkfgnnhdofaaDoor

/-
  The walk of crossbucklaw09.DelaySums: true, whatever it is given.
-/
import Derived.Test.YtkagkfgnnhdofaaDoorSmall
namespace Go.Proofs.YtkagkfgnnhdofaaDoor
open Go.RowKit

set_option maxHeartbeats 4000000 in
set_option maxRecDepth 10000 in
theorem sumsA (a b : Int) (w : World) (ha : Rng a) (hb : Rng b) (hc : Rng (a + b) ∧ b < 0) : Calls Tryd.prog 7 #[.int .i64 a, .int .i64 b] w fun e w' => e = .returned (.bool true) ∧ Below w.heap.size w w' := by
  have H1 := Lib.hid (fun w => dladd_any a b ha hb w)
  have H2 := Lib.hid (fun w => dlmul_any a b ha hb w)
  have H3 := Lib.hid (fun w => dladd_any b a hb ha w)
  have H4 := Lib.hid (fun w => dlmul_any b a hb ha w)
  have HAR := Lib.hid ha
  have HBR := Lib.hid hb
  have HC := Lib.hid hc
  clear ha hb hc
  go_enter Tryd.func7, Tryd.ntmps7
  dsimp only [List.append]
  go_wp2_with fail
  (with_reducible refine (small_true _).mono ?_)
  rintro e w1 ⟨rfl, hb⟩
  have HB1 := Lib.hid hb
  clear hb
  go_wp2_with fail
  (with_reducible refine (H1.out _).mono ?_)
  rintro e w2 ⟨s, k, r, rfl, hv, he, hb⟩
  have HS := Lib.hid hv
  have HE2 := Lib.hid he
  have HB2 := Lib.hid (below_call HB1.out hb)
  clear hv he hb HB1
  go_wp2_with fail
  (with_reducible refine (H2.out _).mono ?_)
  rintro e w3 ⟨p, m, r3, rfl, hv, he, hb⟩
  have HM := Lib.hid hv
  have HF3 := Lib.hid he
  have HE3 := Lib.hid (HE2.out.below hb)
  have HB3 := Lib.hid (below_call HB2.out hb)
  clear hv he hb HB2 HE2
  go_wp2_with fail
  (with_reducible refine (H3.out _).mono ?_)
  rintro e w4 ⟨s', k', r4, rfl, hv, he, hb⟩
  obtain ⟨rfl, rfl⟩ := HS.out.same hv.comm
  have HG4 := Lib.hid he
  have HF4 := Lib.hid (HF3.out.below hb)
  have HE4 := Lib.hid (HE3.out.below hb)
  have HB4 := Lib.hid (below_call HB3.out hb)
  clear hv he hb HB3 HE3 HF3
  go_wp2_with fail
  (with_reducible refine (H4.out _).mono ?_)
  rintro e w5 ⟨p', m', r5, rfl, hv, he, hb⟩
  obtain ⟨rfl, rfl⟩ := HM.out.same hv.comm
  have HH5 := Lib.hid he
  have HG5 := Lib.hid (HG4.out.below hb)
  have HF5 := Lib.hid (HF4.out.below hb)
  have HE5 := Lib.hid (HE4.out.below hb)
  have HB5 := Lib.hid (below_call HB4.out hb)
  clear hv he hb HB4 HE4 HF4 HG4 H1 H2 H3 H4
  go_wp2_with fail
  (with_reducible refine (code_err HE5.out).mono ?_)
  rintro e w10 ⟨rfl, rfl⟩
  go_wp2_with fail
  (with_reducible refine (code_err HG5.out).mono ?_)
  rintro e w10 ⟨rfl, rfl⟩
  go_wp2_with fail
  (with_reducible refine (code_err HF5.out).mono ?_)
  rintro e w10 ⟨rfl, rfl⟩
  go_wp2_with fail
  (with_reducible refine (code_err HH5.out).mono ?_)
  rintro e w10 ⟨rfl, rfl⟩
  obtain ⟨a0, a1⟩ := HAR.out
  obtain ⟨b0, b1⟩ := HBR.out
  rcases HS.out with ⟨rfl, rfl, hs⟩ | ⟨_, _, hs⟩
  rotate_left
  · exact absurd HC.out.1 hs
  obtain rfl := HE5.out.nil
  obtain ⟨hs0, hs1⟩ := hs
  have hbb := HC.out.2
  have y1 : decide (b < 0) = true := decide_eq_true (by omega)
  have y2 : decide (0 < b) = false := decide_eq_false (by omega)
  have y3 : decide (a ≤ a + b) = false := decide_eq_false (by omega)
  have y4 : decide (a + b ≤ a) = true := decide_eq_true (by omega)
  clear HS hbb HC
  rcases HM.out with ⟨hp, rfl, hm⟩ | ⟨rfl, rfl, hm⟩
  · obtain rfl := HF5.out.nil
    by_cases hz : a = 0
    · have z1 : (a == 0) = true := by simp [hz]
      have z2 : (a != 0) = false := by simp [hz]
      obtain rfl : p' = 0 := by rw [hp, hz, Int.zero_mul]
      clear hp hm hz HM
      go_wp2_with fail
      go_ret
      exact ⟨rfl, HB5.out⟩
    · have z1 : (a == 0) = false := by simp [hz]
      have z2 : (a != 0) = true := by simp [hz]
      have q := quo_yes hz HBR.out hm
      rw [← hp] at q hm
      rw [IntWalk.wrap64_in _ hm] at q
      have q2 : p'.tmod a = 0 := by rw [hp]; exact Int.mul_tmod_right a b
      clear hp hm HM
      go_wp2_with fail
      go_ret
      exact ⟨rfl, HB5.out⟩
  · obtain ⟨gf, rfl, hgf⟩ := HF5.out.not (by decide)
    have hz : a ≠ 0 := by
      intro e
      rw [e, Int.zero_mul] at hm
      exact hm (by decide)
    have hy : b ≠ 0 := by
      intro e
      rw [e, Int.mul_zero] at hm
      exact hm (by decide)
    have z1 : (a == 0) = false := by simp [hz]
    have z2 : (a != 0) = true := by simp [hz]
    have z3 : (b != 0) = true := by simp [hy]
    clear hm HM hz hy
    go_wp2_with fail
    go_ret
    exact ⟨rfl, HB5.out⟩

set_option maxHeartbeats 4000000 in
set_option maxRecDepth 10000 in
theorem sumsB (a b : Int) (w : World) (ha : Rng a) (hb : Rng b) (hc : Rng (a + b) ∧ 0 < b) : Calls Tryd.prog 7 #[.int .i64 a, .int .i64 b] w fun e w' => e = .returned (.bool true) ∧ Below w.heap.size w w' := by
  have H1 := Lib.hid (fun w => dladd_any a b ha hb w)
  have H2 := Lib.hid (fun w => dlmul_any a b ha hb w)
  have H3 := Lib.hid (fun w => dladd_any b a hb ha w)
  have H4 := Lib.hid (fun w => dlmul_any b a hb ha w)
  have HAR := Lib.hid ha
  have HBR := Lib.hid hb
  have HC := Lib.hid hc
  clear ha hb hc
  go_enter Tryd.func7, Tryd.ntmps7
  dsimp only [List.append]
  go_wp2_with fail
  (with_reducible refine (small_true _).mono ?_)
  rintro e w1 ⟨rfl, hb⟩
  have HB1 := Lib.hid hb
  clear hb
  go_wp2_with fail
  (with_reducible refine (H1.out _).mono ?_)
  rintro e w2 ⟨s, k, r, rfl, hv, he, hb⟩
  have HS := Lib.hid hv
  have HE2 := Lib.hid he
  have HB2 := Lib.hid (below_call HB1.out hb)
  clear hv he hb HB1
  go_wp2_with fail
  (with_reducible refine (H2.out _).mono ?_)
  rintro e w3 ⟨p, m, r3, rfl, hv, he, hb⟩
  have HM := Lib.hid hv
  have HF3 := Lib.hid he
  have HE3 := Lib.hid (HE2.out.below hb)
  have HB3 := Lib.hid (below_call HB2.out hb)
  clear hv he hb HB2 HE2
  go_wp2_with fail
  (with_reducible refine (H3.out _).mono ?_)
  rintro e w4 ⟨s', k', r4, rfl, hv, he, hb⟩
  obtain ⟨rfl, rfl⟩ := HS.out.same hv.comm
  have HG4 := Lib.hid he
  have HF4 := Lib.hid (HF3.out.below hb)
  have HE4 := Lib.hid (HE3.out.below hb)
  have HB4 := Lib.hid (below_call HB3.out hb)
  clear hv he hb HB3 HE3 HF3
  go_wp2_with fail
  (with_reducible refine (H4.out _).mono ?_)
  rintro e w5 ⟨p', m', r5, rfl, hv, he, hb⟩
  obtain ⟨rfl, rfl⟩ := HM.out.same hv.comm
  have HH5 := Lib.hid he
  have HG5 := Lib.hid (HG4.out.below hb)
  have HF5 := Lib.hid (HF4.out.below hb)
  have HE5 := Lib.hid (HE4.out.below hb)
  have HB5 := Lib.hid (below_call HB4.out hb)
  clear hv he hb HB4 HE4 HF4 HG4 H1 H2 H3 H4
  go_wp2_with fail
  (with_reducible refine (code_err HE5.out).mono ?_)
  rintro e w10 ⟨rfl, rfl⟩
  go_wp2_with fail
  (with_reducible refine (code_err HG5.out).mono ?_)
  rintro e w10 ⟨rfl, rfl⟩
  go_wp2_with fail
  (with_reducible refine (code_err HF5.out).mono ?_)
  rintro e w10 ⟨rfl, rfl⟩
  go_wp2_with fail
  (with_reducible refine (code_err HH5.out).mono ?_)
  rintro e w10 ⟨rfl, rfl⟩
  obtain ⟨a0, a1⟩ := HAR.out
  obtain ⟨b0, b1⟩ := HBR.out
  rcases HS.out with ⟨rfl, rfl, hs⟩ | ⟨_, _, hs⟩
  rotate_left
  · exact absurd HC.out.1 hs
  obtain rfl := HE5.out.nil
  obtain ⟨hs0, hs1⟩ := hs
  have hbb := HC.out.2
  have y1 : decide (b < 0) = false := decide_eq_false (by omega)
  have y2 : decide (0 < b) = true := decide_eq_true (by omega)
  have y3 : decide (a ≤ a + b) = true := decide_eq_true (by omega)
  have y4 : decide (a + b ≤ a) = false := decide_eq_false (by omega)
  clear HS hbb HC
  rcases HM.out with ⟨hp, rfl, hm⟩ | ⟨rfl, rfl, hm⟩
  · obtain rfl := HF5.out.nil
    by_cases hz : a = 0
    · have z1 : (a == 0) = true := by simp [hz]
      have z2 : (a != 0) = false := by simp [hz]
      obtain rfl : p' = 0 := by rw [hp, hz, Int.zero_mul]
      clear hp hm hz HM
      go_wp2_with fail
      go_ret
      exact ⟨rfl, HB5.out⟩
    · have z1 : (a == 0) = false := by simp [hz]
      have z2 : (a != 0) = true := by simp [hz]
      have q := quo_yes hz HBR.out hm
      rw [← hp] at q hm
      rw [IntWalk.wrap64_in _ hm] at q
      have q2 : p'.tmod a = 0 := by rw [hp]; exact Int.mul_tmod_right a b
      clear hp hm HM
      go_wp2_with fail
      go_ret
      exact ⟨rfl, HB5.out⟩
  · obtain ⟨gf, rfl, hgf⟩ := HF5.out.not (by decide)
    have hz : a ≠ 0 := by
      intro e
      rw [e, Int.zero_mul] at hm
      exact hm (by decide)
    have hy : b ≠ 0 := by
      intro e
      rw [e, Int.mul_zero] at hm
      exact hm (by decide)
    have z1 : (a == 0) = false := by simp [hz]
    have z2 : (a != 0) = true := by simp [hz]
    have z3 : (b != 0) = true := by simp [hy]
    clear hm HM hz hy
    go_wp2_with fail
    go_ret
    exact ⟨rfl, HB5.out⟩

set_option maxHeartbeats 4000000 in
set_option maxRecDepth 10000 in
theorem sumsC (a b : Int) (w : World) (ha : Rng a) (hb : Rng b) (hc : Rng (a + b) ∧ b = 0) : Calls Tryd.prog 7 #[.int .i64 a, .int .i64 b] w fun e w' => e = .returned (.bool true) ∧ Below w.heap.size w w' := by
  have H1 := Lib.hid (fun w => dladd_any a b ha hb w)
  have H2 := Lib.hid (fun w => dlmul_any a b ha hb w)
  have H3 := Lib.hid (fun w => dladd_any b a hb ha w)
  have H4 := Lib.hid (fun w => dlmul_any b a hb ha w)
  have HAR := Lib.hid ha
  have HBR := Lib.hid hb
  have HC := Lib.hid hc
  clear ha hb hc
  go_enter Tryd.func7, Tryd.ntmps7
  dsimp only [List.append]
  go_wp2_with fail
  (with_reducible refine (small_true _).mono ?_)
  rintro e w1 ⟨rfl, hb⟩
  have HB1 := Lib.hid hb
  clear hb
  go_wp2_with fail
  (with_reducible refine (H1.out _).mono ?_)
  rintro e w2 ⟨s, k, r, rfl, hv, he, hb⟩
  have HS := Lib.hid hv
  have HE2 := Lib.hid he
  have HB2 := Lib.hid (below_call HB1.out hb)
  clear hv he hb HB1
  go_wp2_with fail
  (with_reducible refine (H2.out _).mono ?_)
  rintro e w3 ⟨p, m, r3, rfl, hv, he, hb⟩
  have HM := Lib.hid hv
  have HF3 := Lib.hid he
  have HE3 := Lib.hid (HE2.out.below hb)
  have HB3 := Lib.hid (below_call HB2.out hb)
  clear hv he hb HB2 HE2
  go_wp2_with fail
  (with_reducible refine (H3.out _).mono ?_)
  rintro e w4 ⟨s', k', r4, rfl, hv, he, hb⟩
  obtain ⟨rfl, rfl⟩ := HS.out.same hv.comm
  have HG4 := Lib.hid he
  have HF4 := Lib.hid (HF3.out.below hb)
  have HE4 := Lib.hid (HE3.out.below hb)
  have HB4 := Lib.hid (below_call HB3.out hb)
  clear hv he hb HB3 HE3 HF3
  go_wp2_with fail
  (with_reducible refine (H4.out _).mono ?_)
  rintro e w5 ⟨p', m', r5, rfl, hv, he, hb⟩
  obtain ⟨rfl, rfl⟩ := HM.out.same hv.comm
  have HH5 := Lib.hid he
  have HG5 := Lib.hid (HG4.out.below hb)
  have HF5 := Lib.hid (HF4.out.below hb)
  have HE5 := Lib.hid (HE4.out.below hb)
  have HB5 := Lib.hid (below_call HB4.out hb)
  clear hv he hb HB4 HE4 HF4 HG4 H1 H2 H3 H4
  go_wp2_with fail
  (with_reducible refine (code_err HE5.out).mono ?_)
  rintro e w10 ⟨rfl, rfl⟩
  go_wp2_with fail
  (with_reducible refine (code_err HG5.out).mono ?_)
  rintro e w10 ⟨rfl, rfl⟩
  go_wp2_with fail
  (with_reducible refine (code_err HF5.out).mono ?_)
  rintro e w10 ⟨rfl, rfl⟩
  go_wp2_with fail
  (with_reducible refine (code_err HH5.out).mono ?_)
  rintro e w10 ⟨rfl, rfl⟩
  obtain ⟨a0, a1⟩ := HAR.out
  obtain ⟨b0, b1⟩ := HBR.out
  rcases HS.out with ⟨rfl, rfl, hs⟩ | ⟨_, _, hs⟩
  rotate_left
  · exact absurd HC.out.1 hs
  obtain rfl := HE5.out.nil
  obtain ⟨hs0, hs1⟩ := hs
  have hbb := HC.out.2
  have y1 : decide (b < 0) = false := decide_eq_false (by omega)
  have y2 : decide (0 < b) = false := decide_eq_false (by omega)
  have y3 : decide (a ≤ a + b) = true := decide_eq_true (by omega)
  have y4 : decide (a + b ≤ a) = true := decide_eq_true (by omega)
  clear HS hbb HC
  rcases HM.out with ⟨hp, rfl, hm⟩ | ⟨rfl, rfl, hm⟩
  · obtain rfl := HF5.out.nil
    by_cases hz : a = 0
    · have z1 : (a == 0) = true := by simp [hz]
      have z2 : (a != 0) = false := by simp [hz]
      obtain rfl : p' = 0 := by rw [hp, hz, Int.zero_mul]
      clear hp hm hz HM
      go_wp2_with fail
      go_ret
      exact ⟨rfl, HB5.out⟩
    · have z1 : (a == 0) = false := by simp [hz]
      have z2 : (a != 0) = true := by simp [hz]
      have q := quo_yes hz HBR.out hm
      rw [← hp] at q hm
      rw [IntWalk.wrap64_in _ hm] at q
      have q2 : p'.tmod a = 0 := by rw [hp]; exact Int.mul_tmod_right a b
      clear hp hm HM
      go_wp2_with fail
      go_ret
      exact ⟨rfl, HB5.out⟩
  · obtain ⟨gf, rfl, hgf⟩ := HF5.out.not (by decide)
    have hz : a ≠ 0 := by
      intro e
      rw [e, Int.zero_mul] at hm
      exact hm (by decide)
    have hy : b ≠ 0 := by
      intro e
      rw [e, Int.mul_zero] at hm
      exact hm (by decide)
    have z1 : (a == 0) = false := by simp [hz]
    have z2 : (a != 0) = true := by simp [hz]
    have z3 : (b != 0) = true := by simp [hy]
    clear hm HM hz hy
    go_wp2_with fail
    go_ret
    exact ⟨rfl, HB5.out⟩

set_option maxHeartbeats 4000000 in
set_option maxRecDepth 10000 in
theorem sumsD (a b : Int) (w : World) (ha : Rng a) (hb : Rng b) (hc : ¬ Rng (a + b)) : Calls Tryd.prog 7 #[.int .i64 a, .int .i64 b] w fun e w' => e = .returned (.bool true) ∧ Below w.heap.size w w' := by
  have H1 := Lib.hid (fun w => dladd_any a b ha hb w)
  have H2 := Lib.hid (fun w => dlmul_any a b ha hb w)
  have H3 := Lib.hid (fun w => dladd_any b a hb ha w)
  have H4 := Lib.hid (fun w => dlmul_any b a hb ha w)
  have HAR := Lib.hid ha
  have HBR := Lib.hid hb
  have HC := Lib.hid hc
  clear ha hb hc
  go_enter Tryd.func7, Tryd.ntmps7
  dsimp only [List.append]
  go_wp2_with fail
  (with_reducible refine (small_true _).mono ?_)
  rintro e w1 ⟨rfl, hb⟩
  have HB1 := Lib.hid hb
  clear hb
  go_wp2_with fail
  (with_reducible refine (H1.out _).mono ?_)
  rintro e w2 ⟨s, k, r, rfl, hv, he, hb⟩
  have HS := Lib.hid hv
  have HE2 := Lib.hid he
  have HB2 := Lib.hid (below_call HB1.out hb)
  clear hv he hb HB1
  go_wp2_with fail
  (with_reducible refine (H2.out _).mono ?_)
  rintro e w3 ⟨p, m, r3, rfl, hv, he, hb⟩
  have HM := Lib.hid hv
  have HF3 := Lib.hid he
  have HE3 := Lib.hid (HE2.out.below hb)
  have HB3 := Lib.hid (below_call HB2.out hb)
  clear hv he hb HB2 HE2
  go_wp2_with fail
  (with_reducible refine (H3.out _).mono ?_)
  rintro e w4 ⟨s', k', r4, rfl, hv, he, hb⟩
  obtain ⟨rfl, rfl⟩ := HS.out.same hv.comm
  have HG4 := Lib.hid he
  have HF4 := Lib.hid (HF3.out.below hb)
  have HE4 := Lib.hid (HE3.out.below hb)
  have HB4 := Lib.hid (below_call HB3.out hb)
  clear hv he hb HB3 HE3 HF3
  go_wp2_with fail
  (with_reducible refine (H4.out _).mono ?_)
  rintro e w5 ⟨p', m', r5, rfl, hv, he, hb⟩
  obtain ⟨rfl, rfl⟩ := HM.out.same hv.comm
  have HH5 := Lib.hid he
  have HG5 := Lib.hid (HG4.out.below hb)
  have HF5 := Lib.hid (HF4.out.below hb)
  have HE5 := Lib.hid (HE4.out.below hb)
  have HB5 := Lib.hid (below_call HB4.out hb)
  clear hv he hb HB4 HE4 HF4 HG4 H1 H2 H3 H4
  go_wp2_with fail
  (with_reducible refine (code_err HE5.out).mono ?_)
  rintro e w10 ⟨rfl, rfl⟩
  go_wp2_with fail
  (with_reducible refine (code_err HG5.out).mono ?_)
  rintro e w10 ⟨rfl, rfl⟩
  go_wp2_with fail
  (with_reducible refine (code_err HF5.out).mono ?_)
  rintro e w10 ⟨rfl, rfl⟩
  go_wp2_with fail
  (with_reducible refine (code_err HH5.out).mono ?_)
  rintro e w10 ⟨rfl, rfl⟩
  obtain ⟨a0, a1⟩ := HAR.out
  obtain ⟨b0, b1⟩ := HBR.out
  rcases HS.out with ⟨_, _, hs⟩ | ⟨rfl, rfl, hs⟩
  · exact absurd hs HC.out
  obtain ⟨ge, rfl, hge⟩ := HE5.out.not (by decide)
  have y5 : (decide (0 < a) == decide (0 < b)) = true := by
    by_cases hc : 0 < b
    · rw [decide_eq_true hc, decide_eq_true (by omega)]; rfl
    · rw [decide_eq_false hc, decide_eq_false (by omega)]; rfl
  clear HS hs HC
  rcases HM.out with ⟨hp, rfl, hm⟩ | ⟨rfl, rfl, hm⟩
  · obtain rfl := HF5.out.nil
    by_cases hz : a = 0
    · have z1 : (a == 0) = true := by simp [hz]
      have z2 : (a != 0) = false := by simp [hz]
      obtain rfl : p' = 0 := by rw [hp, hz, Int.zero_mul]
      clear hp hm hz HM
      go_wp2_with fail
      go_ret
      exact ⟨rfl, HB5.out⟩
    · have z1 : (a == 0) = false := by simp [hz]
      have z2 : (a != 0) = true := by simp [hz]
      have q := quo_yes hz HBR.out hm
      rw [← hp] at q hm
      rw [IntWalk.wrap64_in _ hm] at q
      have q2 : p'.tmod a = 0 := by rw [hp]; exact Int.mul_tmod_right a b
      clear hp hm HM
      go_wp2_with fail
      go_ret
      exact ⟨rfl, HB5.out⟩
  · obtain ⟨gf, rfl, hgf⟩ := HF5.out.not (by decide)
    have hz : a ≠ 0 := by
      intro e
      rw [e, Int.zero_mul] at hm
      exact hm (by decide)
    have hy : b ≠ 0 := by
      intro e
      rw [e, Int.mul_zero] at hm
      exact hm (by decide)
    have z1 : (a == 0) = false := by simp [hz]
    have z2 : (a != 0) = true := by simp [hz]
    have z3 : (b != 0) = true := by simp [hy]
    clear hm HM hz hy
    go_wp2_with fail
    go_ret
    exact ⟨rfl, HB5.out⟩

theorem sums_any (a b : Int) (w : World) (ha : Rng a) (hb : Rng b) : Calls Tryd.prog 7 #[.int .i64 a, .int .i64 b] w fun e w' => e = .returned (.bool true) ∧ Below w.heap.size w w' := by
  by_cases h : Rng (a + b)
  · rcases Int.lt_trichotomy b 0 with h1 | h1 | h1
    · exact sumsA a b w ha hb ⟨h, h1⟩
    · exact sumsC a b w ha hb ⟨h, h1⟩
    · exact sumsB a b w ha hb ⟨h, h1⟩
  · exact sumsD a b w ha hb h
end Go.Proofs.YtkagkfgnnhdofaaDoor

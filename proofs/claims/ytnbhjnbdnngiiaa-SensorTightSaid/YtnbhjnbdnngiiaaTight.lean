/-
  The walk of crossbucklaw13.SensorTight: true.
-/
import Derived.Test.YtnbhjnbdnngiiaaSmall
namespace Go.Proofs.Ytnbhjnbdnngiiaa
open Go.RowKit

set_option maxHeartbeats 8000000 in
set_option maxRecDepth 10000 in
theorem tight_any (v : Value) (xs : List (BitVec 8)) (ok : Bool) (t : Int) (w : World) (h : Byts w v xs) : Calls Try.prog 5 #[v, .bool ok, .int .i64 t] w fun e w' => e = .returned (.bool true) ∧ Below w.heap.size w w' := by
  obtain ⟨av, cv, ev⟩ := h.len
  have HV := Lib.hid h
  clear h
  subst ev
  obtain ⟨n, hn⟩ : ∃ n, n = xs.length := ⟨_, rfl⟩
  rw [← hn] at HV ⊢
  by_cases hl : 300 < n
  · clear hn
    have hl2 : (300 : Int) < (n : Int) := by omega
    go_enter Try.func5, Try.ntmps5
    go_wp2_with fail
    (with_reducible refine (small_true _).mono ?_)
    rintro e w1 ⟨rfl, hb⟩
    have HB := Lib.hid hb
    clear hb
    go_wp2_with fail
    go_ret
    exact ⟨rfl, HB.out⟩
  have hl2 : ¬ (300 : Int) < (n : Int) := by omega
  by_cases hok : ok = true ∧ n = 1
  · obtain ⟨rfl, h1⟩ := hok
    have hl3 : ((n : Int) == 1) = true := by simp [h1]
    clear hn h1 hl
    go_enter Try.func5, Try.ntmps5
    go_wp2_with fail
    (with_reducible refine (small_true _).mono ?_)
    rintro e w1 ⟨rfl, hb⟩
    have HB := Lib.hid hb
    clear hb
    go_wp2_with fail
    go_ret
    exact ⟨rfl, HB.out⟩
  have hk : sone ok xs = -1 := by
    cases ok with
    | false => exact sone_no xs
    | true => exact sone_many (by rw [← hn]; exact fun e => hok ⟨rfl, e⟩) true
  have Hk := Lib.hid hk
  clear hk
  have Hi := Lib.hid (show barIs (-1) false false false false by unfold barIs; decide)
  obtain ⟨lt, hlt⟩ : ∃ lt, rlim t = lt := ⟨_, rfl⟩
  have Hrt := Lib.hid (show onl (-1) lt = 0 from if_neg (by omega))
  have Hlt := Lib.hid hlt
  clear hlt
  have Hp0 := Lib.hid (show bt (onl (-1) 4) 1 = false by decide)
  have Hp1 := Lib.hid (show bt (onl (-1) 4) 2 = false by decide)
  have Hlm := Lib.hid (show decide ((-1 : Int) = 1) = false by decide)
  have Hob := Lib.hid (show decide ((-1 : Int) ≠ 0) = true by decide)
  have Hmd := Lib.hid (show (if (0 : Int) ≤ -1 ∧ (-1 : Int) < 3 then -1 else 1) = (1 : Int) by decide)
  have eB := eql_bar false false false false false false false false true (by simp)
  have eC := eql_cnt false 0 0 0 0 false 0 0 0 0 true (by simp)
  cases ok with
  | false =>
    have Hc := Lib.hid (cntOf_no xs)
    clear hn hok hl
    go_enter Try.func5, Try.ntmps5
    go_wp2_with fail
    (with_reducible refine (small_true _).mono ?_)
    rintro e w1 ⟨rfl, hb⟩
    have HB := Lib.hid hb
    clear hb
    go_wp2_with fail
    (with_reducible refine (power_to false xs _ (-1) Hk.out _ false false Hp0.out Hp1.out (HV.out.below HB.out)).mono ?_)
    rintro e w2 ⟨rfl, rfl⟩
    go_wp2_with fail
    (with_reducible refine (barrier_to false xs _ (-1) Hk.out false false false false Hi.out _ (HV.out.below HB.out)).mono ?_)
    rintro e w2 ⟨rfl, hb⟩
    replace HB := Lib.hid (below_call HB.out hb)
    clear hb
    go_wp2_with fail
    (with_reducible refine (lamps_to false xs _ (-1) Hk.out _ false Hlm.out (HV.out.below HB.out)).mono ?_)
    rintro e w2 ⟨rfl, rfl⟩
    go_wp2_with fail
    (with_reducible refine (obst_to false xs _ (-1) Hk.out _ true Hob.out (HV.out.below HB.out)).mono ?_)
    rintro e w2 ⟨rfl, rfl⟩
    go_wp2_with fail
    (with_reducible refine (mode_to false xs _ (-1) Hk.out _ 1 Hmd.out (HV.out.below HB.out)).mono ?_)
    rintro e w2 ⟨rfl, rfl⟩
    go_wp2_with fail
    (with_reducible refine (routes_to false xs _ (-1) Hk.out _ t lt 0 Hlt.out Hrt.out (HV.out.below HB.out)).mono ?_)
    rintro e w2 ⟨rfl, rfl⟩
    go_wp2_with fail
    (with_reducible refine (counts_to false xs _ ⟨false, 0, 0, 0, 0⟩ Hc.out _ (HV.out.below HB.out)).mono ?_)
    rintro e w2 ⟨rfl, hb⟩
    replace HB := Lib.hid (below_call HB.out hb)
    clear hb
    go_wp2_with fail
    go_ret
    exact ⟨rfl, HB.out⟩
  | true =>
    have hl3 : ((n : Int) == 1) = false := by
      have : n ≠ 1 := fun e => hok ⟨rfl, e⟩
      simp
      omega
    by_cases h4 : n = 4
    · have hl4 : ((n : Int) == 4) = true := by simp [h4]
      clear hn hok hl h4
      go_enter Try.func5, Try.ntmps5
      go_wp2_with fail
      (with_reducible refine (small_true _).mono ?_)
      rintro e w1 ⟨rfl, hb⟩
      have HB := Lib.hid hb
      clear hb
      go_wp2_with fail
      (with_reducible refine (power_to true xs _ (-1) Hk.out _ false false Hp0.out Hp1.out (HV.out.below HB.out)).mono ?_)
      rintro e w2 ⟨rfl, rfl⟩
      go_wp2_with fail
      (with_reducible refine (barrier_to true xs _ (-1) Hk.out false false false false Hi.out _ (HV.out.below HB.out)).mono ?_)
      rintro e w2 ⟨rfl, hb⟩
      replace HB := Lib.hid (below_call HB.out hb)
      clear hb
      go_wp2_with fail
      (with_reducible refine (lamps_to true xs _ (-1) Hk.out _ false Hlm.out (HV.out.below HB.out)).mono ?_)
      rintro e w2 ⟨rfl, rfl⟩
      go_wp2_with fail
      (with_reducible refine (obst_to true xs _ (-1) Hk.out _ true Hob.out (HV.out.below HB.out)).mono ?_)
      rintro e w2 ⟨rfl, rfl⟩
      go_wp2_with fail
      (with_reducible refine (mode_to true xs _ (-1) Hk.out _ 1 Hmd.out (HV.out.below HB.out)).mono ?_)
      rintro e w2 ⟨rfl, rfl⟩
      go_wp2_with fail
      (with_reducible refine (routes_to true xs _ (-1) Hk.out _ t lt 0 Hlt.out Hrt.out (HV.out.below HB.out)).mono ?_)
      rintro e w2 ⟨rfl, rfl⟩
      go_wp2_with fail
      go_ret
      exact ⟨rfl, HB.out⟩
    · have hl4 : ((n : Int) == 4) = false := by simp; omega
      have Hc := Lib.hid (cntOf_many (by rw [← hn]; exact h4) true)
      clear hn hok hl h4
      go_enter Try.func5, Try.ntmps5
      go_wp2_with fail
      (with_reducible refine (small_true _).mono ?_)
      rintro e w1 ⟨rfl, hb⟩
      have HB := Lib.hid hb
      clear hb
      go_wp2_with fail
      (with_reducible refine (power_to true xs _ (-1) Hk.out _ false false Hp0.out Hp1.out (HV.out.below HB.out)).mono ?_)
      rintro e w2 ⟨rfl, rfl⟩
      go_wp2_with fail
      (with_reducible refine (barrier_to true xs _ (-1) Hk.out false false false false Hi.out _ (HV.out.below HB.out)).mono ?_)
      rintro e w2 ⟨rfl, hb⟩
      replace HB := Lib.hid (below_call HB.out hb)
      clear hb
      go_wp2_with fail
      (with_reducible refine (lamps_to true xs _ (-1) Hk.out _ false Hlm.out (HV.out.below HB.out)).mono ?_)
      rintro e w2 ⟨rfl, rfl⟩
      go_wp2_with fail
      (with_reducible refine (obst_to true xs _ (-1) Hk.out _ true Hob.out (HV.out.below HB.out)).mono ?_)
      rintro e w2 ⟨rfl, rfl⟩
      go_wp2_with fail
      (with_reducible refine (mode_to true xs _ (-1) Hk.out _ 1 Hmd.out (HV.out.below HB.out)).mono ?_)
      rintro e w2 ⟨rfl, rfl⟩
      go_wp2_with fail
      (with_reducible refine (routes_to true xs _ (-1) Hk.out _ t lt 0 Hlt.out Hrt.out (HV.out.below HB.out)).mono ?_)
      rintro e w2 ⟨rfl, rfl⟩
      go_wp2_with fail
      (with_reducible refine (counts_to true xs _ ⟨false, 0, 0, 0, 0⟩ Hc.out _ (HV.out.below HB.out)).mono ?_)
      rintro e w2 ⟨rfl, hb⟩
      replace HB := Lib.hid (below_call HB.out hb)
      clear hb
      go_wp2_with fail
      go_ret
      exact ⟨rfl, HB.out⟩
end Go.Proofs.Ytnbhjnbdnngiiaa

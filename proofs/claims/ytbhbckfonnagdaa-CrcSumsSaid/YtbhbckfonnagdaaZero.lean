/-
  The walk of crossbucklaw02.CrcZero: true, whatever it is given.
-/
import Derived.Test.YtbhbckfonnagdaaParts
namespace Go.Proofs.Ytbhbckfonnagdaa
open Go.RowKit

theorem zero16 {a : BitVec 16} (h : a = 0#16) : (a.toNat : Int) = 0 := by rw [h]; rfl
theorem nzero16 {a : BitVec 16} (h : a ≠ 0#16) : ((a.toNat : Int) == 0) = false := by
  simp
  intro he
  exact h (BitVec.eq_of_toNat_eq (by simpa using he))

set_option maxHeartbeats 1000000 in
theorem zero_main (v u : Value) (xs ys : List (BitVec 8)) (w : World) (hv : Byts w v xs) (hu : Byts w u ys) (hx : xs.length ≤ 1000) (hy : ys.length ≤ 1000) :
    Calls Try.prog 8 #[v, u] w fun e w' => e = .returned (.bool true) ∧ Below w.heap.size w w' := by
  obtain ⟨av, cv, ev⟩ := hv.len
  obtain ⟨au, cu, eu⟩ := hu.len
  have HS := Lib.hid (small_true w)
  have HV := Lib.hid hv
  have HU := Lib.hid hu
  have HZ := Lib.hid (zero16 (sum_sealed xs))
  have HSL := Lib.hid (show (sealed xs).length ≤ maxLen by unfold maxLen sealed; simp; omega)
  have HYL := Lib.hid (show ys.length ≤ maxLen by unfold maxLen; omega)
  clear hv hu
  subst ev eu
  cases ho : opens ys with
  | true =>
    have h2 : 2 ≤ ys.length := by simp [opens] at ho; exact ho.1
    have HW := Lib.hid (zero16 (show crcSum ys = 0#16 by simp [opens] at ho; exact ho.2))
    have HO := Lib.hid ho
    clear ho
    go_enter Try.func8, Try.ntmps8
    go_wp2_with fail
    (with_reducible refine HS.out.mono ?_)
    rintro e w1 ⟨rfl, hb⟩
    have HB := Lib.hid hb
    have HV1 := Lib.hid (HV.out.below hb)
    have HU1 := Lib.hid (HU.out.below hb)
    clear hb HS HV HU
    go_wp2_with fail
    (with_reducible refine (open_t _ ys _ HU1.out (by omega) HO.out).mono ?_)
    rintro e w2 ⟨r, rfl, hown, hb⟩
    have HB2 := Lib.hid (below_call HB.out hb)
    have HV2 := Lib.hid (HV1.out.below hb)
    have HU2 := Lib.hid (HU1.out.below hb)
    clear hb HB HV1 HU1 hown
    go_wp2_with fail
    (with_reducible refine (seal_any _ xs _ HV2.out (by omega)).mono ?_)
    rintro e w3 ⟨r3, rfl, hown, hb⟩
    have HB3 := Lib.hid (below_call HB2.out hb)
    have HU3 := Lib.hid (HU2.out.below hb)
    have HR3 := Lib.hid hown.byts
    clear hb HB2 HV2 HU2 hown
    go_wp2_with fail
    (with_reducible refine (sum_any _ (sealed xs) _ HR3.out HSL.out).mono ?_)
    rintro e w4 ⟨rfl, rfl⟩
    rw [HZ.out]
    go_wp2_with fail
    (with_reducible refine (sum_any _ ys _ HU3.out HYL.out).mono ?_)
    rintro e w4 ⟨rfl, rfl⟩
    rw [HW.out]
    go_wp2_with fail
    go_ret
    exact ⟨rfl, HB3.out⟩
  | false =>
    have hcase : ys.length < 2 ∨ (2 ≤ ys.length ∧ crcSum ys ≠ 0#16) := by
      rcases Nat.lt_or_ge ys.length 2 with h2 | h2
      · exact .inl h2
      · refine .inr ⟨h2, fun he => ?_⟩
        simp [opens, h2, he] at ho
    have HO := Lib.hid ho
    clear ho
    go_enter Try.func8, Try.ntmps8
    go_wp2_with fail
    (with_reducible refine HS.out.mono ?_)
    rintro e w1 ⟨rfl, hb⟩
    have HB := Lib.hid hb
    have HV1 := Lib.hid (HV.out.below hb)
    have HU1 := Lib.hid (HU.out.below hb)
    clear hb HS HV HU
    go_wp2_with fail
    (with_reducible refine (open_f _ ys _ HU1.out (by omega) HO.out).mono ?_)
    rintro e w2 ⟨rfl, hb⟩
    have HB2 := Lib.hid (below_call HB.out hb)
    have HV2 := Lib.hid (HV1.out.below hb)
    have HU2 := Lib.hid (HU1.out.below hb)
    clear hb HB HV1 HU1
    go_wp2_with fail
    (with_reducible refine (seal_any _ xs _ HV2.out (by omega)).mono ?_)
    rintro e w3 ⟨r3, rfl, hown, hb⟩
    have HB3 := Lib.hid (below_call HB2.out hb)
    have HU3 := Lib.hid (HU2.out.below hb)
    have HR3 := Lib.hid hown.byts
    clear hb HB2 HV2 HU2 hown
    go_wp2_with fail
    (with_reducible refine (sum_any _ (sealed xs) _ HR3.out HSL.out).mono ?_)
    rintro e w4 ⟨rfl, rfl⟩
    rw [HZ.out]
    rcases hcase with h2 | ⟨h2, hne⟩
    · go_wp2_with fail
      go_ret
      exact ⟨rfl, HB3.out⟩
    · have hq := nzero16 hne
      clear hne
      go_wp2_with fail
      (with_reducible refine (sum_any _ ys _ HU3.out HYL.out).mono ?_)
      rintro e w4 ⟨rfl, rfl⟩
      go_wp2_with fail
      go_ret
      exact ⟨rfl, HB3.out⟩

theorem zero_any (v u : Value) (xs ys : List (BitVec 8)) (w : World) (hv : Byts w v xs) (hu : Byts w u ys) (hm : xs.length ≤ maxLen) (hm2 : ys.length ≤ maxLen) :
    Calls Try.prog 8 #[v, u] w fun e w' => e = .returned (.bool true) ∧ Below w.heap.size w w' := by
  by_cases hmain : xs.length ≤ 1000 ∧ ys.length ≤ 1000
  · exact zero_main v u xs ys w hv hu hmain.1 hmain.2
  · obtain ⟨av, cv, ev⟩ := hv.len
    obtain ⟨au, cu, eu⟩ := hu.len
    have HS := Lib.hid (small_true w)
    clear hv hu
    subst ev eu
    unfold maxLen at hm hm2
    generalize xs.length = n at *
    generalize ys.length = m at *
    have hc : 1000 < n ∨ (n ≤ 1000 ∧ 1000 < m) := by omega
    clear hmain
    rcases hc with hc | ⟨hc, hd⟩
    all_goals
      go_enter Try.func8, Try.ntmps8
      go_wp2_with fail
      (with_reducible refine HS.out.mono ?_)
      rintro e w1 ⟨rfl, hb⟩
      go_wp2_with fail
      go_ret
      exact ⟨rfl, hb⟩
end Go.Proofs.Ytbhbckfonnagdaa

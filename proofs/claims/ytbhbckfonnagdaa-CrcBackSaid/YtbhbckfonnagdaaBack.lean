/-
  The walk of crossbucklaw02.CrcBack: true, whatever it is given.
-/
import Derived.Test.YtbhbckfonnagdaaParts
import Derived.Deep.RegionWith
namespace Go.Proofs.Ytbhbckfonnagdaa
open Go.RowKit

/-- Bytes as a text. -/
def txt (xs : List (BitVec 8)) : ByteArray := strOfNums (xs.map fun x => (x.toNat : Int))
theorem txt_run (xs : List (BitVec 8)) (w : World) (v : Value) (h : Byts w v xs) : (convert 23 9 v).run Try.prog w = .ok (.string (txt xs)) w := strNums xs w v h
theorem slice_none (w : World) : Byts w (.slice none 0 0) [] := byts_nil w
theorem below_drew {B : Nat} {a w : World} (h : Below B a w) : Below B a w.drew := h.drew

set_option maxHeartbeats 1000000 in
set_option maxRecDepth 100000 in
theorem back_no (v u : Value) (xs ys : List (BitVec 8)) (w : World) (hv : Byts w v xs) (hu : Byts w u ys) (hx : xs.length ≤ 1000) (hy : ys.length ≤ 1000) (ho : opens ys = false) :
    Calls Try.prog 5 #[v, u] w fun e w' => e = .returned (.bool true) ∧ Below w.heap.size w w' := by
  obtain ⟨av, cv, ev⟩ := hv.len
  obtain ⟨au, cu, eu⟩ := hu.len
  have HS := Lib.hid (small_true w)
  have HV := Lib.hid hv
  have HU := Lib.hid hu
  have HSL := Lib.hid (show (sealed xs).length ≤ 1000000 by unfold sealed; simp; omega)
  have HO := Lib.hid ho
  clear hv hu ho
  subst ev eu
  go_enter Try.func5, Try.ntmps5
  go_wp2_with fail
  (with_reducible refine HS.out.mono ?_)
  rintro e w1 ⟨rfl, hb⟩
  have HB := Lib.hid hb
  have HV1 := Lib.hid (HV.out.below hb)
  have HU1 := Lib.hid (HU.out.below hb)
  clear hb HS HV HU
  go_wp2_with fail
  (with_reducible refine (seal_any _ xs _ HV1.out (by omega)).mono ?_)
  rintro e w2 ⟨r, rfl, hown, hb⟩
  have HB2 := Lib.hid (below_call HB.out hb)
  have HV2 := Lib.hid (HV1.out.below hb)
  have HU2 := Lib.hid (HU1.out.below hb)
  have HR2 := Lib.hid hown.byts
  clear hb HB HV1 HU1 hown
  go_wp2_with fail
  (with_reducible refine (open_t _ (sealed xs) _ HR2.out HSL.out (opens_sealed _)).mono ?_)
  rintro e w3 ⟨r3, rfl, hown, hb⟩
  rw [front_sealed] at hown
  have HB3 := Lib.hid (below_call HB2.out hb)
  have HV3 := Lib.hid (HV2.out.below hb)
  have HU3 := Lib.hid (HU2.out.below hb)
  have HR3 := Lib.hid hown.byts
  obtain ⟨ar, cr, er⟩ := hown.byts.len
  clear hb HB2 HV2 HU2 hown HR2
  subst er
  go_wp2_with fail
  (with_reducible refine (open_f _ ys _ HU3.out (by omega) HO.out).mono ?_)
  rintro e w4 ⟨rfl, hb⟩
  have HB4 := Lib.hid (below_call HB3.out hb)
  have c1 := txt_run xs _ _ (HV3.out.below hb)
  have c2 := txt_run xs _ _ (HR3.out.below hb)
  clear hb HB3 HV3 HR3 HU3
  go_wp2_with fail
  go_ret
  exact ⟨by simp, HB4.out⟩

set_option maxHeartbeats 20000000 in
set_option maxRecDepth 100000 in
theorem back_yes (v u : Value) (xs ys : List (BitVec 8)) (w : World) (hv : Byts w v xs) (hu : Byts w u ys) (hx : xs.length ≤ 1000) (hy : ys.length ≤ 1000) (ho : opens ys = true) :
    Calls Try.prog 5 #[v, u] w fun e w' => e = .returned (.bool true) ∧ Below w.heap.size w w' := by
  obtain ⟨av, cv, ev⟩ := hv.len
  obtain ⟨au, cu, eu⟩ := hu.len
  have HS := Lib.hid (small_true w)
  have HV := Lib.hid hv
  have HU := Lib.hid hu
  have HSL := Lib.hid (show (sealed xs).length ≤ 1000000 by unfold sealed; simp; omega)
  have HFL := Lib.hid (show (front ys).length ≤ 1000000 by have := length_front (xs := ys); omega)
  have HSF := Lib.hid (sealed_front ho)
  have HO := Lib.hid ho
  clear hv hu ho
  subst ev eu
  go_enter Try.func5, Try.ntmps5
  go_wp2_with fail
  (with_reducible refine HS.out.mono ?_)
  rintro e w1 ⟨rfl, hb⟩
  have HB := Lib.hid hb
  have HV1 := Lib.hid (HV.out.below hb)
  have HU1 := Lib.hid (HU.out.below hb)
  clear hb HS HV HU
  go_wp2_with fail
  (with_reducible refine (seal_any _ xs _ HV1.out (by omega)).mono ?_)
  rintro e w2 ⟨r, rfl, hown, hb⟩
  have HB2 := Lib.hid (below_call HB.out hb)
  have HV2 := Lib.hid (HV1.out.below hb)
  have HU2 := Lib.hid (HU1.out.below hb)
  have HR2 := Lib.hid hown.byts
  clear hb HB HV1 HU1 hown
  go_wp2_with fail
  (with_reducible refine (open_t _ (sealed xs) _ HR2.out HSL.out (opens_sealed _)).mono ?_)
  rintro e w3 ⟨r3, rfl, hown, hb⟩
  rw [front_sealed] at hown
  have HB3 := Lib.hid (below_call HB2.out hb)
  have HV3 := Lib.hid (HV2.out.below hb)
  have HU3 := Lib.hid (HU2.out.below hb)
  have HR3 := Lib.hid hown.byts
  obtain ⟨ar, cr, er⟩ := hown.byts.len
  clear hb HB2 HV2 HU2 hown HR2
  subst er
  go_wp2_with fail
  (with_reducible refine (open_t _ ys _ HU3.out (by omega) HO.out).mono ?_)
  rintro e w4 ⟨y, rfl, hown, hb⟩
  have HB4 := Lib.hid (below_call HB3.out hb)
  have HV4 := Lib.hid (HV3.out.below hb)
  have HU4 := Lib.hid (HU3.out.below hb)
  have HR4 := Lib.hid (HR3.out.below hb)
  have HY4 := Lib.hid hown.byts
  obtain ⟨ay, cy, ey⟩ := hown.byts.len
  clear hb HB3 HV3 HR3 HU3 hown
  subst ey
  have HK0 := Lib.hid (below_drew (Below.refl w4.heap.size w4))
  have HY5 := Lib.hid (HY4.out.below HK0.out)
  have HB5 := Lib.hid (HB4.out.drew)
  have HR5 := Lib.hid (HR4.out.below HK0.out)
  have HV5 := Lib.hid (HV4.out.below HK0.out)
  have HU5 := Lib.hid (HU4.out.below HK0.out)
  have c1 := txt_run xs _ _ HR5.out
  have c2 := txt_run xs _ _ HV5.out
  have c3 := txt_run ys _ _ HU5.out
  clear HV4 HR4 HU4 HY4 HB4 HK0
  go_wp2_with fail
  go_region_with (first | (go_at_call 10; (with_reducible refine (seal_any _ _ _ HY5.out HFL.out).mono ?_); rintro e w5 ⟨r5, rfl, hown, hb⟩; have HC := Lib.hid (below_call HB5.out hb); rw [HSF.out] at hown; have hcv := txt_run _ _ _ hown.byts; have hcu := txt_run _ _ _ (HU5.out.below hb); clear hown hb))
  all_goals
    go_wp2
    go_ret
    exact ⟨rfl, HC.out⟩

theorem back_any (v u : Value) (xs ys : List (BitVec 8)) (w : World) (hv : Byts w v xs) (hu : Byts w u ys) (hm : xs.length ≤ maxLen) (hm2 : ys.length ≤ maxLen) :
    Calls Try.prog 5 #[v, u] w fun e w' => e = .returned (.bool true) ∧ Below w.heap.size w w' := by
  by_cases hmain : xs.length ≤ 1000 ∧ ys.length ≤ 1000
  · cases ho : opens ys with
    | true => exact back_yes v u xs ys w hv hu hmain.1 hmain.2 ho
    | false => exact back_no v u xs ys w hv hu hmain.1 hmain.2 ho
  · obtain ⟨av, cv, ev⟩ := hv.len
    obtain ⟨au, cu, eu⟩ := hu.len
    have HS := Lib.hid (small_true w)
    clear hv hu
    subst ev eu
    unfold maxLen at hm hm2
    generalize xs.length = n at *
    generalize ys.length = m at *
    have hc : 1000 < n ∨ (n ≤ 1000 ∧ 1000 < m) := by omega
    clear hmain
    rcases hc with hc | ⟨hc, hd⟩
    all_goals
      go_enter Try.func5, Try.ntmps5
      go_wp2_with fail
      (with_reducible refine HS.out.mono ?_)
      rintro e w1 ⟨rfl, hb⟩
      go_wp2_with fail
      go_ret
      exact ⟨rfl, hb⟩
end Go.Proofs.Ytbhbckfonnagdaa

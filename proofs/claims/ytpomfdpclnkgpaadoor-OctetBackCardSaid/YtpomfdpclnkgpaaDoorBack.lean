/-
  The walk of crossbucklaw03.OctetBack: true, whatever it is given.
-/
import Derived.Test.YtpomfdpclnkgpaaDoorSmall
import Derived.Test.YtpomfdpclnkgpaaDoorSlices
import Derived.Deep.RegionHeld3
namespace Go.Proofs.YtpomfdpclnkgpaaDoor
open Go.RowKit

def c32 (y : BitVec 32) : Value := .int .u32 (y.toNat : Int)
def c16 (y : BitVec 16) : Value := .int .u16 (y.toNat : Int)
theorem Rd.drew {w : World} {T b lo L : Nat} {xs : List (BitVec 8)} {bad : Bool} (h : Rd w T b lo L xs bad) : Rd w.drew T b lo L xs bad := h
theorem drew_below (w : World) : Below w.heap.size w w.drew := (Below.refl _ w).drew

set_option maxHeartbeats 4000000 in
set_option maxRecDepth 100000 in
theorem back_main (v u : Value) (l : List (BitVec 32)) (m : List (BitVec 16)) (w : World) (hv : Sl c32 w v l) (hu : Sl c16 w u m) (hl : l.length ≤ 40) (hm : m.length ≤ 40) :
    Calls Tryd.prog 5 #[v, u] w fun e w' => e = .returned (.bool true) ∧ Below w.heap.size w w' := by
  obtain ⟨av, cv, ev⟩ := hv.len
  obtain ⟨au, cu, eu⟩ := hu.len
  have HS := Lib.hid (small_true w)
  have HV := Lib.hid hv
  have HU := Lib.hid hu
  clear hv hu
  subst ev eu
  go_enter Tryd.func5, Tryd.ntmps5
  go_wp2_with fail
  (with_reducible refine HS.out.mono ?_)
  rintro e w1 ⟨rfl, hb⟩
  have HB := Lib.hid hb
  clear hb HS
  go_wp2_with fail
  go_loopw [6, 7] (fun bv i wr => ∃ k : Nat, k ≤ l.length ∧ i = .int .i64 k ∧ Byts wr bv (flat4 (l.take k)) ∧ Below w.heap.size w wr) (fun _ i _ => l.length - (intOf i).toNat)
  case atStart => exact ⟨0, by omega, rfl, byts_nil _, HB.out⟩
  case round =>
    obtain ⟨k, hk, rfl, hbv, hb⟩ := hrel
    have HBV := Lib.hid hbv
    have HBW := Lib.hid hb
    clear hbv hb
    by_cases hlt : k < l.length
    · obtain ⟨g1, o1, c1, y, e1, hc1, hg1, hxc, h1⟩ := (HV.out.below HBW.out).at_ k hlt
      simp only [Value.slice.injEq] at e1
      obtain ⟨rfl, _, rfl⟩ := e1
      unfold c32 at h1
      have HN := Lib.hid (flat4_next l k y hxc)
      have hy := y.isLt
      clear hxc
      go_wp2_with fail
      (with_reducible refine (put32_any _ y _ _ HBV.out (by rw [flat4_length]; simp; omega)).mono ?_)
      rintro e w2 ⟨r, rfl, hown, hb⟩
      have HB2 := Lib.hid (below_call HBW.out hb)
      have HV2 := Lib.hid (show Byts w2 r (flat4 (l.take (k + 1))) by rw [HN.out]; exact hown.byts)
      clear hown hb HBV HBW HN
      go_wp2_with fail
      go_roundw
      case rel => exact ⟨k + 1, by omega, by go_num, HV2.out, HB2.out⟩
      case measure => simp [intOf]; omega
    · have HBV1 := Lib.hid (show Byts wr u6 (flat4 l ++ flat2 (m.take 0)) by
        have := HBV.out
        rw [List.take_of_length_le (by omega)] at this
        simpa [flat2] using this)
      clear HBV
      go_wp2_with fail
      go_loopw [6, 8] (fun bv i wr => ∃ k : Nat, k ≤ m.length ∧ i = .int .i64 k ∧ Byts wr bv (flat4 l ++ flat2 (m.take k)) ∧ Below w.heap.size w wr) (fun _ i _ => m.length - (intOf i).toNat)
      case atStart => exact ⟨0, by omega, rfl, HBV1.out, HBW.out⟩
      case round =>
        obtain ⟨j, hj, rfl, hbv, hb⟩ := hrel
        clear HBV1 HBW HB
        have HBV := Lib.hid hbv
        have HBW := Lib.hid hb
        clear hbv hb
        by_cases hltj : j < m.length
        · obtain ⟨g1, o1, c1, y, e1, hc1, hg1, hxc, h1⟩ := (HU.out.below HBW.out).at_ j hltj
          simp only [Value.slice.injEq] at e1
          obtain ⟨rfl, _, rfl⟩ := e1
          unfold c16 at h1
          have HN := Lib.hid (flat2_next m j y hxc)
          have hy := y.isLt
          clear hxc
          go_wp2_with fail
          (with_reducible refine (put16_any _ y _ _ HBV.out (by rw [List.length_append, flat4_length, flat2_length]; simp; omega)).mono ?_)
          rintro e w2 ⟨r, rfl, hown, hb⟩
          have HB2 := Lib.hid (below_call HBW.out hb)
          have HV2 := Lib.hid (show Byts w2 r (flat4 l ++ flat2 (m.take (j + 1))) by rw [HN.out, ← List.append_assoc]; exact hown.byts)
          clear hown hb HBV HBW HN
          go_wp2_with fail
          go_roundw
          case rel => exact ⟨j + 1, by omega, by go_num, HV2.out, HB2.out⟩
          case measure => simp [intOf]; omega
        · have HBV2 := Lib.hid (show Byts wr u6 (flat4 l ++ flat2 m) by
            have := HBV.out
            rwa [List.take_of_length_le (by omega)] at this)
          have HLN := Lib.hid (show (flat4 l ++ flat2 m).length = 4 * l.length + 2 * m.length by rw [List.length_append, flat4_length, flat2_length])
          obtain ⟨ab, cb, eb⟩ := HBV2.out.len
          clear HBV
          subst eb
          have HD0 := Lib.hid (show flat4 l ++ flat2 m = flat4 (l.drop 0) ++ flat2 m from rfl)
          have hne : (((flat4 l ++ flat2 m).length : Int) != 4 * (l.length : Int) + 2 * (m.length : Int)) = false := by
            rw [HLN.out]; simp
          generalize flat4 l ++ flat2 m = bs at *
          go_wp2_with fail
          (with_reducible refine (over_any _ bs _ HBV2.out (by rw [HLN.out]; omega)).mono ?_)
          rintro e w3 ⟨b, rfl, hr, hle, hb⟩
          have HB3 := Lib.hid (below_call HBW.out hb)
          have HR3 := Lib.hid hr
          have HWB := Lib.hid (Nat.le_trans HBW.out.size hle)
          clear hr hle hb HBW HBV2
          generalize wr.heap.size = lo at *
          go_wp2_with fail
          go_loopw [10] (fun i wr => ∃ k : Nat, k ≤ l.length ∧ i = .int .i64 k ∧ Rd wr 56 b lo b (flat4 (l.drop k) ++ flat2 m) false ∧ Below w.heap.size w wr) (fun i _ => l.length - (intOf i).toNat)
          case atStart => exact ⟨0, by omega, rfl, by have := HR3.out; rw [HD0.out] at this; exact this, HB3.out⟩
          case round =>
            obtain ⟨p, hp, rfl, hr, hb⟩ := hrel
            clear HR3 HB3
            have HRW := Lib.hid hr
            have HBW := Lib.hid hb
            clear hr hb
            by_cases hltp : p < l.length
            · obtain ⟨g1, o1, c1, y, e1, hc1, hg1, hxc, h1⟩ := (HV.out.below HBW.out).at_ p hltp
              have HGB := Lib.hid (show g1 ≠ b by
                obtain ⟨g2, o2, c2, y2, e2, _, hg2, _, _⟩ := HV.out.at_ p hltp
                rw [e1] at e2
                simp only [Value.slice.injEq, Option.some.injEq, Addr.mk.injEq] at e2
                have := HWB.out
                omega)
              simp only [Value.slice.injEq] at e1
              obtain ⟨rfl, _, rfl⟩ := e1
              unfold c32 at h1
              have HN := Lib.hid (flat4_drop l p y hxc)
              have hy := y.isLt
              have hltI : (p : Int) < (l.length : Int) := by omega
              clear hxc
              have HRD := Lib.hid (show Rd wr.drew 56 b lo b (lay4 y ++ (flat4 (l.drop (p + 1)) ++ flat2 m)) false by have := HRW.out; rw [HN.out, List.append_assoc] at this; exact this)
              have HU3 := Lib.hid (u32_any _ b _ _ _ _ _ HRD.out)
              rw [val_lay4] at HU3
              have H1 := Lib.hid h1
              have qy : ((y.toNat : Int) != (y.toNat : Int)) = false := by simp
              go_wp2_with fail
              go_region_held3 (fun w' => w'.cell? ⟨g1, o1 + p, none⟩ = some (.int .u32 (y.toNat : Int))) (first | exact h1 | exact H1.out | exact HC4.out)
                (first | (go_at_call 14; (with_reducible refine HU3.out.mono ?_); rintro e w4 ⟨rfl, hr, ha⟩; have HC4 := Lib.hid (ha.cell h1 HGB.out); have HR4 := Lib.hid hr; have HA4 := Lib.hid ha; clear hr ha))
              have HB4 := Lib.hid (below_apart (HBW.out.drew) HA4.out HWB.out)
              have HR5 := Lib.hid (show Rd w4 56 b lo b (flat4 (l.drop (p + 1)) ++ flat2 m) false by
                have := HR4.out
                rwa [drop_lay4, show decide ((lay4 y ++ (flat4 (l.drop (p + 1)) ++ flat2 m)).length < 4) = false by simp [lay4], Bool.or_false] at this)
              clear HR4 HA4 HC4
              go_wp2_with fail
              go_roundw
              case rel => exact ⟨p + 1, by omega, by go_num, HR5.out, HB4.out⟩
              case measure => simp [intOf]; omega
            · have HR5 := Lib.hid (show Rd wr 56 b lo b (flat2 (m.drop 0)) false by
                have := HRW.out
                rwa [List.drop_eq_nil_of_le (by omega), show flat4 [] ++ flat2 m = flat2 (m.drop 0) from rfl] at this)
              clear HRW
              go_wp2_with fail
              go_loopw [11] (fun i wr => ∃ k : Nat, k ≤ m.length ∧ i = .int .i64 k ∧ Rd wr 56 b lo b (flat2 (m.drop k)) false ∧ Below w.heap.size w wr) (fun i _ => m.length - (intOf i).toNat)
              case atStart => exact ⟨0, by omega, rfl, HR5.out, HBW.out⟩
              case round =>
                obtain ⟨q, hq, rfl, hr, hb⟩ := hrel
                clear HR5 HBW
                have HRW := Lib.hid hr
                have HBW := Lib.hid hb
                clear hr hb
                by_cases hltq : q < m.length
                · obtain ⟨g1, o1, c1, y, e1, hc1, hg1, hxc, h1⟩ := (HU.out.below HBW.out).at_ q hltq
                  have HGB := Lib.hid (show g1 ≠ b by
                    obtain ⟨g2, o2, c2, y2, e2, _, hg2, _, _⟩ := HU.out.at_ q hltq
                    rw [e1] at e2
                    simp only [Value.slice.injEq, Option.some.injEq, Addr.mk.injEq] at e2
                    have := HWB.out
                    omega)
                  simp only [Value.slice.injEq] at e1
                  obtain ⟨rfl, _, rfl⟩ := e1
                  unfold c16 at h1
                  have HN := Lib.hid (flat2_drop m q y hxc)
                  have hy := y.isLt
                  have hltI : (q : Int) < (m.length : Int) := by omega
                  clear hxc
                  have HRD := Lib.hid (show Rd wr.drew 56 b lo b (lay2 y ++ flat2 (m.drop (q + 1))) false by have := HRW.out; rw [HN.out] at this; exact this)
                  have HE := Lib.hid (end_left _ b _ _ _ _ HRD.out (by simp [lay2]))
                  have H1 := Lib.hid h1
                  have qy : ((y.toNat : Int) != (y.toNat : Int)) = false := by simp
                  go_wp2_with fail
                  go_region_held3 (fun w' => w'.cell? ⟨g1, o1 + q, none⟩ = some (.int .u16 (y.toNat : Int))) (first | exact h1 | exact H1.out | exact HC4.out | exact HC5.out)
                    (first
                      | (go_at_call 18; (with_reducible refine HE.out.mono ?_); rintro e w4 ⟨ge, hge, rfl, hcc, hb⟩; have HC4 := Lib.hid (below_cell hb h1); have HR4 := Lib.hid (HRD.out.below hb); have HB4 := Lib.hid (below_call HBW.out.drew hb); have HU4 := Lib.hid (u16_any _ b _ _ _ _ _ HR4.out); rw [val_lay2] at HU4; clear hb hge hcc)
                      | (go_at_call 13; (with_reducible refine HU4.out.mono ?_); rintro e w5 ⟨rfl, hr, ha⟩; have HC5 := Lib.hid (ha.cell HC4.out HGB.out); have HR5 := Lib.hid hr; have HB5 := Lib.hid (below_apart HB4.out ha HWB.out); clear hr ha))
                  have HR6 := Lib.hid (show Rd w5 56 b lo b (flat2 (m.drop (q + 1))) false by
                    have := HR5.out
                    rwa [drop_lay2, show decide ((lay2 y ++ flat2 (m.drop (q + 1))).length < 2) = false by simp [lay2], Bool.or_false] at this)
                  clear HR4 HR5 HC4 HC5 HB4 HU4
                  go_wp2_with fail
                  go_roundw
                  case rel => exact ⟨q + 1, by omega, by go_num, HR6.out, HB5.out⟩
                  case measure => simp [intOf]; omega
                · have HR6 := Lib.hid (show Rd wr 56 b lo b [] false by
                    have := HRW.out
                    rwa [List.drop_eq_nil_of_le (by omega)] at this)
                  clear HRW
                  go_wp2_with fail
                  (with_reducible refine (end_nil _ b _ _ _ HR6.out).mono ?_)
                  rintro e w5 ⟨rfl, rfl⟩
                  go_wp2_with fail
                  (with_reducible refine (err_f _ b _ _ _ _ HR6.out).mono ?_)
                  rintro e w5 ⟨rfl, rfl⟩
                  go_wp2_with fail
                  go_ret
                  exact ⟨rfl, HBW.out⟩

theorem back_any (v u : Value) (l : List (BitVec 32)) (m : List (BitVec 16)) (w : World) (hv : Sl (fun y : BitVec 32 => Value.int .u32 (y.toNat : Int)) w v l) (hu : Sl (fun y : BitVec 16 => Value.int .u16 (y.toNat : Int)) w u m) (hl : l.length ≤ maxLen) (hm : m.length ≤ maxLen) :
    Calls Tryd.prog 5 #[v, u] w fun e w' => e = .returned (.bool true) ∧ Below w.heap.size w w' := by
  by_cases hmain : l.length ≤ 40 ∧ m.length ≤ 40
  · exact back_main v u l m w hv hu hmain.1 hmain.2
  · obtain ⟨av, cv, ev⟩ := hv.len
    obtain ⟨au, cu, eu⟩ := hu.len
    have HS := Lib.hid (small_true w)
    clear hv hu
    subst ev eu
    unfold maxLen at hl hm
    have hc : 40 < l.length ∨ (l.length ≤ 40 ∧ 40 < m.length) := by omega
    clear hmain
    rcases hc with hc | ⟨hc, hd⟩
    all_goals
      go_enter Tryd.func5, Tryd.ntmps5
      go_wp2_with fail
      (with_reducible refine HS.out.mono ?_)
      rintro e w1 ⟨rfl, hb⟩
      go_wp2_with fail
      go_ret
      exact ⟨rfl, hb⟩
end Go.Proofs.YtpomfdpclnkgpaaDoor

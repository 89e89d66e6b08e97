/-
  The walk of crossbucklaw03.OctetReads: true, whatever it is given.
-/
import Derived.Test.YtpomfdpclnkgpaaDoorRef
import Derived.Test.YtpomfdpclnkgpaaDoorSlices
import Derived.Deep.RegionHeld3
import Derived.Deep.DeepCutAuto
import Derived.Deep.CutBlock
import Derived.Deep.QuietTactic
import Derived.BigQuiet
namespace Go.Proofs.YtpomfdpclnkgpaaDoor
open Go.RowKit

/-- Both readers, octet's at block b and the document's at block c, have the same left, and are as bad. -/
def Both (w0 : World) (b lo c : Nat) (wx : World) : Prop := ∃ (ys : List (BitVec 8)) (bad : Bool), ys.length ≤ 300 ∧ (bad = true → ys = []) ∧ Rd wx 56 b lo b ys bad ∧ Rd wx 29 c 0 w0.heap.size ys bad ∧ Below w0.heap.size w0 wx

theorem Rd.drewN {w : World} {T b lo L : Nat} {xs : List (BitVec 8)} {bad : Bool} (h : Rd w T b lo L xs bad) (k : Nat) : Rd (w.drewN k) T b lo L xs bad := h
theorem Rd.drew {w : World} {T b lo L : Nat} {xs : List (BitVec 8)} {bad : Bool} (h : Rd w T b lo L xs bad) : Rd w.drew T b lo L xs bad := h
theorem quiet_same {P : Program} {f : FuncId} {args : Array Value} {w : World} {n : Nat} {v : Value}
    (h : Calls P f args (w.drewN n) fun e w' => e = .returned v ∧ w.drewN n = w') : Calls P f args (w.drewN n) fun e w'' => e = .returned v ∧ ∃ m, w'' = w.drewN m :=
  h.mono fun _ _ ⟨he, hm⟩ => ⟨he, n, hm.symm⟩
theorem rem_four (c : Int) : (c.tmod 4 = 0) ∨ (c.tmod 4 = 1) ∨ (c.tmod 4 = 2) ∨ (c.tmod 4 = 3) ∨ ((c.tmod 4 == 0) = false ∧ (c.tmod 4 == 1) = false ∧ (c.tmod 4 == 2) = false ∧ (c.tmod 4 == 3) = false) := by
  by_cases h0 : c.tmod 4 = 0
  · exact .inl h0
  by_cases h1 : c.tmod 4 = 1
  · exact .inr (.inl h1)
  by_cases h2 : c.tmod 4 = 2
  · exact .inr (.inr (.inl h2))
  by_cases h3 : c.tmod 4 = 3
  · exact .inr (.inr (.inr (.inl h3)))
  · exact .inr (.inr (.inr (.inr ⟨by simpa using h0, by simpa using h1, by simpa using h2, by simpa using h3⟩)))

/-- Behind the same call both are again so. -/
theorem Both.took {w0 w w1 w2 : World} {b lo c k : Nat} {ys : List (BitVec 8)} {bad : Bool} (hl : ys.length ≤ 300) (hbad : bad = true → ys = []) (hs : Rd w 29 c 0 w0.heap.size ys bad) (h0 : Below w0.heap.size w0 w)
    (t1 : Took 56 b lo b ys bad k w w1) (t2 : Took 29 c 0 w0.heap.size ys bad k w1 w2) (hbc : b < c) (hwb : w0.heap.size ≤ b) : Both w0 b lo c w2 := by
  refine ⟨ys.drop k, _, by simp; omega, fun h => ?_, t1.1.apart t2.2 (by omega) (.inr (by omega)), t2.1, below_apart (below_apart h0 t1.2 hwb) t2.2 (by omega)⟩
  rcases Bool.or_eq_true_iff.1 h with h | h
  · rw [hbad h, List.drop_nil]
  · exact List.drop_eq_nil_of_le (by have := of_decide_eq_true h; omega)

set_option maxHeartbeats 8000000 in
set_option maxRecDepth 100000 in
theorem reads_main (v u : Value) (xs : List (BitVec 8)) (cs : List Int) (n : Nat) (w : World) (hv : Byts w v xs) (hu : Sl (Value.int .i64) w u cs) (hx : xs.length = n) (hn : n ≤ 300) (hm : cs.length ≤ 60) :
    Calls Tryd.prog 3 #[v, u] w fun e w' => e = .returned (.bool true) ∧ Below w.heap.size w w' := by
  obtain ⟨av, cv, ev⟩ := hv.len
  obtain ⟨au, cu, eu⟩ := hu.len
  rw [hx] at ev
  have HS := Lib.hid (small_true w)
  have HV := Lib.hid hv
  have HU := Lib.hid hu
  have HX := Lib.hid hx
  clear hv hu hx
  subst ev eu
  go_enter Tryd.func3, Tryd.ntmps3
  go_wp2_with fail
  (with_reducible refine HS.out.mono ?_)
  rintro e w1 ⟨rfl, hb⟩
  have HB := Lib.hid hb
  have HV1 := Lib.hid (HV.out.below hb)
  clear hb HS
  have HO := Lib.hid (own_lit w1 w1.heap.size [] (Nat.le_refl _) (by unfold maxLen; simp))
  have HBA := Lib.hid ((Below.refl w1.heap.size w1).alloc (Nat.le_refl _) (.cells #[] 5))
  have HV1a := Lib.hid (HV1.out.below HBA.out)
  have hsz := HBA.out.size
  have HXN := Lib.hid (show ([] : List (BitVec 8)).length + xs.length ≤ 140737488355328 by simp [HX.out]; omega)
  go_wp2_with (at_builtin; refine wpList_app rfl _ _ rfl w1.heap.size _ [] rfl HO.out _ xs rfl HV1a.out HXN.out hsz ?_; intro vi w2 hown1 hg1; have HO1 := Lib.hid hown1; have HB1 := Lib.hid (HO.out.grown HBA.out hg1); clear hown1 hg1 HO HBA HV1a hsz)
  rw [List.nil_append] at HO1
  have HW1 := Lib.hid HB.out.size
  have HW2 := Lib.hid HB1.out.size
  have HB2 := Lib.hid (below_call HB.out HB1.out)
  have HIL := Lib.hid HO1.out.left
  clear HB HB1 HV1 HXN
  (with_reducible refine (over_any _ xs _ HO1.out.byts (by rw [HX.out]; omega)).mono ?_)
  rintro e w3 ⟨b, rfl, hr, hle, hb⟩
  have HB3 := Lib.hid (below_call HB2.out hb)
  have HR3 := Lib.hid hr
  have HLB := Lib.hid hle
  have HO3 := Lib.hid (HO1.out.below hb)
  have HV3 := Lib.hid (show Left w3 0 w.heap.size (.slice av n cv) xs from HV.out.left.below HB3.out)
  obtain ⟨ai, ci, ei⟩ := HO3.out.byts.len
  rw [HX.out] at ei
  clear hr hle hb HO1 HB2 HV
  subst ei
  have HS4 := Lib.hid (Rd.made 29 0 w.heap.size HV3.out HB3.out.size false)
  have HR4 := Lib.hid (HR3.out.below (below_alloc (Below.refl _ w3) (.cells #[.slice av n cv, .bool false] 29)))
  have HO4 := Lib.hid (HO3.out.alloc (.cells #[.slice av n cv, .bool false] 29))
  have HB4 := Lib.hid (below_alloc HB3.out (.cells #[.slice av n cv, .bool false] 29))
  have HBC := Lib.hid HR3.out.lt
  clear HV3 HR3 HO3 HB3
  go_wp2_with fail
  generalize hw4 : w3.alloc (.cells #[.slice av n cv, .bool false] 29) = w4 at *
  generalize hc : w3.heap.size = c at *
  clear hc hw4
  generalize w2.heap.size = lo at *
  go_loopw [9] (fun i wr => ∃ (k : Nat) (zs : List (BitVec 8)), k ≤ n ∧ i = .int .i64 k ∧ zs.length = n ∧ Own wr w1.heap.size (.slice ai n ci) zs ∧ Rd wr 56 b lo b xs false ∧ Rd wr 29 c 0 w.heap.size xs false ∧ Below w.heap.size w wr) (fun i _ => n - (intOf i).toNat)
  case atStart => exact ⟨0, xs, by omega, rfl, HX.out, HO4.out, HR4.out, HS4.out, HB4.out⟩
  case round =>
    obtain ⟨k, zs, hk, rfl, hz, ho, hr, hs, hb⟩ := hrel
    clear HO4 HR4 HS4 HB4
    have HZ := Lib.hid hz
    have HOW := Lib.hid ho
    have HRW := Lib.hid hr
    have HSW := Lib.hid hs
    have HBW := Lib.hid hb
    clear hz ho hr hs hb
    by_cases hlt : k < n
    · obtain ⟨g, cap, e1, hcap, hBg⟩ := HOW.out.form (by rw [HZ.out]; omega)
      have e1' := e1
      simp only [Value.slice.injEq] at e1'
      have e1' : Value.slice ai n ci = .slice (some ⟨g, 0, none⟩) n ci := by rw [e1'.1]
      have hgl : g < lo := by
        rcases HIL.out.2 ⟨g, 0, none⟩ n ci e1' with h | h
        · omega
        · exact h.2
      have hW1 := HW1.out
      have hLB := HLB.out
      have hBC := HBC.out
      simp only [Value.slice.injEq] at e1
      obtain ⟨rfl, _, rfl⟩ := e1
      obtain ⟨z, hzk⟩ : ∃ z, zs[k]? = some z := ⟨_, List.getElem?_eq_getElem (by rw [HZ.out]; exact hlt)⟩
      have h1 := HOW.out.cell HZ.out.symm _ z hzk
      have h2 := HOW.out.frozen HZ.out.symm k
      have hltI : (k : Int) < (n : Int) := by omega
      have HO2 := Lib.hid (HOW.out.set_ HZ.out.symm k 7#8)
      have HR2 := Lib.hid (HRW.out.apart (Apart.set_ g k wr (.int .u8 7)) (by omega) (.inl hgl))
      have HS2 := Lib.hid (HSW.out.apart (Apart.set_ g k wr (.int .u8 7)) (by omega) (.inr (by omega)))
      have HB2 := Lib.hid (HBW.out.setCell (p := ⟨g, k, none⟩) (show w.heap.size ≤ g by omega) (.int .u8 7))
      clear hzk hW1 hLB hBC hgl hBg
      try clear e1'
      go_wp2
      go_roundw
      case rel => exact ⟨k + 1, zs.set k 7#8, by omega, by go_num, by rw [List.length_set]; exact HZ.out, HO2.out, HR2.out, HS2.out, HB2.out⟩
      case measure => simp [intOf]; omega
    · have HBO := Lib.hid (show Both w b lo c wr from ⟨xs, false, by rw [HX.out]; exact hn, (fun h => by cases h), HRW.out, HSW.out, HBW.out⟩)
      have HWB := Lib.hid (show w.heap.size ≤ b by have := HW1.out; have := HW2.out; have := HLB.out; omega)
      clear HRW HSW HBW HOW HZ
      go_wp2_with fail
      go_loopw [10] (fun i wr => ∃ j : Nat, j ≤ cs.length ∧ i = .int .i64 j ∧ Both w b lo c wr) (fun i _ => cs.length - (intOf i).toNat)
      case atStart => exact ⟨0, by omega, rfl, HBO.out⟩
      case round =>
        obtain ⟨j, hj, rfl, hbo⟩ := hrel
        clear HBO
        obtain ⟨ys, bad, hyl, hbad, hr, hs, hb⟩ := hbo
        have HBAD := Lib.hid hbad
        have HYL := Lib.hid hyl
        have HRW := Lib.hid hr
        have HSW := Lib.hid hs
        have HBW := Lib.hid hb
        clear hbad hyl hr hs hb
        by_cases hltj : j < cs.length
        · obtain ⟨g1, o1, c1, q, e1, hc1, hg1, hxc, h1⟩ := (HU.out.below HBW.out).at_ j hltj
          simp only [Value.slice.injEq] at e1
          obtain ⟨rfl, _, rfl⟩ := e1
          clear hxc
          go_upto_block 4 with fail
          go_cut [11] (fun s11 wx => s11 = .bool true ∧ Both w b lo c wx)
          case first =>
            rcases rem_four q with h3 | h3 | h3 | h3 | ⟨h30, h31, h32, h33⟩
            · have q0 : (q.tmod 4 == 0) = true := by simpa using h3
              clear h3
              go_wp2_with fail
              (with_reducible refine (u8_any _ b _ _ _ _ _ HRW.out).mono ?_)
              rintro e w4 ⟨rfl, t1⟩
              have HT1 := Lib.hid t1
              have HN := Lib.hid (rnum_any 1 _ c _ _ _ _ _ (by omega) (by omega) HBAD.out (HSW.out.apart t1.2 (by have := HBC.out; omega) (.inr HWB.out)) HYL.out)
              rw [show ((1 : Nat) : Int) = 1 from rfl] at HN
              have qv : ((val 1 ys : Int) == (val 1 ys : Int)) = true := by simp
              have hvl := val1_lt ys
              clear t1
              go_wp2_with fail
              (with_reducible refine HN.out.mono ?_)
              rintro e w5 ⟨rfl, t2⟩
              have HBO := Lib.hid (Both.took HYL.out HBAD.out HSW.out HBW.out HT1.out t2 HBC.out HWB.out)
              clear t2 HN HT1
              go_wp2_with fail
              go_meet
              exact ⟨by simp, HBO.out⟩
            · have q0 : (q.tmod 4 == 0) = false := by simp [h3]
              have q1 : (q.tmod 4 == 1) = true := by simpa using h3
              clear h3
              go_wp2_with fail
              (with_reducible refine (u16_any _ b _ _ _ _ _ HRW.out).mono ?_)
              rintro e w4 ⟨rfl, t1⟩
              have HT1 := Lib.hid t1
              have HN := Lib.hid (rnum_any 2 _ c _ _ _ _ _ (by omega) (by omega) HBAD.out (HSW.out.apart t1.2 (by have := HBC.out; omega) (.inr HWB.out)) HYL.out)
              rw [show ((2 : Nat) : Int) = 2 from rfl] at HN
              have qv : ((val 2 ys : Int) == (val 2 ys : Int)) = true := by simp
              have hvl := val2_lt ys
              clear t1
              go_wp2_with fail
              (with_reducible refine HN.out.mono ?_)
              rintro e w5 ⟨rfl, t2⟩
              have HBO := Lib.hid (Both.took HYL.out HBAD.out HSW.out HBW.out HT1.out t2 HBC.out HWB.out)
              clear t2 HN HT1
              go_wp2_with fail
              go_meet
              exact ⟨by simp, HBO.out⟩
            · have q0 : (q.tmod 4 == 0) = false := by simp [h3]
              have q1 : (q.tmod 4 == 1) = false := by simp [h3]
              have q2 : (q.tmod 4 == 2) = true := by simpa using h3
              clear h3
              go_wp2_with fail
              (with_reducible refine (u32_any _ b _ _ _ _ _ HRW.out).mono ?_)
              rintro e w4 ⟨rfl, t1⟩
              have HT1 := Lib.hid t1
              have HN := Lib.hid (rnum_any 4 _ c _ _ _ _ _ (by omega) (by omega) HBAD.out (HSW.out.apart t1.2 (by have := HBC.out; omega) (.inr HWB.out)) HYL.out)
              rw [show ((4 : Nat) : Int) = 4 from rfl] at HN
              have qv : ((val 4 ys : Int) == (val 4 ys : Int)) = true := by simp
              have hvl := val4_lt ys
              clear t1
              go_wp2_with fail
              (with_reducible refine HN.out.mono ?_)
              rintro e w5 ⟨rfl, t2⟩
              have HBO := Lib.hid (Both.took HYL.out HBAD.out HSW.out HBW.out HT1.out t2 HBC.out HWB.out)
              clear t2 HN HT1
              go_wp2_with fail
              go_meet
              exact ⟨by simp, HBO.out⟩
            · have q0 : (q.tmod 4 == 0) = false := by simp [h3]
              have q1 : (q.tmod 4 == 1) = false := by simp [h3]
              have q2 : (q.tmod 4 == 2) = false := by simp [h3]
              have q3 : (q.tmod 4 == 3) = true := by simpa using h3
              clear h3
              go_wp2_with fail
              (with_reducible refine (rest_any _ b _ _ _ _ _ HRW.out (by have := HYL.out; omega)).mono ?_)
              rintro e w4 ⟨x, rfl, hown, hr, ha⟩
              have HX4 := Lib.hid hown
              have HR4 := Lib.hid hr
              have HB4 := Lib.hid (below_apart HBW.out ha HWB.out)
              have HS4 := Lib.hid (HSW.out.apart ha (by have := HBC.out; omega) (.inr HWB.out))
              obtain ⟨ax, cx, ex⟩ := hown.byts.len
              have HRL := Lib.hid HRW.out.lt
              have HSL := Lib.hid HSW.out.lt
              have HBW0 := Lib.hid HBW.out.size
              clear hown hr ha
              subst ex
              go_wp2_with fail
              (with_reducible refine (rrest_any _ c _ _ _ _ _ HS4.out HYL.out).mono ?_)
              rintro e w5 ⟨y, rfl, hown, hs, ha⟩
              have HX5 := Lib.hid (HX4.out.left.apart ha (.inl HSL.out))
              have HC1 := Lib.hid (txt_run _ _ _ hown.byts)
              have HO5 := Lib.hid (show Own w5 wr.heap.size (.slice ax ys.length cx) ys by
                refine ⟨HX4.out.1, ?_⟩
                rcases HX4.out.2 with h | ⟨g, cap, cur, hv, hB, hg, hrest⟩
                · exact .inl h
                · refine .inr ⟨g, cap, cur, hv, hB, ?_, hrest⟩
                  have hlt : g < w4.heap.size := by
                    rcases Nat.lt_or_ge g w4.heap.size with h1 | h1
                    · exact h1
                    · rw [Array.getElem?_eq_none h1] at hg; cases hg
                  rw [ha.block g hlt (by have := HSL.out; omega)]; exact hg)
              have HR5 := Lib.hid (HR4.out.apart ha (by have := HBC.out; omega) (.inr (by have := HBC.out; omega)))
              have HS5 := Lib.hid hs
              have HB5 := Lib.hid (below_apart HB4.out ha (by have := HWB.out; have := HBC.out; omega))
              have k1 := txt_run _ _ _ HX5.out.1
              have k2 := HC1.out
              obtain ⟨ay, cy, ey⟩ := hown.byts.len
              have hyl := HYL.out
              clear hown hs ha HX4 HR4 HB4 HS4 HX5 HC1
              subst ey
              go_wp2_with fail
              clear k1 k2
              go_loopw [14] (fun i wx => ∃ (k : Nat) (zs : List (BitVec 8)), k ≤ ys.length ∧ i = .int .i64 k ∧ zs.length = ys.length ∧ Own wx wr.heap.size (.slice ax ys.length cx) zs ∧ Rd wx 56 b lo b [] bad ∧ Rd wx 29 c 0 w.heap.size [] bad ∧ Below w.heap.size w wx) (fun i _ => ys.length - (intOf i).toNat)
              case atStart => exact ⟨0, ys, by omega, rfl, rfl, HO5.out, HR5.out, HS5.out, HB5.out⟩
              case round =>
                obtain ⟨k, zs, hk, rfl, hz, ho, hr, hs, hb⟩ := hrel
                clear HO5 HR5 HS5 HB5
                have HZ := Lib.hid hz
                have HOX := Lib.hid ho
                have HRX := Lib.hid hr
                have HSX := Lib.hid hs
                have HBX := Lib.hid hb
                clear hz ho hr hs hb
                by_cases hlk : k < ys.length
                · obtain ⟨g, cap, e1, hcap, hBg⟩ := HOX.out.form (by rw [HZ.out]; omega)
                  simp only [Value.slice.injEq] at e1
                  obtain ⟨rfl, _, rfl⟩ := e1
                  obtain ⟨z, hzk⟩ : ∃ z, zs[k]? = some z := ⟨_, List.getElem?_eq_getElem (by rw [HZ.out]; exact hlk)⟩
                  have h6 := HOX.out.cell HZ.out.symm _ z hzk
                  have h7 := HOX.out.frozen HZ.out.symm k
                  have hltI : (k : Int) < (ys.length : Int) := by omega
                  have HO6 := Lib.hid (HOX.out.set_ HZ.out.symm k 9#8)
                  have HR6 := Lib.hid (HRX.out.apart (Apart.set_ g k _ (.int .u8 9)) (by have := HRL.out; omega) (.inr (by have := HRL.out; omega)))
                  have HS6 := Lib.hid (HSX.out.apart (Apart.set_ g k _ (.int .u8 9)) (by have := HSL.out; omega) (.inr (by have := HBW0.out; omega)))
                  have HB6 := Lib.hid (HBX.out.setCell (p := ⟨g, k, none⟩) (show w.heap.size ≤ g by have := HBW0.out; omega) (.int .u8 9))
                  clear hzk hBg
                  go_wp2
                  go_roundw
                  case rel => exact ⟨k + 1, zs.set k 9#8, by omega, by go_num, by rw [List.length_set]; exact HZ.out, HO6.out, HR6.out, HS6.out, HB6.out⟩
                  case measure => simp [intOf]; omega
                · have HBO := Lib.hid (show Both w b lo c _ from ⟨[], bad, by simp, fun _ => rfl, HRX.out, HSX.out, HBX.out⟩)
                  clear HRX HSX HBX HOX HZ
                  go_wp2_with fail
                  go_meet
                  exact ⟨by simp, HBO.out⟩
            · have HBO := Lib.hid (show Both w b lo c wr from ⟨ys, bad, HYL.out, HBAD.out, HRW.out, HSW.out, HBW.out⟩)
              go_wp2_with fail
              go_meet
              exact ⟨by simp, HBO.out⟩
          case rest =>
            obtain ⟨rfl, hbo⟩ := hcut
            clear HRW HSW HBW HBAD HYL
            obtain ⟨ys, bad, hyl, hbad, hr, hs, hb⟩ := hbo
            obtain ⟨_, _, h1c, _, _, _⟩ := hs.cells
            have HBAD := Lib.hid hbad
            have HYL := Lib.hid hyl
            have HRW := Lib.hid hr
            have HSW := Lib.hid hs
            have HBW := Lib.hid hb
            clear hbad hyl hr hs hb
            go_wp2_with fail
            cases bad with
            | true =>
              have HR3 := Lib.hid HRW.out.drew
              have HS3 := Lib.hid HSW.out.drew
              have HB3 := Lib.hid HBW.out.drew
              have HC3 := Lib.hid h1c
              have HER := Lib.hid (err_t _ b _ _ _ _ HR3.out)
              have HYN := Lib.hid (HBAD.out rfl)
              clear HRW HSW HBW HBAD
              go_region_held3 (fun w' => w'.cell? ⟨c, 1, none⟩ = some (.bool true)) (first | exact h1c | exact HC3.out | exact HC4.out | exact HC5.out | exact HC6.out | exact HC7.out)
                (first
                  | (go_at_call 17; (with_reducible refine HER.out.mono ?_); rintro e w4 ⟨g4, hg, rfl, hcc, hb⟩; have HC4 := Lib.hid (below_cell hb HC3.out); have HR4 := Lib.hid (HR3.out.below hb); have HS4 := Lib.hid (HS3.out.below hb); have HB4 := Lib.hid (below_call HB3.out hb); have HE4 := Lib.hid (end_bad _ b _ _ _ _ HR4.out); have HF4 := Lib.hid (rfine_bad _ c _ _ _ _ HS4.out); clear hg hcc hb)
                  | (go_at_call 18; (with_reducible refine HE4.out.mono ?_); rintro e w5 ⟨g5, hg, rfl, hcc, hb⟩; have HC5 := Lib.hid (below_cell hb HC4.out); have HR5 := Lib.hid (HR4.out.below hb); have HS5 := Lib.hid (HS4.out.below hb); have HB5 := Lib.hid (below_call HB4.out hb); have HCD5 := Lib.hid (code_place g5 2 _ hcc); have HE5 := Lib.hid (end_bad _ b _ _ _ _ HR5.out); have HF5 := Lib.hid (rfine_bad _ c _ _ _ _ HS5.out); clear hg hcc hb)
                  | (go_at_call 18; (with_reducible refine HE5.out.mono ?_); rintro e w6 ⟨g6, hg, rfl, hcc, hb⟩; have HC6 := Lib.hid (below_cell hb HC5.out); have HR6 := Lib.hid (HR5.out.below hb); have HS6 := Lib.hid (HS5.out.below hb); have HB6 := Lib.hid (below_call HB5.out hb); have HCD6 := Lib.hid (code_place g6 2 _ hcc); have HE6 := Lib.hid (end_bad _ b _ _ _ _ HR6.out); have HF6 := Lib.hid (rfine_bad _ c _ _ _ _ HS6.out); clear hg hcc hb)
                  | (go_at_call 18; (with_reducible refine HE6.out.mono ?_); rintro e w7 ⟨g7, hg, rfl, hcc, hb⟩; have HC7 := Lib.hid (below_cell hb HC6.out); have HR7 := Lib.hid (HR6.out.below hb); have HS7 := Lib.hid (HS6.out.below hb); have HB7 := Lib.hid (below_call HB6.out hb); have HCD7 := Lib.hid (code_place g7 2 _ hcc); have HE7 := Lib.hid (end_bad _ b _ _ _ _ HR7.out); have HF7 := Lib.hid (rfine_bad _ c _ _ _ _ HS7.out); clear hg hcc hb)
                  | (go_at_call 19; (with_reducible refine HF4.out.mono ?_); rintro e w' ⟨rfl, rfl⟩)
                  | (go_at_call 19; (with_reducible refine HF5.out.mono ?_); rintro e w' ⟨rfl, rfl⟩)
                  | (go_at_call 19; (with_reducible refine HF6.out.mono ?_); rintro e w' ⟨rfl, rfl⟩)
                  | (go_at_call 19; (with_reducible refine HF7.out.mono ?_); rintro e w' ⟨rfl, rfl⟩)
                  | (go_at_call 20; (with_reducible refine HCD5.out.mono ?_); rintro e w' ⟨rfl, rfl⟩)
                  | (go_at_call 20; (with_reducible refine HCD6.out.mono ?_); rintro e w' ⟨rfl, rfl⟩)
                  | (go_at_call 20; (with_reducible refine HCD7.out.mono ?_); rintro e w' ⟨rfl, rfl⟩))
              have HBO := Lib.hid (show Both w b lo c w7 from ⟨ys, true, HYL.out, (fun _ => HYN.out), HR7.out, HS7.out, HB7.out⟩)
              go_wp2_with fail
              go_roundw
              case rel => exact ⟨j + 1, by omega, by go_num, HBO.out⟩
              case measure => simp [intOf]; omega
            | false =>
              by_cases hP : 0 < ys.length
              · have HP := Lib.hid hP
                have HR3 := Lib.hid HRW.out.drew
                have HS3 := Lib.hid HSW.out.drew
                have HB3 := Lib.hid HBW.out.drew
                have HC3 := Lib.hid h1c
                have HER := Lib.hid (err_f _ b _ _ _ _ HR3.out)
                have HE3 := Lib.hid (end_left _ b _ _ _ _ HR3.out HP.out)
                have HF3 := Lib.hid (rfine_left _ c _ _ _ _ HS3.out HP.out)
                clear HRW HSW HBW HBAD hP
                go_region_held3 (fun w' => w'.cell? ⟨c, 1, none⟩ = some (.bool false)) (first | exact h1c | exact HC3.out | exact HC4.out | exact HC5.out | exact HC6.out)
                  (first
                    | (go_at_call 17; (with_reducible refine HER.out.mono ?_); rintro e w' ⟨rfl, rfl⟩)
                    | (go_at_call 18; (with_reducible refine HE3.out.mono ?_); rintro e w4 ⟨g4, hg, rfl, hcc, hb⟩; have HC4 := Lib.hid (below_cell hb HC3.out); have HR4 := Lib.hid (HR3.out.below hb); have HS4 := Lib.hid (HS3.out.below hb); have HB4 := Lib.hid (below_call HB3.out hb); have HCD4 := Lib.hid (code_place g4 2 _ hcc); have HE4 := Lib.hid (end_left _ b _ _ _ _ HR4.out HP.out); have HF4 := Lib.hid (rfine_left _ c _ _ _ _ HS4.out HP.out); clear hg hcc hb)
                    | (go_at_call 18; (with_reducible refine HE4.out.mono ?_); rintro e w5 ⟨g5, hg, rfl, hcc, hb⟩; have HC5 := Lib.hid (below_cell hb HC4.out); have HR5 := Lib.hid (HR4.out.below hb); have HS5 := Lib.hid (HS4.out.below hb); have HB5 := Lib.hid (below_call HB4.out hb); have HCD5 := Lib.hid (code_place g5 2 _ hcc); have HE5 := Lib.hid (end_left _ b _ _ _ _ HR5.out HP.out); have HF5 := Lib.hid (rfine_left _ c _ _ _ _ HS5.out HP.out); clear hg hcc hb)
                    | (go_at_call 18; (with_reducible refine HE5.out.mono ?_); rintro e w6 ⟨g6, hg, rfl, hcc, hb⟩; have HC6 := Lib.hid (below_cell hb HC5.out); have HR6 := Lib.hid (HR5.out.below hb); have HS6 := Lib.hid (HS5.out.below hb); have HB6 := Lib.hid (below_call HB5.out hb); have HCD6 := Lib.hid (code_place g6 2 _ hcc); have HE6 := Lib.hid (end_left _ b _ _ _ _ HR6.out HP.out); have HF6 := Lib.hid (rfine_left _ c _ _ _ _ HS6.out HP.out); clear hg hcc hb)
                    | (go_at_call 19; (with_reducible refine HF3.out.mono ?_); rintro e w' ⟨rfl, rfl⟩)
                    | (go_at_call 19; (with_reducible refine HF4.out.mono ?_); rintro e w' ⟨rfl, rfl⟩)
                    | (go_at_call 19; (with_reducible refine HF5.out.mono ?_); rintro e w' ⟨rfl, rfl⟩)
                    | (go_at_call 19; (with_reducible refine HF6.out.mono ?_); rintro e w' ⟨rfl, rfl⟩)
                    | (go_at_call 20; (with_reducible refine HCD4.out.mono ?_); rintro e w' ⟨rfl, rfl⟩)
                    | (go_at_call 20; (with_reducible refine HCD5.out.mono ?_); rintro e w' ⟨rfl, rfl⟩)
                    | (go_at_call 20; (with_reducible refine HCD6.out.mono ?_); rintro e w' ⟨rfl, rfl⟩))
                have HBO := Lib.hid (show Both w b lo c w6 from ⟨ys, false, HYL.out, (fun h => by cases h), HR6.out, HS6.out, HB6.out⟩)
                go_wp2_with fail
                go_roundw
                case rel => exact ⟨j + 1, by omega, by go_num, HBO.out⟩
                case measure => simp [intOf]; omega
              · obtain rfl : ys = [] := List.eq_nil_of_length_eq_zero (by omega)
                go_quiet ((first
                  | (go_at_call 17; exact quiet_same (err_f _ b _ _ _ _ (HRW.out.drewN _)))
                  | (go_at_call 18; exact quiet_same (end_nil _ b _ _ _ (HRW.out.drewN _)))
                  | (go_at_call 19; exact quiet_same (rfine_t _ c _ _ _ (HSW.out.drewN _)))))
                have HBO := Lib.hid (show Both w b lo c (wc.drewN nq) from ⟨[], false, HYL.out, (fun h => by cases h), HRW.out.drewN _, HSW.out.drewN _, ⟨HBW.out.os, HBW.out.tape, HBW.out.output, HBW.out.size, HBW.out.block⟩⟩)
                go_wp2_with fail
                go_roundw
                case rel => exact ⟨j + 1, by omega, by go_num, HBO.out⟩
                case measure => simp [intOf]; omega
        · go_wp2_with fail
          go_ret
          exact ⟨rfl, HBW.out⟩

set_option maxRecDepth 100000 in
theorem reads_any (v u : Value) (xs : List (BitVec 8)) (cs : List Int) (w : World) (hv : Byts w v xs) (hu : Sl (Value.int .i64) w u cs) (hx : xs.length ≤ 140737488351232) (hm : cs.length ≤ maxLen) :
    Calls Tryd.prog 3 #[v, u] w fun e w' => e = .returned (.bool true) ∧ Below w.heap.size w w' := by
  by_cases hmain : xs.length ≤ 300 ∧ cs.length ≤ 60
  · exact reads_main v u xs cs xs.length w hv hu rfl hmain.1 hmain.2
  · obtain ⟨av, cv, ev⟩ := hv.len
    obtain ⟨au, cu, eu⟩ := hu.len
    have HS := Lib.hid (small_true w)
    have HV := Lib.hid hv
    have HX := Lib.hid hx
    clear hv hu hx
    subst ev eu
    unfold maxLen at hm
    have hc : 300 < xs.length ∨ (xs.length ≤ 300 ∧ 60 < cs.length) := by omega
    clear hmain
    rcases hc with hc | ⟨hc, hd⟩
    all_goals
      go_enter Tryd.func3, Tryd.ntmps3
      go_wp2_with fail
      (with_reducible refine HS.out.mono ?_)
      rintro e w1 ⟨rfl, hb⟩
      have HB := Lib.hid hb
      have HV1 := Lib.hid (HV.out.below hb)
      have HO := Lib.hid (own_lit w1 w1.heap.size [] (Nat.le_refl _) (by unfold maxLen; simp))
      have HBA := Lib.hid ((Below.refl w1.heap.size w1).alloc (Nat.le_refl _) (.cells #[] 5))
      have HV1a := Lib.hid (HV1.out.below HBA.out)
      have hsz := HBA.out.size
      have HXN := Lib.hid (show ([] : List (BitVec 8)).length + xs.length ≤ 140737488355328 by have := HX.out; simp; omega)
      clear hb
      go_wp2_with (at_builtin; refine wpList_app rfl _ _ rfl w1.heap.size _ [] rfl HO.out _ xs rfl HV1a.out HXN.out hsz ?_; intro vi w2 hown1 hg1; have HO1 := Lib.hid hown1; have HB1 := Lib.hid (HO.out.grown HBA.out hg1); clear hown1 hg1 HO HBA HV1a hsz)
      rw [List.nil_append] at HO1
      (with_reducible refine (over_any _ xs _ HO1.out.byts (by have := HX.out; omega)).mono ?_)
      rintro e w3 ⟨b, rfl, hr, hle, hb⟩
      have HB2 := Lib.hid (below_call (below_call HB.out HB1.out) hb)
      clear hr hle hb
      go_wp2_with fail
      go_ret
      exact ⟨rfl, HB2.out⟩
end Go.Proofs.YtpomfdpclnkgpaaDoor

/-
  The walk of crossbucklaw07.LinkPlays: true, whatever it is given.
-/
import Derived.Test.YtmfgfjkpijmgoaaDoorApart
import Derived.Deep.RegionHeld3
import Derived.Deep.CutBlock
import Derived.Deep.DeepCutAuto
namespace Go.Proofs.YtmfgfjkpijmgoaaDoor
open Go.RowKit

set_option maxHeartbeats 4000000 in
set_option maxRecDepth 10000 in
theorem plays_out (fresh ch : Int) (v : Value) (ls : List Ac) (w : World) (hv : Els RAct 4 w v ls) (hbad : 200 < ls.length) :
    Calls Tryd.prog 3 #[.int .i64 fresh, v, .int .i64 ch] w fun e w' => e = .returned (.bool true) ∧ Below w.heap.size w w' := by
  obtain ⟨F, hF⟩ := fresh_nat fresh
  have HF := Lib.hid hF
  obtain ⟨a0, c0, rfl⟩ := hv.len
  have q0 : decide ((200 : Int) < (ls.length : Int)) = true := by simp; omega
  clear hF hbad hv
  go_enter Tryd.func3, Tryd.ntmps3
  go_wp2_with fail
  (with_reducible refine (small_true w).mono ?_)
  rintro e w1 ⟨rfl, hb⟩
  have HB := Lib.hid hb
  clear hb
  go_wp2_with fail
  (with_reducible refine (ln_new fresh F HF.out HB.out).mono ?_)
  rintro e w2 ⟨b, rfl, hl⟩
  have HL := Lib.hid hl
  clear hl
  go_wp2_with fail
  go_ret
  exact ⟨rfl, HL.out.bel⟩
/-- An act among the arguments, at whatever world behind. -/
theorem row_all {w : World} {g o : Nat} {y : Ac} (h : RAct w g o y) : ∃ a c, ∀ W, Below w.heap.size w W → W.cell? ⟨g, o, none⟩ = some (.bool y.tick) ∧ W.cell? ⟨g, o + 1, none⟩ = some (.int .i64 y.c) ∧ W.cell? ⟨g, o + 1 + 1, none⟩ = some (.int .i64 y.q) ∧ W.cell? ⟨g, o + 1 + 2, none⟩ = some (.slice a y.xs.length c) ∧ Byts W (.slice a y.xs.length c) y.xs := by
  obtain ⟨a, c, h0, h1, h2, h3, h4⟩ := act_cells h
  exact ⟨a, c, fun W hb => ⟨below_cell hb h0, below_cell hb h1, below_cell hb h2, below_cell hb h3, h4.below hb⟩⟩
set_option maxHeartbeats 8000000 in
set_option maxRecDepth 10000 in
theorem plays_main (fresh ch : Int) (v : Value) (ls : List Ac) (w : World) (hv : Els RAct 4 w v ls) (hl : ls.length ≤ 200) :
    Calls Tryd.prog 3 #[.int .i64 fresh, v, .int .i64 ch] w fun e w' => e = .returned (.bool true) ∧ Below w.heap.size w w' := by
  obtain ⟨F, hF⟩ := fresh_nat fresh
  have HF := Lib.hid hF
  obtain ⟨L, HL0⟩ : ∃ L, Hid (L = ls.length) := ⟨_, Lib.hid rfl⟩
  obtain ⟨a0, c0, ev⟩ := hv.len
  rw [← HL0.out] at ev hl
  have HV := Lib.hid hv
  have q0 : decide ((200 : Int) < (L : Int)) = false := by simp; omega
  clear hF hv
  subst ev
  go_enter Tryd.func3, Tryd.ntmps3
  go_wp2_with fail
  (with_reducible refine (small_true w).mono ?_)
  rintro e w1 ⟨rfl, hb⟩
  have HB := Lib.hid hb
  clear hb
  go_wp2_with fail
  (with_reducible refine (ln_new fresh F HF.out HB.out).mono ?_)
  rintro e w2 ⟨b, rfl, hl2⟩
  have HL := Lib.hid hl2
  clear hl2
  go_wp2_with fail
  (with_reducible refine (tw_rnew HL.out fresh HF.out).mono ?_)
  rintro e w3 ⟨b', rfl, ht⟩
  have HT := Lib.hid ht
  clear ht HL HB
  go_wp2_with fail
  go_loopw [10] (fun u10 wr => ∃ (i : Nat) (f : Nat → Ch), i ≤ L ∧ u10 = .int .i64 (i : Int) ∧ Hid (Tw true false 55 57 w wr F b f b' f)) (fun u10 _ => L - (intOf u10).toNat)
  case atStart => exact ⟨0, _, by omega, rfl, HT⟩
  case round =>
    obtain ⟨i, f, hi, rfl, HTr⟩ := hrel
    clear HT
    by_cases hlt : i < L
    · have hlz : (i : Int) < (L : Int) := by omega
      have hi0 : (0 : Int) ≤ (i : Int) := by omega
      obtain ⟨y, hy⟩ : ∃ y, ls[i]? = some y := ⟨_, List.getElem?_eq_getElem (by rw [← HL0.out]; exact hlt)⟩
      obtain ⟨g, o, ea, hr⟩ := HV.out.at_ hy
      subst ea
      have HR := Lib.hid hr
      obtain ⟨ya, yc, hrow⟩ := row_all hr
      obtain ⟨tk, c, q, xs⟩ := y
      simp only at hrow
      have HROW := Lib.hid hrow
      obtain ⟨x0, x1, x2, x3, _⟩ := HROW.out wr HTr.out.bel
      clear hy hr hrow
      by_cases hx : xs.length ≤ 100
      · have q3 : decide ((100 : Int) < (xs.length : Int)) = false := by simp; omega
        have HX100 := Lib.hid hx
        clear hx
        go_upto_if 56 with fail
        go_cut [12] (fun _ wx => ∃ f2 : Nat → Ch, Tw true false 55 57 w wx F b f2 b' f2)
        case first =>
          cases tk with
          | true =>
            go_wp2_with fail
            (with_reducible refine (tw_tick HTr.out).mono ?_)
            rintro e w4 ⟨rfl, ht, _⟩
            have HT4 := Lib.hid ht
            clear ht HTr x0 x1 x2 x3
            go_wp2_with fail
            (with_reducible refine (tw_rtick HT4.out).mono ?_)
            rintro e w5 ⟨rfl, ht, _⟩
            have HT5 := Lib.hid ht
            clear ht HT4
            go_wp2_with fail
            go_meet
            exact ⟨_, HT5.out⟩
          | false =>
            obtain ⟨n, HN⟩ : ∃ n, Hid (n = xs.length) := ⟨_, Lib.hid rfl⟩
            have hn100 : n ≤ 100 := by rw [HN.out]; exact HX100.out
            have hyb : Byts wr (.slice ya xs.length yc) xs := (HROW.out wr HTr.out.bel).2.2.2.2
            rw [← HN.out] at x3 hyb
            -- the telegram's box, the empty slice
            have HB1 := Lib.hid (below_alloc (Below.refl _ wr) (.cells #[.int .i64 c, .int .i64 q, .slice ya n yc] 30))
            have HX1 := Lib.hid (blk_new wr #[.int .i64 c, .int .i64 q, .slice ya n yc] 30)
            obtain ⟨W1, hW1⟩ : ∃ W1, W1 = wr.alloc (.cells #[.int .i64 c, .int .i64 q, .slice ya n yc] 30) := ⟨_, rfl⟩
            have hs1 : W1.heap.size = wr.heap.size + 1 := by rw [hW1]; simp
            rw [← hW1] at HB1 HX1
            have HB2 := Lib.hid (below_alloc (Below.refl _ W1) (.cells #[] 5))
            have ho2 : Own (W1.alloc (.cells #[] 5)) W1.heap.size (.slice (some ⟨wr.heap.size + 1, 0, none⟩) 0 0) [] := by
              rw [← hs1]
              exact own_lit W1 W1.heap.size [] (Nat.le_refl _) (by unfold maxLen; simp)
            have HO2 := Lib.hid ho2
            have HU2 := Lib.hid (hyb.below (below_call HB1.out HB2.out))
            have HLL := Lib.hid (show ([] : List (BitVec 8)).length + xs.length ≤ 140737488355328 by rw [← HN.out]; simp; omega)
            obtain ⟨b0, b1, b2⟩ := (HX1.out.below HB2.out).three
            rw [hW1] at b0 b1 b2
            have HS1 := Lib.hid hs1
            have HW1 := Lib.hid hW1
            clear ho2 hyb hW1 hs1
            go_upto_region 16 with (
              at_builtin; rw [← HW1.out]; refine wpList_app rfl _ _ rfl W1.heap.size _ [] rfl HO2.out _ xs rfl HU2.out HLL.out HB2.out.size ?_; intro v1 w3 hown1 hg1
              have HB3 := Lib.hid (HO2.out.grown HB2.out hg1)
              have HO3 := Lib.hid (show Own w3 W1.heap.size v1 xs by simpa using hown1)
              obtain ⟨ra, rc, er⟩ := HO3.out.byts.len
              have HX3 := Lib.hid (HX1.out.below HB3.out)
              obtain ⟨d0, d1, d2⟩ := HX3.out.three
              have f2 := HX3.out.frz 2
              have HER := Lib.hid er
              clear hown1 hg1 b0 b1 b2
              subst er)
            have hblt := HTr.out.blt
            rw [← HN.out] at HO3 HER HROW ⊢
            have hs3 := HB3.out.size
            have hs1 := HS1.out
            have HLT := Lib.hid (show wr.heap.size ≠ b ∧ wr.heap.size ≠ b' by omega)
            have hw3 := below_call HB1.out HB3.out
            have HX4 := Lib.hid (show Blk (w3.setCell ⟨wr.heap.size, 2, none⟩ (.slice ra n rc)) wr.heap.size #[.int .i64 c, .int .i64 q, .slice ra n rc] 30 from HX3.out.set_ 2 (.slice ra n rc))
            have HT4 := Lib.hid (Twx.store (X := fun z => z = wr.heap.size ∨ (Value.slice ra n rc).ownBlock = some z) (HTr.out.own hw3 _ (fun z hz => by
              rcases hz with rfl | hz
              · exact ⟨Nat.le_refl _, by omega⟩
              · have := World.ownsRow.lt HO3.out z hz
                exact ⟨by omega, this.2⟩)) (g := wr.heap.size) (.inl rfl) 2 (.slice ra n rc))
            have HO4 := Lib.hid (HO3.out.keepB ((Keep.refl (fun z => z = wr.heap.size) w3).store wr.heap.size 2 (.slice ra n rc) rfl) (fun z hz e => by
              have := (World.ownsRow.lt HO3.out z hz).1
              omega))
            have HBB := Lib.hid (show ∀ z, (Value.slice ra n rc).ownBlock = some z → z ≠ b ∧ z ≠ b' by
              intro z hz
              have := (World.ownsRow.lt HO3.out z hz).1
              omega)
            have HG1 := Lib.hid (show ∀ z, W1.heap.size ≤ z → wr.heap.size ≠ z by intro z hz; omega)
            generalize w3.setCell ⟨wr.heap.size, 2, none⟩ (.slice ra n rc) = w4 at *
            generalize wr.heap.size = g11 at *
            clear hw3 hs3 hs1 hblt HX3 HO3 HB3 HB1 HB2 HX1 HO2 HU2 HS1 HW1 d0 d1 d2 f2 HTr x0 x1 x2 x3
            obtain ⟨kk, HKK⟩ : ∃ kk, Hid (kk = tcode F f c q xs.length) := ⟨_, Lib.hid rfl⟩
            have HA1 := tw_take (HT4.out.still (bel_drew w4)) c q _ xs (HO4.out.below (bel_drew w4)).byts
            rw [← HKK.out] at HA1
            have HA1 := Lib.hid HA1
            have qk : (kk != kk) = false := by simp
            obtain ⟨y0, y1, y2⟩ := HX4.out.three
            obtain ⟨_, z1, z2, z3, _⟩ := HROW.out w4 HT4.out.bel
            go_region_held3 (fun w' => (w'.cell? ⟨g11, 0, none⟩ = some (.int .i64 c) ∧ w'.cell? ⟨g11, 1, none⟩ = some (.int .i64 q) ∧ w'.cell? ⟨g11, 2, none⟩ = some (.slice ra n rc)) ∧ w'.cell? ⟨g, o + i * 4 + 1, none⟩ = some (.int .i64 c) ∧ w'.cell? ⟨g, o + i * 4 + 1 + 1, none⟩ = some (.int .i64 q) ∧ w'.cell? ⟨g, o + i * 4 + 1 + 2, none⟩ = some (.slice ya n yc))
              (first | exact ⟨⟨y0, y1, y2⟩, z1, z2, z3⟩ | exact HK5.out | exact HK6.out)
              (first
                | (go_at_call 15; (with_reducible refine HA1.out.mono ?_); rintro e w5 ⟨e5, rfl, he, ht, hk⟩
                   have HT5 := Lib.hid ht; have HE5 := Lib.hid he
                   have HX5 := Lib.hid ((HX4.out.below (bel_drew w4)).keep hk HLT.out.1)
                   have HO5 := Lib.hid ((HO4.out.below (bel_drew w4)).keepB hk (fun z hz e => (HBB.out z hz).1 e))
                   have hr5 := HROW.out w5 ht.bel
                   have HK5 := Lib.hid (And.intro HX5.out.three (And.intro hr5.2.1 (And.intro hr5.2.2.1 hr5.2.2.2.1)))
                   have HA2 := Lib.hid (tw_rtake ht c q _ xs hr5.2.2.2.2)
                   clear he ht hk hr5)
                | (go_at_call 14; (with_reducible refine (code_err HE5.out).mono ?_); rintro e w6 ⟨rfl, rfl⟩)
                | (go_at_call 16; (with_reducible refine HA2.out.mono ?_); rw [← HKK.out]; rintro e w6 ⟨rfl, ht, hk⟩
                   have HT6 := Lib.hid ht
                   have HX6 := Lib.hid (HX5.out.keep hk HLT.out.2)
                   have HO6 := Lib.hid (HO5.out.keepB hk (fun z hz e => (HBB.out z hz).2 e))
                   have hr6 := HROW.out w6 ht.bel
                   have HK6 := Lib.hid (And.intro HX6.out.three (And.intro hr6.2.1 (And.intro hr6.2.2.1 hr6.2.2.2.1)))
                   clear ht hk hr6))
            clear y0 y1 y2 z1 z2 z3 HA1 HA2 HK5 HK6 HX5 HO5 HT5 HE5 HX4 HT4 HO4
            go_wp2_with fail
            go_loopw [12] (fun u12 wx => ∃ (j : Nat) (zs : List (BitVec 8)), j ≤ n ∧ u12 = .int .i64 (j : Int) ∧ Hid (zs.length = n) ∧ Hid (Twx (fun z => z = g11 ∨ (Value.slice ra n rc).ownBlock = some z) true false 55 57 w wx F b (taken F f c q xs) b' (taken F f c q xs)) ∧ Hid (Own wx W1.heap.size (.slice ra n rc) zs) ∧ Hid (Blk wx g11 #[.int .i64 c, .int .i64 q, .slice ra n rc] 30)) (fun u12 _ => n - (intOf u12).toNat)
            case atStart => exact ⟨0, xs, by omega, rfl, Lib.hid HN.out.symm, HT6, HO6, HX6⟩
            case round =>
              obtain ⟨j, zs, hj, rfl, HZ, HXr, HOr, HBr⟩ := hrel
              clear HT6 HO6 HX6
              obtain ⟨y0, y1, y2⟩ := HBr.out.three
              by_cases hjl : j < n
              · have hjz : (j : Int) < (n : Int) := by omega
                have hj0 : (0 : Int) ≤ (j : Int) := by omega
                obtain ⟨ga, cap, e5, _, hga⟩ := HOr.out.form (by rw [HZ.out]; omega)
                rw [HZ.out] at e5
                simp only [Value.slice.injEq, true_and] at e5
                obtain ⟨rfl, rfl⟩ := e5
                obtain ⟨z, hz⟩ : ∃ z, zs[j]? = some z := ⟨_, List.getElem?_eq_getElem (by rw [HZ.out]; exact hjl)⟩
                have k0 := HOr.out.cell HZ.out.symm j z hz
                have k1 := HOr.out.frozen HZ.out.symm j
                have hne : g11 ≠ ga := HG1.out ga hga
                have HO2 := Lib.hid (HOr.out.set_ HZ.out.symm j 7#8)
                have HX2 := Lib.hid (HXr.out.store (g := ga) (.inr rfl) j (.int .u8 7))
                have HB2 := Lib.hid (HBr.out.far ga j (.int .u8 7) hne)
                have HZ2 := Lib.hid (show (zs.set j 7#8).length = n by rw [List.length_set]; exact HZ.out)
                clear hz HXr HOr HZ HBr hga hne
                go_wp2_with fail
                go_roundw
                case rel => exact ⟨j + 1, zs.set j 7#8, by omega, by go_num, HZ2, HX2, HO2, HB2⟩
                case measure => simp [intOf]; omega
              · have hjz : (n : Int) ≤ (j : Int) := by omega
                go_wp2_with fail
                go_meet
                exact ⟨_, HXr.out.drop⟩
        case rest =>
          clear x0 x1 x2 x3 HTr
          obtain ⟨f2, ht⟩ := hcut
          have HT4 := Lib.hid ht
          clear ht
          have x1 := (HROW.out wc HT4.out.bel).2.1
          obtain ⟨r, HRR⟩ : ∃ r : Bool, Hid (r = isF F (peek f2 c)) := ⟨_, Lib.hid rfl⟩
          obtain ⟨cc, HCC⟩ : ∃ cc : Ch, Hid (cc = peek f2 c) := ⟨_, Lib.hid rfl⟩
          obtain ⟨cd, HCD⟩ : ∃ cd : Ch, Hid (cd = peek f2 ch) := ⟨_, Lib.hid rfl⟩
          have HRC := Lib.hid (show r = isF F cc by rw [HCC.out]; exact HRR.out)
          have qr : (r != r) = false := by simp
          go_wp2_with fail
          (with_reducible refine (tw_fresh HT4.out c cc HCC.out r HRC.out).mono ?_)
          rintro e w5 ⟨r5, rfl, ho, ht, hb⟩
          obtain ⟨a5, c5, er⟩ := ho.byts.len
          have HO5 := Lib.hid ho
          have HT5 := Lib.hid ht
          have HB5 := Lib.hid hb
          clear ho ht hb x1
          subst er
          go_wp2_with fail
          (with_reducible refine (tw_rfresh HT5.out c cc HCC.out r HRC.out).mono ?_)
          rintro e w6 ⟨r6, rfl, ho, ht, hb⟩
          obtain ⟨a6, c6, er⟩ := ho.byts.len
          have ct1 := txt_run _ _ _ (HO5.out.below hb).byts
          have ct2 := txt_run _ _ _ ho.byts
          have qt := txt_same cc.xs
          have HO6 := Lib.hid (HO5.out.below hb)
          have HB6 := Lib.hid (below_call HB5.out hb)
          have HX6 := Lib.hid (HT4.out.own HB6.out (fun z => (Value.slice a5 cc.xs.length c5).ownBlock = some z) (fun z hz => World.ownsRow.lt HO6.out z hz))
          obtain ⟨n, HN⟩ : ∃ n, Hid (n = cc.xs.length) := ⟨_, Lib.hid rfl⟩
          have hn16 : n ≤ 1000 := by
            obtain ⟨v1, D1, v2, D2, h1, _⟩ := HT4.out
            rw [HN.out, HCC.out]
            unfold peek
            split
            · have := (h1.ok c.toNat (by omega)).len; omega
            · simp [noCh]
          clear ho ht hb HT5 HB5 HO5
          subst er
          rw [← HN.out] at ct1 ct2 HO6 HX6 ⊢
          go_wp2_with fail
          go_loopw [19] (fun u19 wx => ∃ (j : Nat) (zs : List (BitVec 8)), j ≤ n ∧ u19 = .int .i64 (j : Int) ∧ Hid (zs.length = n) ∧ Hid (Twx (fun z => (Value.slice a5 n c5).ownBlock = some z) true false 55 57 w wx F b f2 b' f2) ∧ Hid (Own wx wc.heap.size (.slice a5 n c5) zs)) (fun u19 _ => n - (intOf u19).toNat)
          case atStart => exact ⟨0, cc.xs, by omega, rfl, Lib.hid HN.out.symm, HX6, HO6⟩
          case round =>
            obtain ⟨j, zs, hj, rfl, HZ, HXr, HOr⟩ := hrel
            clear ct1 ct2 HO6 HX6
            by_cases hjl : j < n
            · have hjz : (j : Int) < (n : Int) := by omega
              have hj0 : (0 : Int) ≤ (j : Int) := by omega
              obtain ⟨ga, cap, e5, _, _⟩ := HOr.out.form (by rw [HZ.out]; omega)
              rw [HZ.out] at e5
              simp only [Value.slice.injEq, true_and] at e5
              obtain ⟨rfl, rfl⟩ := e5
              obtain ⟨z, hz⟩ : ∃ z, zs[j]? = some z := ⟨_, List.getElem?_eq_getElem (by rw [HZ.out]; exact hjl)⟩
              have k0 := HOr.out.cell HZ.out.symm j z hz
              have k1 := HOr.out.frozen HZ.out.symm j
              have HO2 := Lib.hid (HOr.out.set_ HZ.out.symm j 9#8)
              have HX2 := Lib.hid (HXr.out.store (g := ga) rfl j (.int .u8 9))
              have HZ2 := Lib.hid (show (zs.set j 9#8).length = n by rw [List.length_set]; exact HZ.out)
              clear hz HXr HOr HZ
              go_wp2_with fail
              go_roundw
              case rel => exact ⟨j + 1, zs.set j 9#8, by omega, by go_num, HZ2, HX2, HO2⟩
              case measure => simp [intOf]; omega
            · have hjz : (n : Int) ≤ (j : Int) := by omega
              have HT7 := Lib.hid HXr.out.drop
              clear HXr HOr HZ
              go_wp2_with fail
              (with_reducible refine (tw_at HT7.out c cc HCC.out).mono ?_)
              rintro e w8 ⟨r8, rfl, ho, ht, hb⟩
              have HO8 := Lib.hid ho.byts
              have HT8 := Lib.hid ht
              clear ho ht hb HT7
              go_wp2_with fail
              (with_reducible refine (tw_rat HT8.out c cc HCC.out).mono ?_)
              rintro e w9 ⟨r9, rfl, ho, ht, hb⟩
              have HO9 := Lib.hid ho.byts
              have HO89 := Lib.hid (HO8.out.below hb)
              have HT9 := Lib.hid ht
              clear ho ht hb HT8 HO8
              go_wp2_with fail
              (with_reducible refine (rsame_yes _ _ _ _ _ cc.xs _ HO89.out HO9.out).mono ?_)
              rintro e w10 ⟨rfl, hb⟩
              have HT10 := Lib.hid (HT9.out.still hb)
              clear hb HT9 HO9 HO89
              go_wp2_with fail
              (with_reducible refine (tw_at HT10.out ch cd HCD.out).mono ?_)
              rintro e w11 ⟨r11, rfl, ho, ht, hb⟩
              have HO11 := Lib.hid ho.byts
              have HT11 := Lib.hid ht
              clear ho ht hb HT10
              go_wp2_with fail
              (with_reducible refine (tw_rat HT11.out ch cd HCD.out).mono ?_)
              rintro e w12 ⟨r12, rfl, ho, ht, hb⟩
              have HO12 := Lib.hid ho.byts
              have HO112 := Lib.hid (HO11.out.below hb)
              have HT12 := Lib.hid ht
              clear ho ht hb HT11 HO11
              go_wp2_with fail
              (with_reducible refine (rsame_yes _ _ _ _ _ cd.xs _ HO112.out HO12.out).mono ?_)
              rintro e w13 ⟨rfl, hb⟩
              have HT13 := Lib.hid (HT12.out.still hb)
              clear hb HT12 HO12 HO112
              go_wp2_with fail
              go_roundw
              case rel => exact ⟨i + 1, f2, by omega, by go_num, HT13⟩
              case measure => simp [intOf]; omega
      · have q3 : decide ((100 : Int) < (xs.length : Int)) = true := by simp; omega
        clear hx
        go_wp2_with fail
        go_ret
        exact ⟨rfl, HTr.out.bel⟩
    · have hge : (L : Int) ≤ (i : Int) := by omega
      go_wp2_with fail
      go_ret
      exact ⟨rfl, HTr.out.bel⟩
theorem plays_any (fresh ch : Int) (v : Value) (ls : List Ac) (w : World) (hv : Els RAct 4 w v ls) :
    Calls Tryd.prog 3 #[.int .i64 fresh, v, .int .i64 ch] w fun e w' => e = .returned (.bool true) ∧ Below w.heap.size w w' := by
  by_cases h : 200 < ls.length
  · exact plays_out fresh ch v ls w hv h
  · exact plays_main fresh ch v ls w hv (by omega)
end Go.Proofs.YtmfgfjkpijmgoaaDoor

/-
  WheelPlays, walked.
-/
import Derived.Test.YtaonnkocopngaaaDoorDuo
import Derived.Test.YtaonnkocopngaaaDoorTriples
import Derived.Deep.CutBlock
import Derived.Deep.DeepCutAuto
import Derived.Deep.RegionHeld3
namespace Go.Proofs.YtaonnkocopngaaaDoor
open Go.RowKit

variable {b n now x : Nat} {A ts : List Tm} {w wr w2 : World}
theorem Duo.drw (h : Duo w wr b n now A x ts) : Duo w wr.drew b n now A x ts := h.still (below_drewN wr 1)
theorem tri_at {v : Value} {ls : List (Int × Int × Int)} (h : Tri w v ls) {a0 : Option Addr} {L c0 : Nat} (hv : v = .slice a0 L c0) {i : Nat} {y : Int × Int × Int} (hy : ls[i]? = some y) : ∃ g o, a0 = some ⟨g, o, none⟩ ∧ w.cell? ⟨g, o + i * 3, none⟩ = some (.int .i64 y.1) ∧ w.cell? ⟨g, o + i * 3 + 1, none⟩ = some (.int .i64 y.2.1) ∧ w.cell? ⟨g, o + i * 3 + 2, none⟩ = some (.int .i64 y.2.2) := by
  obtain ⟨a, c, e, h1⟩ := h
  rw [hv] at e
  simp only [Value.slice.injEq] at e
  rw [e.1]
  exact h1 i y hy

set_option maxRecDepth 10000 in
set_option maxHeartbeats 4000000 in
theorem plays_main (pool : Int) (v : Value) (ls : List (Int × Int × Int)) (w : World) (hs : Tri w v ls) (hl : ls.length ≤ 60) :
    Calls Tryd.prog 3 #[.int .i64 pool, v] w fun e w' => e = .returned (.bool true) ∧ Below w.heap.size w w' := by
  obtain ⟨n, hn⟩ : ∃ n : Nat, (n : Int) = min (max pool 0) 64 := ⟨(min (max pool 0) 64).toNat, by omega⟩
  have HN := Lib.hid hn
  obtain ⟨L, HL⟩ : ∃ L, Hid (L = ls.length) := ⟨_, Lib.hid rfl⟩
  obtain ⟨a0, c0, ev⟩ : ∃ a0 c0, v = .slice a0 L c0 := by
    obtain ⟨a, c, e, _⟩ := hs
    exact ⟨a, c, by rw [e, HL.out]⟩
  have HS := Lib.hid hs
  have HV := Lib.hid ev
  rw [← HL.out] at hl
  clear hs hn
  subst ev
  have q1 : decide (60 < (L : Int)) = false := by simp; omega
  go_enter Tryd.func3, Tryd.ntmps3
  go_wp2_with fail
  (with_reducible refine (small_true w).mono ?_)
  rintro e w1 ⟨rfl, hb⟩
  have HB := Lib.hid hb
  clear hb
  go_wp2_with fail
  (with_reducible refine (mine_new pool n HN.out HB.out).mono ?_)
  rintro e w2 ⟨b, rfl, hm⟩
  have HM := Lib.hid hm
  clear hm HB
  go_wp2_with fail
  (with_reducible refine (duo_new pool n HN.out HM.out).mono ?_)
  rintro e w3 ⟨x, rfl, hd⟩
  have HD := Lib.hid hd
  clear hd HM q1
  go_wp2_with fail
  go_loopw [8, 9] (fun u8 u9 wr => ∃ (i now : Nat) (A : List Tm), i ≤ L ∧ now ≤ 20000 ∧ u8 = .int .i64 (now : Int) ∧ u9 = .int .i64 (i : Int) ∧ Hid (Duo w wr b n now A x (A.map (rel now)))) (fun _ u9 _ => L - (intOf u9).toNat)
  case atStart => exact ⟨0, 0, [], by omega, by omega, rfl, rfl, HD⟩
  case round =>
    obtain ⟨i, now, A, hi, hno, rfl, rfl, HA⟩ := hrel
    clear HD
    by_cases hlt : i < L
    · have hlz : (i : Int) < (L : Int) := by omega
      obtain ⟨y, hy⟩ : ∃ y, ls[i]? = some y := ⟨_, List.getElem?_eq_getElem (by rw [← HL.out]; exact hlt)⟩
      obtain ⟨d, N, tg⟩ := y
      have HY := Lib.hid hy
      obtain ⟨g, o, ea, hc0, hc1, hc2⟩ := tri_at (HS.out.below HA.out.bel) rfl hy
      subst ea
      clear hy
      simp only at hc0 hc1 hc2
      have HNO := Lib.hid hno
      clear hno
      have HCL := Lib.hid (show ∀ W, Below w.heap.size w W → W.cell? ⟨g, o + i * 3 + 1, none⟩ = some (.int .i64 N) ∧ W.cell? ⟨g, o + i * 3 + 2, none⟩ = some (.int .i64 tg) by
        intro W hW
        obtain ⟨g2, o2, e2, _, r2, r3⟩ := tri_at (HS.out.below hW) rfl HY.out
        simp only [Option.some.injEq, Addr.mk.injEq] at e2
        obtain ⟨rfl, rfl, _⟩ := e2
        exact ⟨r2, r3⟩)
      go_upto_block 2 with fail
      go_cut [8] (fun u8 wx => ∃ (now : Nat) (A : List Tm), now ≤ 20000 ∧ u8 = .int .i64 (now : Int) ∧ Duo w wx b n now A x (A.map (rel now)))
      case first =>
        have hcc := HCL.out wr HA.out.bel
        by_cases m0 : d.tmod 3 = 0
        · have s0 : (d.tmod 3 == 0) = true := by simp [m0]
          clear m0 hc0 hc1 hc2
          rcases Decidable.em (N < 1 ∨ 16777215 < N) with hN | hN
          · obtain ⟨k, HK⟩ : ∃ k : Int, Hid ((k = 6 ∧ (N < 1 ∨ 16777215 < N)) ∨ (k = 5 ∧ 1 ≤ N ∧ N ≤ 16777215 ∧ A.length = n)) := ⟨_, Lib.hid (.inl ⟨rfl, hN⟩)⟩
            have qk : (k != k) = false := by simp
            have HA1 := Lib.hid (duo_arm_bad HA.out.drw N tg k HK.out)
            go_wp2_with fail
            go_region_held3 (fun w' => w'.cell? ⟨g, o + i * 3 + 1, none⟩ = some (.int .i64 N) ∧ w'.cell? ⟨g, o + i * 3 + 2, none⟩ = some (.int .i64 tg)) (first | exact hcc | exact HK4.out)
              (first | (go_at_call 12; (with_reducible refine HA1.out.mono ?_); rintro e w4 ⟨ge, rfl, hce, hd⟩; have HD4 := Lib.hid hd; have HK4 := Lib.hid (HCL.out w4 hd.bel); have HCE := Lib.hid hce; clear hd hce))
            have hcc4 := HK4.out
            clear hcc HA1
            have HA2 := Lib.hid (duo_rarm_bad HD4.out.drw N tg k HK.out)
            go_wp2_with fail
            go_region_held3 (fun w' => w'.cell? ⟨g, o + i * 3 + 1, none⟩ = some (.int .i64 N) ∧ w'.cell? ⟨g, o + i * 3 + 2, none⟩ = some (.int .i64 tg)) (first | exact hcc4 | exact HK5.out)
              (first | (go_at_call 13; (with_reducible refine HA2.out.mono ?_); rintro e w5 ⟨rfl, hb⟩; have HD5 := Lib.hid (HD4.out.drw.still hb); have HK5 := Lib.hid (HCL.out w5 HD5.out.bel); have HCE5 := Lib.hid (below_cell hb (show (w4.drew).cell? ⟨ge, 1, none⟩ = _ from HCE.out)); clear hb))
            clear hcc4 HK5 HA2 HCE
            go_wp2_with fail
            (with_reducible refine (code_place ge k _ HCE5.out).mono ?_)
            rintro e w6 ⟨rfl, hw⟩
            cases hw
            go_wp2_with fail
            go_meet
            exact ⟨now, A, HNO.out, rfl, HD5.out⟩
          · by_cases hfl : A.length = n
            · obtain ⟨k, HK⟩ : ∃ k : Int, Hid ((k = 6 ∧ (N < 1 ∨ 16777215 < N)) ∨ (k = 5 ∧ 1 ≤ N ∧ N ≤ 16777215 ∧ A.length = n)) := ⟨_, Lib.hid (.inr ⟨rfl, by omega, by omega, hfl⟩)⟩
              have qk : (k != k) = false := by simp
              have HA1 := Lib.hid (duo_arm_bad HA.out.drw N tg k HK.out)
              go_wp2_with fail
              go_region_held3 (fun w' => w'.cell? ⟨g, o + i * 3 + 1, none⟩ = some (.int .i64 N) ∧ w'.cell? ⟨g, o + i * 3 + 2, none⟩ = some (.int .i64 tg)) (first | exact hcc | exact HK4.out)
                (first | (go_at_call 12; (with_reducible refine HA1.out.mono ?_); rintro e w4 ⟨ge, rfl, hce, hd⟩; have HD4 := Lib.hid hd; have HK4 := Lib.hid (HCL.out w4 hd.bel); have HCE := Lib.hid hce; clear hd hce))
              have hcc4 := HK4.out
              clear hcc HA1
              have HA2 := Lib.hid (duo_rarm_bad HD4.out.drw N tg k HK.out)
              go_wp2_with fail
              go_region_held3 (fun w' => w'.cell? ⟨g, o + i * 3 + 1, none⟩ = some (.int .i64 N) ∧ w'.cell? ⟨g, o + i * 3 + 2, none⟩ = some (.int .i64 tg)) (first | exact hcc4 | exact HK5.out)
                (first | (go_at_call 13; (with_reducible refine HA2.out.mono ?_); rintro e w5 ⟨rfl, hb⟩; have HD5 := Lib.hid (HD4.out.drw.still hb); have HK5 := Lib.hid (HCL.out w5 HD5.out.bel); have HCE5 := Lib.hid (below_cell hb (show (w4.drew).cell? ⟨ge, 1, none⟩ = _ from HCE.out)); clear hb))
              clear hcc4 HK5 HA2 HCE
              go_wp2_with fail
              (with_reducible refine (code_place ge k _ HCE5.out).mono ?_)
              rintro e w6 ⟨rfl, hw⟩
              cases hw
              go_wp2_with fail
              go_meet
              exact ⟨now, A, HNO.out, rfl, HD5.out⟩
            · have hlt2 : A.length < n := by have := HA.out.fits.1; omega
              obtain ⟨m, hm⟩ := least_some n A hlt2
              obtain ⟨k, hk⟩ : ∃ k : Nat, N = (k : Int) := ⟨N.toNat, by omega⟩
              have hk1 : 1 ≤ k := by omega
              have hk2 : k ≤ 16777215 := by omega
              have qm : ((m : Int) != (m : Int)) = false := by simp
              have HKN := Lib.hid hk
              have HM := Lib.hid hm
              have HLT := Lib.hid hlt2
              have HA1 := Lib.hid (duo_arm HA.out.drw (by have := HNO.out; omega) m k hm N tg hk hk1 hk2)
              have HK1 := Lib.hid hk1
              have HK2 := Lib.hid hk2
              clear hN hfl hlt2 hm hk hk1 hk2
              go_wp2_with fail
              go_region_held3 (fun w' => w'.cell? ⟨g, o + i * 3 + 1, none⟩ = some (.int .i64 N) ∧ w'.cell? ⟨g, o + i * 3 + 2, none⟩ = some (.int .i64 tg)) (first | exact hcc | exact HK4.out)
                (first | (go_at_call 12; (with_reducible refine HA1.out.mono ?_); rintro e w4 ⟨rfl, hd⟩; have HD4 := Lib.hid hd; have HK4 := Lib.hid (HCL.out w4 hd.bel); clear hd))
              have hcc4 := HK4.out
              clear hcc HA1
              have HA2 := Lib.hid (duo_rarm HD4.out.drw HLT.out m k HM.out N tg HKN.out HK1.out HK2.out rfl)
              go_wp2_with fail
              go_region_held3 (fun w' => w'.cell? ⟨g, o + i * 3 + 1, none⟩ = some (.int .i64 N) ∧ w'.cell? ⟨g, o + i * 3 + 2, none⟩ = some (.int .i64 tg)) (first | exact hcc4 | exact HK5.out)
                (first | (go_at_call 13; (with_reducible refine HA2.out.mono ?_); rintro e w5 ⟨rfl, hd⟩; have HD5 := Lib.hid hd; have HK5 := Lib.hid (HCL.out w5 hd.bel); clear hd))
              clear hcc4 HK5 HA2
              go_wp2_with fail
              (with_reducible refine (code_nil _).mono ?_)
              rintro e w6 ⟨rfl, hw⟩
              cases hw
              go_wp2_with fail
              go_meet
              exact ⟨now, _, HNO.out, rfl, HD5.out⟩
        · have s0 : (d.tmod 3 == 0) = false := by simp [m0]
          by_cases m1 : d.tmod 3 = 1
          · have s1 : (d.tmod 3 == 1) = true := by simp [m1]
            clear m0 m1 hc0 hc1 hc2
            obtain ⟨rb, HRB⟩ : ∃ rb, Hid (rb = has A N) := ⟨_, Lib.hid rfl⟩
            have HA1 := Lib.hid (duo_cancel HA.out.drw (by have := HNO.out; omega) N rb HRB.out)
            have HNOD := Lib.hid HA.out.fits.2.2.1
            have hcc1 := hcc.1
            clear hcc
            go_wp2_with fail
            cases rb
            · go_region_held3 (fun w' => w'.cell? ⟨g, o + i * 3 + 1, none⟩ = some (.int .i64 N)) (first | exact hcc1 | exact HK4.out | exact HK5.out)
                (first
                  | (go_at_call 15; (with_reducible refine HA1.out.mono ?_); rintro e w4 ⟨rfl, hd⟩; have HD4 := Lib.hid hd; have HK4 := Lib.hid (HCL.out w4 hd.bel).1; have HA2 := Lib.hid (duo_rcancel hd HNOD.out N false HRB.out rfl); clear hd)
                  | (go_at_call 16; (with_reducible refine HA2.out.mono ?_); rintro e w5 ⟨rfl, hd⟩; have HD5 := Lib.hid hd; have HK5 := Lib.hid (HCL.out w5 hd.bel).1; clear hd))
              clear hcc1 HK4 HK5 HA1 HA2
              go_wp2_with fail
              go_meet
              exact ⟨now, _, HNO.out, rfl, HD5.out⟩
            · go_region_held3 (fun w' => w'.cell? ⟨g, o + i * 3 + 1, none⟩ = some (.int .i64 N)) (first | exact hcc1 | exact HK4.out | exact HK5.out)
                (first
                  | (go_at_call 15; (with_reducible refine HA1.out.mono ?_); rintro e w4 ⟨rfl, hd⟩; have HD4 := Lib.hid hd; have HK4 := Lib.hid (HCL.out w4 hd.bel).1; have HA2 := Lib.hid (duo_rcancel hd HNOD.out N true HRB.out rfl); clear hd)
                  | (go_at_call 16; (with_reducible refine HA2.out.mono ?_); rintro e w5 ⟨rfl, hd⟩; have HD5 := Lib.hid hd; have HK5 := Lib.hid (HCL.out w5 hd.bel).1; clear hd))
              clear hcc1 HK4 HK5 HA1 HA2
              go_wp2_with fail
              go_meet
              exact ⟨now, _, HNO.out, rfl, HD5.out⟩
          · have s1 : (d.tmod 3 == 1) = false := by simp [m1]
            by_cases m2 : d.tmod 3 = 2
            · have s2 : (d.tmod 3 == 2) = true := by simp [m2]
              clear m0 m1 m2 hc0 hc1 hc2 hcc
              go_wp2_with fail
              clear s0 s1 s2
              go_loopw [8, 14] (fun u8 u14 wx => ∃ (kk now' : Nat) (A' : List Tm), kk ≤ now' ∧ now' ≤ 20000 ∧ u8 = .int .i64 (now' : Int) ∧ u14 = .int .i64 (kk : Int) ∧ Hid (Duo w wx b n now' A' x (A'.map (rel now')))) (fun u8 _ _ => 20000 - (intOf u8).toNat)
              case atStart => exact ⟨0, now, A, by omega, HNO.out, rfl, rfl, HA⟩
              case round =>
                obtain ⟨kk, now', A', hkk, hno', rfl, rfl, HB⟩ := hrel
                have hcN := (HCL.out wr HB.out.bel).1
                by_cases c1 : (kk : Int) < N.tmod 5000
                · have q1 : decide ((kk : Int) < N.tmod 5000) = true := decide_eq_true c1
                  by_cases c2 : now' < 20000
                  · have q2 : decide (now' < 20000) = true := decide_eq_true c2
                    have q3 : decide ((now' : Int) < 20000) = true := by simp; omega
                    clear c1
                    go_wp2_with fail
                    (with_reducible refine (duo_tick HB.out (by omega)).mono ?_)
                    rintro e w4 ⟨va, rfl, hd⟩
                    obtain ⟨T, HT⟩ : ∃ T, Hid (T = (A'.filter fun a => a.due == now' + 1).map Tm.tag) := ⟨_, Lib.hid rfl⟩
                    obtain ⟨A2, HA2⟩ : ∃ A2, Hid (A2 = A'.filter fun a => a.due != now' + 1) := ⟨_, Lib.hid rfl⟩
                    rw [← HT.out, ← HA2.out] at hd
                    obtain ⟨F, HF⟩ : ∃ F, Hid (F = T.length) := ⟨_, Lib.hid rfl⟩
                    have hF64 : F ≤ 64 := by
                      have h1 := HB.out.fits
                      have h2 := List.length_filter_le (fun a : Tm => a.due == now' + 1) A'
                      rw [HF.out, HT.out, List.length_map]
                      omega
                    obtain ⟨av, cv, ev⟩ : ∃ av cv, va = .slice av F cv := by
                      obtain ⟨_, _, _, _, _, _, _, _, h7, _⟩ := hd
                      rw [HF.out]
                      exact h7.len
                    subst ev
                    have HD4 := Lib.hid hd
                    have HFD := Lib.hid HB.out.fits.2.2.2
                    have HCC := Lib.hid c2
                    clear hd hcN q1 q2 q3
                    go_wp2_with fail
                    (with_reducible refine (duo_rtick HD4.out HA2.out HFD.out).mono ?_)
                    rintro e w5 ⟨vb, rfl, hi, hd⟩
                    rw [← HT.out] at hi
                    have HSM := Lib.hid (same_any (.slice av F cv) vb T T (by obtain ⟨_, _, _, _, _, _, _, _, h7, _⟩ := hd; exact h7) hi (by rw [← HF.out]; omega) true (by simp))
                    have HD5 := Lib.hid hd
                    clear hi hd HD4 HB
                    go_wp2_with fail
                    (with_reducible refine HSM.out.mono ?_)
                    rintro e w6 ⟨rfl, m, rfl⟩
                    have HD6 := Lib.hid (HD5.out.still (below_drewN w5 m))
                    clear HSM HD5
                    go_wp2_with fail
                    go_loopw [16] (fun u wx => ∃ (q : Nat) (T2 : List Int), q ≤ F ∧ u = .int .i64 (q : Int) ∧ Hid (F = T2.length) ∧ Hid (DuoT w wx b n (now' + 1) A2 x (A2.map (rel (now' + 1))) (.slice av F cv) T2)) (fun u _ => F - (intOf u).toNat)
                    case atStart => exact ⟨0, T, by omega, rfl, HF, HD6⟩
                    case round =>
                      obtain ⟨q, T2, hq, rfl, HTL, HQ⟩ := hrel
                      clear HD6
                      by_cases hl3 : q < F
                      · have hqF : (q : Int) < (F : Int) := by omega
                        obtain ⟨z, hz⟩ : ∃ z, T2[q]? = some z := ⟨_, List.getElem?_eq_getElem (by rw [← HTL.out]; exact hl3)⟩
                        obtain ⟨ga, eg, hcell, hfz⟩ : ∃ ga, av = some ⟨ga, 0, none⟩ ∧ wr.cell? ⟨ga, q, none⟩ = some (.int .i64 z) ∧ wr.frozen? ⟨ga, q, none⟩ = false := by
                          obtain ⟨_, _, _, _, _, _, _, _, h7, _⟩ := HQ.out
                          obtain ⟨g2, cap2, e2, _, h3, h4⟩ := h7.at_ q z hz
                          simp only [Value.slice.injEq] at e2
                          exact ⟨g2, e2.1, h3, h4⟩
                        subst eg
                        clear hz
                        go_wp2_with fail
                        go_roundw
                        case rel => exact ⟨q + 1, T2.set q (-7), by omega, by go_num, Lib.hid (by rw [List.length_set]; exact HTL.out), Lib.hid (HQ.out.set_ HTL.out q (-7))⟩
                        case measure => simp [intOf]; omega
                      · obtain rfl : q = F := by omega
                        have HE := Lib.hid HQ.out.duo
                        clear HQ
                        go_wp2_with fail
                        go_roundw
                        case rel => exact ⟨kk + 1, now' + 1, A2, by omega, by have := HCC.out; omega, by go_num, by go_num, HE⟩
                        case measure => have := HCC.out; simp [intOf]; omega
                  · have q2 : decide (now' < 20000) = false := decide_eq_false c2
                    have q3 : decide ((now' : Int) < 20000) = false := by simp; omega
                    clear c1 c2
                    go_wp2_with fail
                    go_meet
                    exact ⟨now', A', hno', rfl, HB.out⟩
                · have q1 : decide ((kk : Int) < N.tmod 5000) = false := decide_eq_false c1
                  clear c1
                  go_wp2_with fail
                  go_meet
                  exact ⟨now', A', hno', rfl, HB.out⟩
            · have s2 : (d.tmod 3 == 2) = false := by simp [m2]
              clear m0 m1 m2 hc0 hc1 hc2 hcc
              go_wp2_with fail
              go_meet
              exact ⟨now, A, HNO.out, rfl, HA.out⟩
      case rest =>
        clear hc0 hc1 hc2 HA HNO
        obtain ⟨now', A', hno', rfl, hd⟩ := hcut
        have HNO := Lib.hid hno'
        have hcc := (HCL.out wc hd.bel).1
        obtain ⟨r1, HR1⟩ : ∃ r1 : Int, Hid (r1 = ((n - A'.length : Nat) : Int)) := ⟨_, Lib.hid rfl⟩
        have HR2 := Lib.hid (show r1 = ((n - (A'.map (rel now')).length : Nat) : Int) by rw [List.length_map]; exact HR1.out)
        obtain ⟨rN, HRN⟩ : ∃ rN : Int, Hid (rN = lf (A'.map (rel now')) N) := ⟨_, Lib.hid rfl⟩
        obtain ⟨rI, HRI⟩ : ∃ rI : Int, Hid (rI = lf (A'.map (rel now')) (i : Int)) := ⟨_, Lib.hid rfl⟩
        have p1 : (r1 != r1) = false := by simp
        have p2 : (rN != rN) = false := by simp
        have p3 : (rI != rI) = false := by simp
        have HN2 := Lib.hid (show now' ≤ 100000000 by omega)
        have HF := Lib.hid (duo_free hd.drw r1 HR1.out)
        clear hno' hd
        go_wp2_with fail
        go_region_held3 (fun w' => w'.cell? ⟨g, o + i * 3 + 1, none⟩ = some (.int .i64 N)) (first | exact hcc | exact HK3.out | exact HK4.out | exact HK5.out | exact HK7.out)
          (first
            | (go_at_call 20; (with_reducible refine HF.out.mono ?_); rintro e w3 ⟨rfl, hd⟩; have HD3 := Lib.hid hd; have HK3 := Lib.hid (HCL.out w3 hd.bel).1; have HF2 := Lib.hid (duo_rfree hd r1 HR2.out); clear hd)
            | (go_at_call 21; (with_reducible refine HF2.out.mono ?_); rintro e w4 ⟨rfl, hd⟩; have HD4 := Lib.hid hd; have HK4 := Lib.hid (HCL.out w4 hd.bel).1; have HL1 := Lib.hid (duo_left hd HN2.out N rN HRN.out); clear hd)
            | (go_at_call 22; (with_reducible refine HL1.out.mono ?_); rintro e w5 ⟨rfl, hd⟩; have HD5 := Lib.hid hd; have HK5 := Lib.hid (HCL.out w5 hd.bel).1; have HL2 := Lib.hid (duo_rleft hd N rN HRN.out); have HL3 := Lib.hid (duo_left hd HN2.out (i : Int) rI HRI.out); clear hd)
            | (go_at_call 23; (with_reducible refine HL2.out.mono ?_); rintro e w6 ⟨rfl, hw⟩; subst hw)
            | (go_at_call 22; (with_reducible refine HL3.out.mono ?_); rintro e w7 ⟨rfl, hd⟩; have HD7 := Lib.hid hd; have HK7 := Lib.hid (HCL.out w7 hd.bel).1; have HL4 := Lib.hid (duo_rleft hd (i : Int) rI HRI.out); clear hd)
            | (go_at_call 23; (with_reducible refine HL4.out.mono ?_); rintro e w8 ⟨rfl, hw⟩; subst hw))
        clear HK3 HK4 HK5 HK7 HF HF2 HL1 HL2 HL3 HL4 HD3 HD4 HD5
        go_wp2_with fail
        go_roundw
        case rel => exact ⟨i + 1, now', A', by omega, HNO.out, rfl, by go_num, HD7⟩
        case measure => simp [intOf]; omega
    · obtain rfl : i = L := by omega
      go_wp2_with fail
      go_ret
      exact ⟨rfl, HA.out.bel⟩

set_option maxRecDepth 10000 in
theorem plays_long (pool : Int) (v : Value) (ls : List (Int × Int × Int)) (w : World) (hs : Tri w v ls) (hl : 60 < ls.length) :
    Calls Tryd.prog 3 #[.int .i64 pool, v] w fun e w' => e = .returned (.bool true) ∧ Below w.heap.size w w' := by
  obtain ⟨n, hn⟩ : ∃ n : Nat, (n : Int) = min (max pool 0) 64 := ⟨(min (max pool 0) 64).toNat, by omega⟩
  have HN := Lib.hid hn
  obtain ⟨a0, c0, ev, _⟩ := hs
  obtain ⟨L, hL⟩ : ∃ L, L = ls.length := ⟨_, rfl⟩
  rw [← hL] at ev hl
  have q1 : decide (60 < (L : Int)) = true := by simp; omega
  clear hn hL
  subst ev
  go_enter Tryd.func3, Tryd.ntmps3
  go_wp2_with fail
  (with_reducible refine (small_true w).mono ?_)
  rintro e w1 ⟨rfl, hb⟩
  have HB := Lib.hid hb
  clear hb
  go_wp2_with fail
  (with_reducible refine (mine_new pool n HN.out HB.out).mono ?_)
  rintro e w2 ⟨b, rfl, hm⟩
  have HM := Lib.hid hm.below
  clear hm HB
  go_wp2_with fail
  go_ret
  exact ⟨rfl, HM.out⟩
theorem plays_any (pool : Int) (v : Value) (ls : List (Int × Int × Int)) (w : World) (hs : Tri w v ls) :
    Calls Tryd.prog 3 #[.int .i64 pool, v] w fun e w' => e = .returned (.bool true) ∧ Below w.heap.size w w' := by
  by_cases h : ls.length ≤ 60
  · exact plays_main pool v ls w hs h
  · exact plays_long pool v ls w hs (by omega)
end Go.Proofs.YtaonnkocopngaaaDoor

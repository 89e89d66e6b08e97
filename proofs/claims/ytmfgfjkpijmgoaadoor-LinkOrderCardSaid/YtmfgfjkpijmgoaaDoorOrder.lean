/-
  The walk of crossbucklaw07.LinkOrder: true, whatever it is given.
-/
import Derived.Test.YtmfgfjkpijmgoaaDoorSmall
import Derived.Test.YtmfgfjkpijmgoaaDoorAged
namespace Go.Proofs.YtmfgfjkpijmgoaaDoor
open Go.RowKit

set_option maxHeartbeats 2000000 in
set_option maxRecDepth 10000 in
theorem order_out (fresh ch P Q n : Int) (w : World) (hbad : ch < 0 ∨ 15 < ch ∨ n < 0 ∨ 7000 < n) :
    Calls Tryd.prog 5 #[.int .i64 fresh, .int .i64 ch, .int .u8 P, .int .u8 Q, .int .i64 n] w fun e w' => e = .returned (.bool true) ∧ Below w.heap.size w w' := by
  obtain ⟨F, hF⟩ := fresh_nat fresh
  have HF := Lib.hid hF
  have HBAD := Lib.hid hbad
  clear hF hbad
  go_enter Tryd.func5, Tryd.ntmps5
  go_wp2_with fail
  (with_reducible refine (small_true w).mono ?_)
  rintro e w1 ⟨rfl, hb⟩
  have HB := Lib.hid hb
  clear hb
  go_wp2_with fail
  (with_reducible refine (ln_new fresh F HF.out HB.out).mono ?_)
  rintro e w2 ⟨b, rfl, hl⟩
  have HL := Lib.hid hl
  clear hl
  by_cases c0 : ch < 0
  · have q0 : decide (ch < 0) = true := decide_eq_true c0
    clear c0
    go_wp2_with fail
    go_ret
    exact ⟨rfl, HL.out.bel⟩
  · have q0 : decide (ch < 0) = false := decide_eq_false c0
    by_cases c1 : 15 < ch
    · have q1 : decide (15 < ch) = true := decide_eq_true c1
      clear c0 c1
      go_wp2_with fail
      go_ret
      exact ⟨rfl, HL.out.bel⟩
    · have q1 : decide (15 < ch) = false := decide_eq_false c1
      by_cases c2 : n < 0
      · have q2 : decide (n < 0) = true := decide_eq_true c2
        clear c0 c1 c2
        go_wp2_with fail
        go_ret
        exact ⟨rfl, HL.out.bel⟩
      · have q2 : decide (n < 0) = false := decide_eq_false c2
        have q3 : decide (7000 < n) = true := by have := HBAD.out; simp; omega
        clear c0 c1 c2
        go_wp2_with fail
        go_ret
        exact ⟨rfl, HL.out.bel⟩
set_option maxHeartbeats 4000000 in
set_option maxRecDepth 10000 in
theorem order_main (fresh P Q : Int) (k n : Nat) (w : World) (hk : k < 16) (hn : n ≤ 7000) (hP : 0 ≤ P ∧ P ≤ 255) (hQ : 0 ≤ Q ∧ Q ≤ 255) :
    Calls Tryd.prog 5 #[.int .i64 fresh, .int .i64 (k : Int), .int .u8 P, .int .u8 Q, .int .i64 (n : Int)] w fun e w' => e = .returned (.bool true) ∧ Below w.heap.size w w' := by
  obtain ⟨F, hF⟩ := fresh_nat fresh
  have HF := Lib.hid hF
  have q0 : decide ((k : Int) < 0) = false := by simp
  have q1 : decide ((15 : Int) < (k : Int)) = false := by simp; omega
  have q2 : decide ((n : Int) < 0) = false := by simp
  have q3 : decide ((7000 : Int) < (n : Int)) = false := by simp; omega
  have HT0 := Lib.hid (show tcode F (fun _ => noCh) (k : Int) P ([1#8] : List (BitVec 8)).length = 0 ∧ taken F (fun _ => noCh) (k : Int) P [1#8] = one k (aged F P [1#8] 0) by
    have e : tcode F (fun _ => noCh) (k : Int) P ([1#8] : List (BitVec 8)).length = 0 := by
      unfold tcode
      rw [if_neg (by simp only [Decidable.not_not]; exact ⟨by omega, by omega, hP.1, hP.2, by simp⟩), if_neg (by rw [show isF F noCh = false from rfl]; simp)]
    refine ⟨e, ?_⟩
    unfold taken
    rw [e, if_pos rfl, aged_zero]
    simp [one])
  have HT1 := Lib.hid (show tcode F (one k (aged F P [1#8] n)) (k : Int) Q ([2#8] : List (BitVec 8)).length = (if n ≤ F ∧ follows Q P = false then 4 else 0) ∧ taken F (one k (aged F P [1#8] n)) (k : Int) Q [2#8] = (if n ≤ F ∧ follows Q P = false then one k (aged F P [1#8] n) else one k ⟨true, Q, 0, [2#8]⟩) by
    have e : tcode F (one k (aged F P [1#8] n)) (k : Int) Q ([2#8] : List (BitVec 8)).length = (if n ≤ F ∧ follows Q P = false then 4 else 0) := by
      unfold tcode
      rw [if_neg (by simp only [Decidable.not_not]; exact ⟨by omega, by omega, hQ.1, hQ.2, by simp⟩), show ((k : Int).toNat) = k by simp, show one k (aged F P [1#8] n) k = aged F P [1#8] n from upd_same _ _ _, aged_fresh]
      simp [aged]
    refine ⟨e, ?_⟩
    unfold taken
    rw [e]
    by_cases c : n ≤ F ∧ follows Q P = false
    · rw [if_pos c, if_pos c]; rfl
    · rw [if_neg c, if_neg c, if_pos rfl, show ((k : Int).toNat) = k by simp, one_again])
  have HFO := Lib.hid (show follows Q P = decide (1 ≤ (Q - P) % 256 ∧ (Q - P) % 256 ≤ 16) from rfl)
  have HK := Lib.hid hk
  obtain ⟨P0, P1⟩ := hP
  obtain ⟨Q0, Q1⟩ := hQ
  clear hF hk
  go_enter Tryd.func5, Tryd.ntmps5
  go_wp2_with fail
  (with_reducible refine (small_true w).mono ?_)
  rintro e w1 ⟨rfl, hb⟩
  have HB := Lib.hid hb
  clear hb
  go_wp2_with fail
  (with_reducible refine (ln_new fresh F HF.out HB.out).mono ?_)
  rintro e w2 ⟨b, rfl, hl⟩
  have HL := Lib.hid (hl.still (below_alloc (Below.refl _ w2) (.cells #[.int .u8 1] 5)))
  have HD := Lib.hid (lit_byts w2 #[.int .u8 1] 1 (0, 0) [1#8] rfl rfl)
  clear hl HB
  go_wp2_with fail
  (with_reducible refine (ln_take HL.out (k : Int) P _ [1#8] HD.out).mono ?_)
  rintro e w3 ⟨e3, rfl, he, hl, _⟩
  rw [HT0.out.1] at he
  rw [HT0.out.2] at hl
  have HE := he.nil
  subst HE
  have HL3 := Lib.hid hl
  clear he hl HL HD HT0
  go_wp2_with fail
  go_loopw [14] (fun u14 wr => ∃ i : Nat, i ≤ n ∧ u14 = .int .i64 (i : Int) ∧ Hid (Ln w wr b F (one k (aged F P [1#8] i)))) (fun u14 _ => n - (intOf u14).toNat)
  case atStart => exact ⟨0, by omega, rfl, HL3⟩
  case round =>
    obtain ⟨i, hi, rfl, HLr⟩ := hrel
    clear HL3
    by_cases hlt : i < n
    · have hlz : (i : Int) < (n : Int) := by omega
      go_wp2_with fail
      (with_reducible refine (ln_tick HLr.out).mono ?_)
      rintro e w4 ⟨rfl, hl, _⟩
      rw [older_one, older_aged] at hl
      have HL4 := Lib.hid hl
      clear hl HLr
      go_wp2_with fail
      go_roundw
      case rel => exact ⟨i + 1, by omega, by go_num, HL4⟩
      case measure => simp [intOf]; omega
    · obtain rfl : i = n := by omega
      have HP := Lib.hid (show aged F P [1#8] i = peek (one k (aged F P [1#8] i)) (k : Int) from (peek_one k HK.out _ _ rfl).symm)
      clear hi hlt
      by_cases hf : i ≤ F
      · have HFR := Lib.hid (show true = isF F (aged F P [1#8] i) by rw [aged_fresh]; simpa using hf)
        have HX := Lib.hid (show (aged F P [1#8] i).xs = [1#8] by unfold aged; simp only; rw [if_pos hf])
        have HII := Lib.hid hf
        clear hf
        go_wp2_with fail
        (with_reducible refine (ln_fresh HLr.out (k : Int) _ HP.out true HFR.out).mono ?_)
        rintro e w4 ⟨r4, rfl, ho, hl, _⟩
        have HL4 := Lib.hid (hl.still (below_alloc (Below.refl _ w4) (.cells #[.int .u8 2] 5)))
        have HD := Lib.hid (lit_byts w4 #[.int .u8 2] 1 (0, 0) [2#8] rfl rfl)
        clear hl ho HLr
        go_wp2_with fail
        (with_reducible refine (ln_take HL4.out (k : Int) Q _ [2#8] HD.out).mono ?_)
        rintro e w5 ⟨e5, rfl, he, hl, _⟩
        rw [HT1.out.1] at he
        rw [HT1.out.2] at hl
        cases hfo : follows Q P with
        | false =>
          rw [if_pos ⟨HII.out, hfo⟩] at he hl
          obtain ⟨g5, rfl, hc⟩ := he.not (by decide)
          have HL5 := Lib.hid hl
          have HC5 := Lib.hid hc
          have HM := Lib.hid (show decide (1 ≤ (Q - P) % 256) = false ∨ (decide (1 ≤ (Q - P) % 256) = true ∧ decide ((Q - P) % 256 ≤ 16) = false) by
            rw [HFO.out] at hfo; simp at hfo ⊢; omega)
          clear he hl hc HT1 hfo HL4 HD
          rcases HM.out with m0 | ⟨m0, m1⟩
          all_goals
            go_wp2_with fail
            (with_reducible refine (ln_fresh HL5.out (k : Int) _ HP.out true HFR.out).mono ?_)
            rintro e w6 ⟨r6, rfl, ho, hl, hb⟩
            obtain ⟨a6, c6, er⟩ := ho.byts.len
            have HO6 := Lib.hid ho.byts
            have HL6 := Lib.hid hl.bel
            have HC6 := Lib.hid (below_cell hb HC5.out)
            clear ho hl hb HL5 HC5
            rw [HX.out] at HO6 er
            have ct := txt_run _ _ _ HO6.out
            subst er
            rw [show txt [1#8] = ⟨#[1]⟩ from rfl, show ([1#8] : List (BitVec 8)).length = 1 from rfl] at ct
            rw [show ([1#8] : List (BitVec 8)).length = 1 from rfl]
            go_wp2_with fail
            (with_reducible refine (code_place g5 4 _ HC6.out).mono ?_)
            rintro e w7 ⟨rfl, hw⟩
            cases hw
            go_wp2_with fail
            go_ret
            exact ⟨rfl, HL6.out⟩
        | true =>
          rw [if_neg (fun h => by rw [hfo] at h; cases h.2)] at he hl
          have HE := he.nil
          subst HE
          have HL5 := Lib.hid hl
          have HM := Lib.hid (show decide (1 ≤ (Q - P) % 256) = true ∧ decide ((Q - P) % 256 ≤ 16) = true by
            rw [HFO.out] at hfo; simpa using hfo)
          obtain ⟨m0, m1⟩ := HM.out
          have HP2 := Lib.hid (show (⟨true, Q, 0, [2#8]⟩ : Ch) = peek (one k ⟨true, Q, 0, [2#8]⟩) (k : Int) from (peek_one k HK.out _ _ rfl).symm)
          clear he hl HT1 hfo HL4 HD HP HFR HX
          go_wp2_with fail
          (with_reducible refine (ln_fresh HL5.out (k : Int) _ HP2.out true (by simp [isF])).mono ?_)
          rintro e w6 ⟨r6, rfl, ho, hl, hb⟩
          obtain ⟨a6, c6, er⟩ := ho.byts.len
          have HO6 := Lib.hid ho.byts
          have HL6 := Lib.hid hl
          clear ho hl hb HL5
          have ct := txt_run _ _ _ HO6.out
          subst er
          rw [show txt [2#8] = ⟨#[2]⟩ from rfl, show ([2#8] : List (BitVec 8)).length = 1 from rfl] at ct
          rw [show ([2#8] : List (BitVec 8)).length = 1 from rfl]
          go_wp2_with fail
          (with_reducible refine (ln_at HL6.out (k : Int) _ HP2.out).mono ?_)
          rintro e w7 ⟨r7, rfl, _, hl, _⟩
          have HL7 := Lib.hid hl.bel
          have fa := field_age
          clear hl
          go_wp2_with fail
          go_ret
          exact ⟨rfl, HL7.out⟩
      · have HFR := Lib.hid (show false = isF F (aged F P [1#8] i) by rw [aged_fresh]; simpa using hf)
        have HII := Lib.hid hf
        clear hf
        go_wp2_with fail
        (with_reducible refine (ln_fresh HLr.out (k : Int) _ HP.out false HFR.out).mono ?_)
        rintro e w4 ⟨r4, rfl, ho, hl, _⟩
        have HL4 := Lib.hid (hl.still (below_alloc (Below.refl _ w4) (.cells #[.int .u8 2] 5)))
        have HD := Lib.hid (lit_byts w4 #[.int .u8 2] 1 (0, 0) [2#8] rfl rfl)
        clear hl ho HLr
        go_wp2_with fail
        (with_reducible refine (ln_take HL4.out (k : Int) Q _ [2#8] HD.out).mono ?_)
        rintro e w5 ⟨e5, rfl, he, hl, _⟩
        rw [HT1.out.1, if_neg (fun h => HII.out h.1)] at he
        rw [HT1.out.2, if_neg (fun h => HII.out h.1)] at hl
        have HE := he.nil
        subst HE
        have HL5 := Lib.hid hl
        have HP2 := Lib.hid (show (⟨true, Q, 0, [2#8]⟩ : Ch) = peek (one k ⟨true, Q, 0, [2#8]⟩) (k : Int) from (peek_one k HK.out _ _ rfl).symm)
        clear he hl HT1 HL4 HD HP HFR
        go_wp2_with fail
        (with_reducible refine (ln_fresh HL5.out (k : Int) _ HP2.out true (by simp [isF])).mono ?_)
        rintro e w6 ⟨r6, rfl, ho, hl, hb⟩
        obtain ⟨a6, c6, er⟩ := ho.byts.len
        have HO6 := Lib.hid ho.byts
        have HL6 := Lib.hid hl
        clear ho hl hb HL5
        have ct := txt_run _ _ _ HO6.out
        subst er
        rw [show txt [2#8] = ⟨#[2]⟩ from rfl, show ([2#8] : List (BitVec 8)).length = 1 from rfl] at ct
        rw [show ([2#8] : List (BitVec 8)).length = 1 from rfl]
        go_wp2_with fail
        (with_reducible refine (ln_at HL6.out (k : Int) _ HP2.out).mono ?_)
        rintro e w7 ⟨r7, rfl, _, hl, _⟩
        have HL7 := Lib.hid hl.bel
        have fa := field_age
        clear hl
        go_wp2_with fail
        go_ret
        exact ⟨rfl, HL7.out⟩
theorem order_any (fresh ch P Q n : Int) (hP : 0 ≤ P ∧ P ≤ 255) (hQ : 0 ≤ Q ∧ Q ≤ 255) (w : World) :
    Calls Tryd.prog 5 #[.int .i64 fresh, .int .i64 ch, .int .u8 P, .int .u8 Q, .int .i64 n] w fun e w' => e = .returned (.bool true) ∧ Below w.heap.size w w' := by
  by_cases h : ch < 0 ∨ 15 < ch ∨ n < 0 ∨ 7000 < n
  · exact order_out fresh ch P Q n w h
  · obtain ⟨j, rfl⟩ : ∃ j : Nat, n = (j : Int) := ⟨n.toNat, by omega⟩
    obtain ⟨k, rfl⟩ : ∃ k : Nat, ch = (k : Int) := ⟨ch.toNat, by omega⟩
    exact order_main fresh P Q k j w (by omega) (by omega) hP hQ
end Go.Proofs.YtmfgfjkpijmgoaaDoor

/-
  The walk of crossbucklaw07.LinkFresh: true, whatever it is given.
-/
import Derived.Test.YtmfgfjkpijmgoaaDoorSmall
import Derived.Test.YtmfgfjkpijmgoaaDoorAged
import Derived.Test.YtmfgfjkpijmgoaaDoorRlkC
namespace Go.Proofs.YtmfgfjkpijmgoaaDoor
open Go.RowKit

/-- A telegram to channels of which none spoke. -/
theorem first_take (F : Nat) (c q : Int) (xs : List (BitVec 8)) : tcode F (fun _ => noCh) c q xs.length = (if Fit c q xs.length then 0 else 1) ∧ taken F (fun _ => noCh) c q xs = (if Fit c q xs.length then one c.toNat (aged F q xs 0) else fun _ => noCh) := by
  have e : tcode F (fun _ => noCh) c q xs.length = (if Fit c q xs.length then 0 else 1) := by
    unfold tcode
    by_cases h : Fit c q xs.length
    · rw [if_neg (by simpa using h), if_neg (by rw [show isF F noCh = false from rfl]; simp), if_pos h]
    · rw [if_pos h, if_neg h]
  refine ⟨e, ?_⟩
  unfold taken
  rw [e]
  by_cases h : Fit c q xs.length
  · rw [if_pos h, if_pos h, if_pos rfl, aged_zero]; rfl
  · rw [if_neg h, if_neg h]; rfl
set_option maxHeartbeats 2000000 in
set_option maxRecDepth 10000 in
theorem fresh_out (fresh c q n : Int) (u : Value) (xs : List (BitVec 8)) (w : World) (hu : Byts w u xs) (hbad : n < 0 ∨ 7000 < n ∨ 100 < xs.length) :
    Calls Tryd.prog 4 #[.int .i64 fresh, .agg #[.int .i64 c, .int .i64 q, u], .int .i64 n] w fun e w' => e = .returned (.bool true) ∧ Below w.heap.size w w' := by
  obtain ⟨F, hF⟩ := fresh_nat fresh
  have HF := Lib.hid hF
  have HBAD := Lib.hid hbad
  obtain ⟨ua, uc, rfl⟩ := hu.len
  have HX := Lib.hid (blk_new w #[.int .i64 c, .int .i64 q, .slice ua xs.length uc] 30)
  have HB0 := Lib.hid (below_alloc (Below.refl _ w) (.cells #[.int .i64 c, .int .i64 q, .slice ua xs.length uc] 30))
  clear hF hbad hu
  go_enter Tryd.func4, Tryd.ntmps4
  go_wp2_with fail
  (with_reducible refine (small_true _).mono ?_)
  rintro e w1 ⟨rfl, hb⟩
  have HB := Lib.hid hb
  clear hb
  go_wp2_with fail
  (with_reducible refine (ln_new fresh F HF.out HB.out).mono ?_)
  rintro e w2 ⟨b, rfl, hl⟩
  have HL := Lib.hid hl.bel
  obtain ⟨x0, x1, x2⟩ := (HX.out.below hl.bel).three
  clear hl
  by_cases c0 : n < 0
  · have q0 : decide (n < 0) = true := decide_eq_true c0
    clear c0
    go_wp2_with fail
    go_ret
    exact ⟨rfl, below_call HB0.out HL.out⟩
  · have q0 : decide (n < 0) = false := decide_eq_false c0
    by_cases c1 : 7000 < n
    · have q1 : decide (7000 < n) = true := decide_eq_true c1
      clear c0 c1
      go_wp2_with fail
      go_ret
      exact ⟨rfl, below_call HB0.out HL.out⟩
    · have q1 : decide (7000 < n) = false := decide_eq_false c1
      have q2 : decide (100 < (xs.length : Int)) = true := by have := HBAD.out; simp; omega
      clear c0 c1
      go_wp2_with fail
      go_ret
      exact ⟨rfl, below_call HB0.out HL.out⟩
set_option maxHeartbeats 4000000 in
set_option maxRecDepth 10000 in
theorem fresh_bad (fresh c q : Int) (n : Nat) (u : Value) (xs : List (BitVec 8)) (w : World) (hu : Byts w u xs) (hn : n ≤ 7000) (hxl : xs.length ≤ 100) (hfit : ¬ Fit c q xs.length) :
    Calls Tryd.prog 4 #[.int .i64 fresh, .agg #[.int .i64 c, .int .i64 q, u], .int .i64 (n : Int)] w fun e w' => e = .returned (.bool true) ∧ Below w.heap.size w w' := by
  obtain ⟨F, hF⟩ := fresh_nat fresh
  have HF := Lib.hid hF
  have HN := Lib.hid hfit
  have q0 : decide ((n : Int) < 0) = false := by simp
  have q1 : decide ((7000 : Int) < (n : Int)) = false := by simp; omega
  have q2 : decide ((100 : Int) < (xs.length : Int)) = false := by simp; omega
  have HU := Lib.hid hu
  obtain ⟨ua, uc, rfl⟩ := hu.len
  have HX := Lib.hid (blk_new w #[.int .i64 c, .int .i64 q, .slice ua xs.length uc] 30)
  have HB0 := Lib.hid (below_alloc (Below.refl _ w) (.cells #[.int .i64 c, .int .i64 q, .slice ua xs.length uc] 30))
  obtain ⟨t1, t2⟩ := first_take F c q xs
  rw [if_neg hfit] at t1 t2
  have HT1 := Lib.hid t1
  have HT2 := Lib.hid t2
  clear hF hu t1 t2 hfit hn hxl
  go_enter Tryd.func4, Tryd.ntmps4
  go_wp2_with fail
  (with_reducible refine (small_true _).mono ?_)
  rintro e w1 ⟨rfl, hb⟩
  have HB := Lib.hid hb
  clear hb
  go_wp2_with fail
  (with_reducible refine (ln_new fresh F HF.out HB.out).mono ?_)
  rintro e w2 ⟨b, rfl, hl⟩
  have HL := Lib.hid hl
  obtain ⟨x0, x1, x2⟩ := (HX.out.below hl.bel).three
  have HU2 := Lib.hid (HU.out.below (below_call HB0.out hl.bel))
  clear hl
  go_wp2_with fail
  (with_reducible refine (ln_take HL.out c q _ xs HU2.out).mono ?_)
  rintro e w3 ⟨e3, rfl, he, hl, _⟩
  rw [HT1.out] at he
  rw [HT2.out] at hl
  obtain ⟨g3, rfl, hc⟩ := he.not (by decide)
  have HL3 := Lib.hid hl
  have HC3 := Lib.hid hc
  clear he hl hc HL x0 x1 x2 HU2
  obtain ⟨x0, x1, x2⟩ := (HX.out.below HL3.out.bel).three
  have HU3 := Lib.hid (HU.out.below (below_call HB0.out HL3.out.bel))
  go_wp2_with fail
  (with_reducible refine (rcode_any c q _ xs _ HU3.out 1 (by rw [if_neg HN.out])).mono ?_)
  rintro e w4 ⟨r4, rfl, hb⟩
  have HL4 := Lib.hid (HL3.out.still hb)
  have HC4 := Lib.hid (below_cell hb HC3.out)
  clear hb HL3 HC3 x0 x1 x2 HU3
  obtain ⟨x0, x1, x2⟩ := (HX.out.below HL4.out.bel).three
  have HP := Lib.hid (show noCh = peek (fun _ => noCh) c by unfold peek; split <;> rfl)
  go_wp2_with fail
  (with_reducible refine (ln_fresh HL4.out c noCh HP.out false rfl).mono ?_)
  rintro e w5 ⟨r5, rfl, ho, hl, hb⟩
  have HL5 := Lib.hid hl.bel
  have HC5 := Lib.hid (below_cell hb HC4.out)
  clear ho hl hb HL4 HC4 x0 x1 x2
  go_wp2_with fail
  (with_reducible refine (code_place g3 1 _ HC5.out).mono ?_)
  rintro e w6 ⟨rfl, hw⟩
  cases hw
  go_wp2_with fail
  go_ret
  exact ⟨rfl, below_call HB0.out HL5.out⟩
set_option maxHeartbeats 4000000 in
set_option maxRecDepth 10000 in
theorem fresh_main (fresh q : Int) (k n : Nat) (u : Value) (xs : List (BitVec 8)) (w : World) (hu : Byts w u xs) (hn : n ≤ 7000) (hfit : Fit (k : Int) q xs.length) :
    Calls Tryd.prog 4 #[.int .i64 fresh, .agg #[.int .i64 (k : Int), .int .i64 q, u], .int .i64 (n : Int)] w fun e w' => e = .returned (.bool true) ∧ Below w.heap.size w w' := by
  obtain ⟨F, hF⟩ := fresh_nat fresh
  have HF := Lib.hid hF
  have HN := Lib.hid hfit
  have HNN := Lib.hid hn
  have q0 : decide ((n : Int) < 0) = false := by simp
  have q1 : decide ((7000 : Int) < (n : Int)) = false := by simp; omega
  have q2 : decide ((100 : Int) < (xs.length : Int)) = false := by have := hfit.2.2.2.2; simp; omega
  have HK := Lib.hid (show k < 16 by have := hfit.2.1; omega)
  obtain ⟨mx, hmxe⟩ : ∃ mx : Int, mx = max fresh 1 := ⟨_, rfl⟩
  have hmx : ∀ (ts : Array TypeId) (t : TypeId) (w : World), (Builtin.max_ ts t #[.int .i64 fresh, .int .i64 1]).run Tryd.prog w = .ok (.int .i64 mx) w := by
    intro ts t w
    rw [run_max_int2, show (if (1 : Int) > fresh then 1 else fresh) = mx by rw [hmxe]; split <;> omega]
  have hmn : ∀ (ts : Array TypeId) (t : TypeId) (w : World), (Builtin.min_ ts t #[.int .i64 mx, .int .i64 6000]).run Tryd.prog w = .ok (.int .i64 (F : Int)) w := by
    intro ts t w
    rw [run_min_int2, show (if (6000 : Int) < mx then 6000 else mx) = (F : Int) by rw [hmxe]; split <;> omega]
  obtain ⟨a, ha⟩ : ∃ a : Nat, a = min n (F + 1) := ⟨_, rfl⟩
  have hm2 : ∀ (ts : Array TypeId) (t : TypeId) (w : World), (Builtin.min_ ts t #[.int .i64 (n : Int), .int .i64 ((F : Int) + 1)]).run Tryd.prog w = .ok (.int .i64 (a : Int)) w := by
    intro ts t w
    rw [run_min_int2, show (if ((F : Int) + 1) < (n : Int) then ((F : Int) + 1) else (n : Int)) = (a : Int) by rw [ha]; split <;> omega]
  have hF6 : F ≤ 6000 := by omega
  have HA := Lib.hid ha
  have HU := Lib.hid hu
  obtain ⟨ua, uc, rfl⟩ := hu.len
  have HX := Lib.hid (blk_new w #[.int .i64 (k : Int), .int .i64 q, .slice ua xs.length uc] 30)
  have HB0 := Lib.hid (below_alloc (Below.refl _ w) (.cells #[.int .i64 (k : Int), .int .i64 q, .slice ua xs.length uc] 30))
  obtain ⟨t1, t2⟩ := first_take F (k : Int) q xs
  rw [if_pos hfit] at t1 t2
  rw [show (k : Int).toNat = k by simp] at t2
  have HT1 := Lib.hid t1
  have HT2 := Lib.hid t2
  have HMX := Lib.hid hmx
  have HMN := Lib.hid hmn
  have HM2 := Lib.hid hm2
  clear hF hu t1 t2 hfit hn hmxe ha hmx hmn hm2
  go_enter Tryd.func4, Tryd.ntmps4
  go_wp2_with fail
  (with_reducible refine (small_true _).mono ?_)
  rintro e w1 ⟨rfl, hb⟩
  have HB := Lib.hid hb
  clear hb
  go_wp2_with fail
  (with_reducible refine (ln_new fresh F HF.out HB.out).mono ?_)
  rintro e w2 ⟨b, rfl, hl⟩
  have HL := Lib.hid hl
  obtain ⟨x0, x1, x2⟩ := (HX.out.below hl.bel).three
  have HU2 := Lib.hid (HU.out.below (below_call HB0.out hl.bel))
  clear hl HB
  go_wp2_with fail
  (with_reducible refine (ln_take HL.out (k : Int) q _ xs HU2.out).mono ?_)
  rintro e w3 ⟨e3, rfl, he, hl, _⟩
  rw [HT1.out] at he
  rw [HT2.out] at hl
  have HE := he.nil
  subst HE
  have HL3 := Lib.hid hl
  clear he hl HL x0 x1 x2 HU2 HT1 HT2
  obtain ⟨x0, x1, x2⟩ := (HX.out.below HL3.out.bel).three
  have HU3 := Lib.hid (HU.out.below (below_call HB0.out HL3.out.bel))
  go_wp2_with fail
  (with_reducible refine (rcode_any (k : Int) q _ xs _ HU3.out 0 (by rw [if_pos HN.out])).mono ?_)
  rintro e w4 ⟨r4, rfl, hb⟩
  have HL4 := Lib.hid (HL3.out.still hb)
  clear hb HL3 x0 x1 x2 HU3
  go_wp2_with fail
  go_loopw [14] (fun u14 wr => ∃ i : Nat, i ≤ n ∧ u14 = .int .i64 (i : Int) ∧ Hid (Ln (w.alloc (.cells #[.int .i64 (k : Int), .int .i64 q, .slice ua xs.length uc] 30)) wr b F (one k (aged F q xs i)))) (fun u14 _ => n - (intOf u14).toNat)
  case atStart => exact ⟨0, by omega, rfl, HL4⟩
  case round =>
    obtain ⟨i, hi, rfl, HLr⟩ := hrel
    clear HL4
    by_cases hlt : i < n
    · have hlz : (i : Int) < (n : Int) := by omega
      have hn7 := HNN.out
      go_wp2_with fail
      (with_reducible refine (ln_tick HLr.out).mono ?_)
      rintro e w5 ⟨rfl, hl, _⟩
      rw [older_one, older_aged] at hl
      have HL5 := Lib.hid hl
      clear hl HLr
      go_wp2_with fail
      go_roundw
      case rel => exact ⟨i + 1, by omega, by go_num, HL5⟩
      case measure => simp [intOf]; omega
    · obtain rfl : i = n := by omega
      have HP := Lib.hid (show aged F q xs i = peek (one k (aged F q xs i)) (k : Int) from (peek_one k HK.out _ _ rfl).symm)
      have HAG := Lib.hid (show ((aged F q xs i).age : Int) = (a : Int) by rw [HA.out]; rfl)
      clear hi hlt
      obtain ⟨x0, x1, x2⟩ := (HX.out.below HLr.out.bel).three
      by_cases hf : i ≤ F
      · have HFR := Lib.hid (show true = isF F (aged F q xs i) by rw [aged_fresh]; simpa using hf)
        have HXS := Lib.hid (show (aged F q xs i).xs = xs by unfold aged; simp only; rw [if_pos hf])
        have d0 : decide ((i : Int) ≤ (F : Int)) = true := by simp; omega
        have d1 : decide (i ≤ F) = true := by simpa using hf
        clear hf
        go_wp2_with fail
        (with_reducible refine (ln_fresh HLr.out (k : Int) _ HP.out true HFR.out).mono ?_)
        rintro e w5 ⟨r5, rfl, ho, hl, hb⟩
        obtain ⟨a5, c5, er⟩ := ho.byts.len
        have HO5 := Lib.hid ho.byts
        have HL5 := Lib.hid hl
        clear ho hl hb HLr x0 x1 x2
        rw [HXS.out] at HO5 er
        obtain ⟨x0, x1, x2⟩ := (HX.out.below HL5.out.bel).three
        have ct := txt_run _ _ _ HO5.out
        have cu := txt_run _ _ _ (HU.out.below (below_call HB0.out HL5.out.bel))
        have qt := txt_same xs
        have hmx := HMX.out
        have hmn := HMN.out
        subst er
        go_wp2_with fail
        (with_reducible refine (ln_at HL5.out (k : Int) _ HP.out).mono ?_)
        rintro e w6 ⟨r6, rfl, _, hl, _⟩
        rw [HAG.out]
        have HL6 := Lib.hid hl.bel
        have fa := field_age
        have hm2 := HM2.out
        clear hl
        go_wp2_with fail
        go_ret
        exact ⟨by simp, below_call HB0.out HL6.out⟩
      · have HFR := Lib.hid (show false = isF F (aged F q xs i) by rw [aged_fresh]; simpa using hf)
        have HXS := Lib.hid (show (aged F q xs i).xs = [] by unfold aged; simp only; rw [if_neg hf])
        have d0 : decide ((i : Int) ≤ (F : Int)) = false := by simp; omega
        have d1 : decide (i ≤ F) = false := by simpa using hf
        clear hf
        go_wp2_with fail
        (with_reducible refine (ln_fresh HLr.out (k : Int) _ HP.out false HFR.out).mono ?_)
        rintro e w5 ⟨r5, rfl, ho, hl, hb⟩
        obtain ⟨a5, c5, er⟩ := ho.byts.len
        have HL5 := Lib.hid hl
        clear ho hl hb HLr x0 x1 x2
        rw [HXS.out] at er
        obtain ⟨x0, x1, x2⟩ := (HX.out.below HL5.out.bel).three
        have hmx := HMX.out
        have hmn := HMN.out
        subst er
        rw [show ([] : List (BitVec 8)).length = 0 from rfl]
        go_wp2_with fail
        (with_reducible refine (ln_at HL5.out (k : Int) _ HP.out).mono ?_)
        rintro e w6 ⟨r6, rfl, _, hl, _⟩
        rw [HAG.out]
        have HL6 := Lib.hid hl.bel
        have fa := field_age
        have hm2 := HM2.out
        clear hl
        go_wp2_with fail
        go_ret
        exact ⟨by simp, below_call HB0.out HL6.out⟩
theorem lawFresh_any (fresh c q n : Int) (u : Value) (xs : List (BitVec 8)) (w : World) (hu : Byts w u xs) :
    Calls Tryd.prog 4 #[.int .i64 fresh, .agg #[.int .i64 c, .int .i64 q, u], .int .i64 n] w fun e w' => e = .returned (.bool true) ∧ Below w.heap.size w w' := by
  by_cases h : n < 0 ∨ 7000 < n ∨ 100 < xs.length
  · exact fresh_out fresh c q n u xs w hu h
  · obtain ⟨j, rfl⟩ : ∃ j : Nat, n = (j : Int) := ⟨n.toNat, by omega⟩
    by_cases hf : Fit c q xs.length
    · obtain ⟨k, rfl⟩ : ∃ k : Nat, c = (k : Int) := ⟨c.toNat, by have := hf.1; omega⟩
      exact fresh_main fresh q k j u xs w hu (by omega) hf
    · exact fresh_bad fresh c q j u xs w hu (by omega) (by omega) hf
end Go.Proofs.YtmfgfjkpijmgoaaDoor

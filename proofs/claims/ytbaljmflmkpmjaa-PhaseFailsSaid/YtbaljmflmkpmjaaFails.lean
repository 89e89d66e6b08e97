/-
  The walk of crossbucklaw20.PhaseFails: true, whatever it is given.
-/
import Derived.Test.YtbaljmflmkpmjaaSmall
import Derived.Test.YtbaljmflmkpmjaaFew
import Derived.Test.YtbaljmflmkpmjaaPhFacts
import Derived.Test.YtbaljmflmkpmjaaPhOpen
import Derived.StillTailTactics
namespace Go.Proofs.Ytbaljmflmkpmjaa
open Go.RowKit

set_option maxHeartbeats 1000000 in
theorem fails_out (p0 : Int) (T : PhT) (a0 : Option Addr) (K c0 : Nat) (w : World) (h : phfew T = false ∨ (phfew T = true ∧ 0 ≤ p0 ∧ p0 ≤ 6) ∨ (phfew T = true ∧ ¬ 0 ≤ p0 ∧ 400 < (K : Int)) ∨ (phfew T = true ∧ 0 ≤ p0 ∧ ¬ p0 ≤ 6 ∧ 400 < (K : Int))) : Calls Try.prog 7 #[.int .i64 p0, .slice a0 K c0, .agg #[.int .i64 T.am, .int .i64 T.re, .int .i64 T.en, .int .i64 T.tr, .int .i64 T.pr, .int .i64 T.op, .int .i64 T.ov, .int .i64 T.fr, .int .i64 T.ap, .int .i64 T.wa]] w fun e w' => e = .returned (.bool true) ∧ Below w.heap.size w w' := by
  have HB0 := Lib.hid (below_alloc (Below.refl _ w) (.cells #[.int .i64 T.am, .int .i64 T.re, .int .i64 T.en, .int .i64 T.tr, .int .i64 T.pr, .int .i64 T.op, .int .i64 T.ov, .int .i64 T.fr, .int .i64 T.ap, .int .i64 T.wa] 23))
  have HT0 := Lib.hid (blk_new w #[.int .i64 T.am, .int .i64 T.re, .int .i64 T.en, .int .i64 T.tr, .int .i64 T.pr, .int .i64 T.op, .int .i64 T.ov, .int .i64 T.fr, .int .i64 T.ap, .int .i64 T.wa] 23)
  rcases h with hf | ⟨hf, h0, h1⟩ | ⟨hf, h0, h1⟩ | ⟨hf, h0, h2, h1⟩
  all_goals
    have HS := Lib.hid (few_to T _ hf)
    clear hf
    go_enter Try.func7, Try.ntmps7
    go_wp2_with fail
    (with_reducible refine (small_true _).mono ?_)
    rintro e w1 ⟨rfl, hb⟩
    have HB1 := Lib.hid (below_call HB0.out hb)
    obtain ⟨t0, t1, t2, t3, t4, t5, t6, t7, t8, t9⟩ := box10 (HT0.out.below hb)
    clear hb
    go_wp2_with fail
    (with_reducible refine (HS.out _).mono ?_)
    rintro e w2 ⟨rfl, hb⟩
    have HB2 := Lib.hid (below_call HB1.out hb)
    clear hb t0 t1 t2 t3 t4 t5 t6 t7 t8 t9
    go_wp2_with fail
    go_ret
    exact ⟨rfl, HB2.out⟩
set_option maxHeartbeats 8000000 in
set_option maxRecDepth 10000 in
theorem fails_main1 (p0 : Int) (T : PhT) (a0 : Option Addr) (K c0 : Nat) (ls : List PhW) (w : World) (hv : Els RPh 7 w (.slice a0 K c0) ls) (hK : K = ls.length) (hf : phfew T = true) (h : ¬ 400 < (K : Int)) (hp0 : ¬ 0 ≤ p0) : Calls Try.prog 7 #[.int .i64 p0, .slice a0 K c0, .agg #[.int .i64 T.am, .int .i64 T.re, .int .i64 T.en, .int .i64 T.tr, .int .i64 T.pr, .int .i64 T.op, .int .i64 T.ov, .int .i64 T.fr, .int .i64 T.ap, .int .i64 T.wa]] w fun e w' => e = .returned (.bool true) ∧ Below w.heap.size w w' := by
  have HQ0 := Lib.hid (show p0 < 0 ∨ 6 < p0 by omega)
  have HF := Lib.hid (phfew_some hf)
  have HS := Lib.hid (few_to T true hf)
  have HB0 := Lib.hid (below_alloc (Below.refl _ w) (.cells #[.int .i64 T.am, .int .i64 T.re, .int .i64 T.en, .int .i64 T.tr, .int .i64 T.pr, .int .i64 T.op, .int .i64 T.ov, .int .i64 T.fr, .int .i64 T.ap, .int .i64 T.wa] 23))
  have HT0 := Lib.hid (blk_new w #[.int .i64 T.am, .int .i64 T.re, .int .i64 T.en, .int .i64 T.tr, .int .i64 T.pr, .int .i64 T.op, .int .i64 T.ov, .int .i64 T.fr, .int .i64 T.ap, .int .i64 T.wa] 23)
  have HV := Lib.hid hv
  have HN := Lib.hid hK
  have HK := Lib.hid (show K ≤ 400 by omega)
  clear hv hK hf
  go_enter Try.func7, Try.ntmps7
  go_wp2_with fail
  (with_reducible refine (small_true _).mono ?_)
  rintro e w1 ⟨rfl, hb⟩
  have HB1 := Lib.hid (below_call HB0.out hb)
  have HT1 := Lib.hid (HT0.out.below hb)
  clear hb HB0 HT0
  obtain ⟨t0, t1, t2, t3, t4, t5, t6, t7, t8, t9⟩ := box10 HT1.out
  go_wp2_with fail
  (with_reducible refine (HS.out _).mono ?_)
  rintro e w2 ⟨rfl, hb⟩
  have HB2 := Lib.hid (below_call HB1.out hb)
  have HT2 := Lib.hid (HT1.out.below hb)
  clear hb HB1 HT1 HS t0 t1 t2 t3 t4 t5 t6 t7 t8 t9
  go_wp2_with fail
  have HG := Lib.hid (show w.heap.size < w2.heap.size from HT2.out.lt)
  have HR3 := Lib.hid (blk_new w2 #[.int .i64 p0, .int .i64 0] 28)
  have HT3 := Lib.hid (HT2.out.below (below_alloc (Below.refl _ w2) (.cells #[.int .i64 p0, .int .i64 0] 28)))
  have HB3 := Lib.hid (below_alloc HB2.out (.cells #[.int .i64 p0, .int .i64 0] 28))
  clear HB2 HT2 h hp0
  generalize w2.alloc (.cells #[.int .i64 p0, .int .i64 0] 28) = V at *
  generalize w2.heap.size = g at *
  go_loopw [10] (fun z wr => ∃ (k : Nat) (p s : Int), k ≤ K ∧ z = .int .i64 (k : Int) ∧ Hid (p < 0 ∨ 6 < p) ∧ Hid (Below w.heap.size w wr) ∧ Hid (Blk wr w.heap.size #[.int .i64 T.am, .int .i64 T.re, .int .i64 T.en, .int .i64 T.tr, .int .i64 T.pr, .int .i64 T.op, .int .i64 T.ov, .int .i64 T.fr, .int .i64 T.ap, .int .i64 T.wa] 23) ∧ Hid (Blk wr g #[.int .i64 p, .int .i64 s] 28)) (fun z _ => K - (intOf z).toNat)
  case atStart => exact ⟨0, p0, 0, by omega, rfl, HQ0, HB3, HT3, HR3⟩
  case round =>
    obtain ⟨k, p, s, hk, rfl, HI, HB, HT, HR⟩ := hrel
    clear HB3 HT3 HR3
    by_cases hlt : k < K
    · have hltI : (k : Int) < (K : Int) := by omega
      obtain ⟨y, hy⟩ : ∃ y, ls[k]? = some y := ⟨_, List.getElem?_eq_getElem (by rw [← HN.out]; exact hlt)⟩
      obtain ⟨g2, o2, ea, hr⟩ := HV.out.at_ hy
      subst ea
      obtain ⟨cl, ur, ya, yb, yc, yd, ob⟩ := y
      obtain ⟨p', s', hs⟩ : ∃ p' s', phs T p s ⟨cl, ur, ya, yb, yc, yd, ob⟩ = (p', s') := ⟨_, _, rfl⟩
      have HP := Lib.hid (phstep_to T p s cl ur ya yb yc yd ob HF.out.ok p' s' hs)
      have hp7 : p' = 7 := by
        obtain ⟨s2, hs2⟩ := phs_fail (T := T) (s := s) (y := ⟨cl, ur, ya, yb, yc, yd, ob⟩) HI.out
        rw [hs] at hs2
        exact congrArg Prod.fst hs2
      subst hp7
      clear HI
      obtain ⟨e0, e1, e2, e3, e4, e5, e6⟩ := hr.below HB.out
      clear hy hr hs
      dsimp only at e0 e1 e2 e3 e4 e5 e6
      obtain ⟨t0, t1, t2, t3, t4, t5, t6, t7, t8, t9⟩ := box10 HT.out
      obtain ⟨r0, r1⟩ := box2 HR.out
      have HBd := Lib.hid (below_call HB.out (bel_drew wr))
      have HTd := Lib.hid (HT.out.below (bel_drew wr))
      have HRd := Lib.hid (HR.out.below (bel_drew wr))
      go_wp2_with fail
      go_still_tail 17, (by kernel_rfl)
      change wpList _ _ _ _ _ (wr).drew
      generalize (wr).drew = w4 at *
      clear e0 e1 e2 e3 e4 e5 e6 t0 t1 t2 t3 t4 t5 t6 t7 t8 t9 r0 r1 HB HT HR
      go_wp2_with fail
      (with_reducible refine (HP.out _).mono ?_)
      rintro e w5 ⟨rfl, hb⟩
      have HB5 := Lib.hid (below_call HBd.out hb)
      have HT5 := Lib.hid (HTd.out.below hb)
      have HR5 := Lib.hid (HRd.out.below hb)
      clear hb HBd HTd HRd HP
      obtain ⟨r0, r1⟩ := box2 HR5.out
      have f0 := HR5.out.frz 0
      have f1 := HR5.out.frz 1
      have HB6 := Lib.hid (bel_set2 HB5.out (Nat.le_of_lt HG.out) (.int .i64 7) (.int .i64 s'))
      have HT6 := Lib.hid ((HT5.out.far g 0 (.int .i64 7) (Nat.ne_of_lt HG.out)).far g 1 (.int .i64 s') (Nat.ne_of_lt HG.out))
      have HR6 := Lib.hid ((HR5.out.set_ 0 (.int .i64 7)).set_ 1 (.int .i64 s'))
      clear HB5 HT5 HR5
      obtain ⟨q0, q1⟩ := box2 HR6.out
      go_wp2_with fail
      go_roundw
      case rel => exact ⟨k + 1, 7, s', by omega, by go_num, Lib.hid (Or.inr (by decide)), HB6, HT6, HR6⟩
      case measure => simp [intOf]; omega
    · have hltI : ¬ (k : Int) < (K : Int) := by omega
      have hq := HI.out
      have HL := Lib.hid (lights_to p s false true true true true (decide_eq_false (by omega)) (decide_eq_true (by omega)) (decide_eq_true (by omega)) (decide_eq_true (by omega)) (decide_eq_true (by omega)))
      have HEN := Lib.hid (enter_to p0 7 (by have := HQ0.out; split <;> omega))
      have E1 := eql_lt false true true true true false true true true true true (by decide)
      have E2 := eql_rd 7 1 7 1 true (by decide)
      clear hq
      obtain ⟨r0, r1⟩ := box2 HR.out
      go_wp2_with fail
      (with_reducible refine (HL.out _).mono ?_)
      rintro e wa ⟨rfl, hb⟩
      have HBa := Lib.hid (below_call HB.out hb)
      clear hb r0 r1
      go_wp2_with fail
      (with_reducible refine (HEN.out _).mono ?_)
      rintro e wb ⟨rfl, hb⟩
      have HBb := Lib.hid (below_call HBa.out hb)
      clear hb
      go_wp2_with fail
      go_ret
      exact ⟨rfl, HBb.out⟩
set_option maxHeartbeats 8000000 in
set_option maxRecDepth 10000 in
theorem fails_main2 (p0 : Int) (T : PhT) (a0 : Option Addr) (K c0 : Nat) (ls : List PhW) (w : World) (hv : Els RPh 7 w (.slice a0 K c0) ls) (hK : K = ls.length) (hf : phfew T = true) (h : ¬ 400 < (K : Int)) (hp0 : 0 ≤ p0) (hp1 : ¬ p0 ≤ 6) : Calls Try.prog 7 #[.int .i64 p0, .slice a0 K c0, .agg #[.int .i64 T.am, .int .i64 T.re, .int .i64 T.en, .int .i64 T.tr, .int .i64 T.pr, .int .i64 T.op, .int .i64 T.ov, .int .i64 T.fr, .int .i64 T.ap, .int .i64 T.wa]] w fun e w' => e = .returned (.bool true) ∧ Below w.heap.size w w' := by
  have HQ0 := Lib.hid (show p0 < 0 ∨ 6 < p0 by omega)
  have HF := Lib.hid (phfew_some hf)
  have HS := Lib.hid (few_to T true hf)
  have HB0 := Lib.hid (below_alloc (Below.refl _ w) (.cells #[.int .i64 T.am, .int .i64 T.re, .int .i64 T.en, .int .i64 T.tr, .int .i64 T.pr, .int .i64 T.op, .int .i64 T.ov, .int .i64 T.fr, .int .i64 T.ap, .int .i64 T.wa] 23))
  have HT0 := Lib.hid (blk_new w #[.int .i64 T.am, .int .i64 T.re, .int .i64 T.en, .int .i64 T.tr, .int .i64 T.pr, .int .i64 T.op, .int .i64 T.ov, .int .i64 T.fr, .int .i64 T.ap, .int .i64 T.wa] 23)
  have HV := Lib.hid hv
  have HN := Lib.hid hK
  have HK := Lib.hid (show K ≤ 400 by omega)
  clear hv hK hf
  go_enter Try.func7, Try.ntmps7
  go_wp2_with fail
  (with_reducible refine (small_true _).mono ?_)
  rintro e w1 ⟨rfl, hb⟩
  have HB1 := Lib.hid (below_call HB0.out hb)
  have HT1 := Lib.hid (HT0.out.below hb)
  clear hb HB0 HT0
  obtain ⟨t0, t1, t2, t3, t4, t5, t6, t7, t8, t9⟩ := box10 HT1.out
  go_wp2_with fail
  (with_reducible refine (HS.out _).mono ?_)
  rintro e w2 ⟨rfl, hb⟩
  have HB2 := Lib.hid (below_call HB1.out hb)
  have HT2 := Lib.hid (HT1.out.below hb)
  clear hb HB1 HT1 HS t0 t1 t2 t3 t4 t5 t6 t7 t8 t9
  go_wp2_with fail
  have HG := Lib.hid (show w.heap.size < w2.heap.size from HT2.out.lt)
  have HR3 := Lib.hid (blk_new w2 #[.int .i64 p0, .int .i64 0] 28)
  have HT3 := Lib.hid (HT2.out.below (below_alloc (Below.refl _ w2) (.cells #[.int .i64 p0, .int .i64 0] 28)))
  have HB3 := Lib.hid (below_alloc HB2.out (.cells #[.int .i64 p0, .int .i64 0] 28))
  clear HB2 HT2 h hp0 hp1
  generalize w2.alloc (.cells #[.int .i64 p0, .int .i64 0] 28) = V at *
  generalize w2.heap.size = g at *
  go_loopw [10] (fun z wr => ∃ (k : Nat) (p s : Int), k ≤ K ∧ z = .int .i64 (k : Int) ∧ Hid (p < 0 ∨ 6 < p) ∧ Hid (Below w.heap.size w wr) ∧ Hid (Blk wr w.heap.size #[.int .i64 T.am, .int .i64 T.re, .int .i64 T.en, .int .i64 T.tr, .int .i64 T.pr, .int .i64 T.op, .int .i64 T.ov, .int .i64 T.fr, .int .i64 T.ap, .int .i64 T.wa] 23) ∧ Hid (Blk wr g #[.int .i64 p, .int .i64 s] 28)) (fun z _ => K - (intOf z).toNat)
  case atStart => exact ⟨0, p0, 0, by omega, rfl, HQ0, HB3, HT3, HR3⟩
  case round =>
    obtain ⟨k, p, s, hk, rfl, HI, HB, HT, HR⟩ := hrel
    clear HB3 HT3 HR3
    by_cases hlt : k < K
    · have hltI : (k : Int) < (K : Int) := by omega
      obtain ⟨y, hy⟩ : ∃ y, ls[k]? = some y := ⟨_, List.getElem?_eq_getElem (by rw [← HN.out]; exact hlt)⟩
      obtain ⟨g2, o2, ea, hr⟩ := HV.out.at_ hy
      subst ea
      obtain ⟨cl, ur, ya, yb, yc, yd, ob⟩ := y
      obtain ⟨p', s', hs⟩ : ∃ p' s', phs T p s ⟨cl, ur, ya, yb, yc, yd, ob⟩ = (p', s') := ⟨_, _, rfl⟩
      have HP := Lib.hid (phstep_to T p s cl ur ya yb yc yd ob HF.out.ok p' s' hs)
      have hp7 : p' = 7 := by
        obtain ⟨s2, hs2⟩ := phs_fail (T := T) (s := s) (y := ⟨cl, ur, ya, yb, yc, yd, ob⟩) HI.out
        rw [hs] at hs2
        exact congrArg Prod.fst hs2
      subst hp7
      clear HI
      obtain ⟨e0, e1, e2, e3, e4, e5, e6⟩ := hr.below HB.out
      clear hy hr hs
      dsimp only at e0 e1 e2 e3 e4 e5 e6
      obtain ⟨t0, t1, t2, t3, t4, t5, t6, t7, t8, t9⟩ := box10 HT.out
      obtain ⟨r0, r1⟩ := box2 HR.out
      have HBd := Lib.hid (below_call HB.out (bel_drew wr))
      have HTd := Lib.hid (HT.out.below (bel_drew wr))
      have HRd := Lib.hid (HR.out.below (bel_drew wr))
      go_wp2_with fail
      go_still_tail 17, (by kernel_rfl)
      change wpList _ _ _ _ _ (wr).drew
      generalize (wr).drew = w4 at *
      clear e0 e1 e2 e3 e4 e5 e6 t0 t1 t2 t3 t4 t5 t6 t7 t8 t9 r0 r1 HB HT HR
      go_wp2_with fail
      (with_reducible refine (HP.out _).mono ?_)
      rintro e w5 ⟨rfl, hb⟩
      have HB5 := Lib.hid (below_call HBd.out hb)
      have HT5 := Lib.hid (HTd.out.below hb)
      have HR5 := Lib.hid (HRd.out.below hb)
      clear hb HBd HTd HRd HP
      obtain ⟨r0, r1⟩ := box2 HR5.out
      have f0 := HR5.out.frz 0
      have f1 := HR5.out.frz 1
      have HB6 := Lib.hid (bel_set2 HB5.out (Nat.le_of_lt HG.out) (.int .i64 7) (.int .i64 s'))
      have HT6 := Lib.hid ((HT5.out.far g 0 (.int .i64 7) (Nat.ne_of_lt HG.out)).far g 1 (.int .i64 s') (Nat.ne_of_lt HG.out))
      have HR6 := Lib.hid ((HR5.out.set_ 0 (.int .i64 7)).set_ 1 (.int .i64 s'))
      clear HB5 HT5 HR5
      obtain ⟨q0, q1⟩ := box2 HR6.out
      go_wp2_with fail
      go_roundw
      case rel => exact ⟨k + 1, 7, s', by omega, by go_num, Lib.hid (Or.inr (by decide)), HB6, HT6, HR6⟩
      case measure => simp [intOf]; omega
    · have hltI : ¬ (k : Int) < (K : Int) := by omega
      have hq := HI.out
      have HL := Lib.hid (lights_to p s false true true true true (decide_eq_false (by omega)) (decide_eq_true (by omega)) (decide_eq_true (by omega)) (decide_eq_true (by omega)) (decide_eq_true (by omega)))
      have HEN := Lib.hid (enter_to p0 7 (by have := HQ0.out; split <;> omega))
      have E1 := eql_lt false true true true true false true true true true true (by decide)
      have E2 := eql_rd 7 1 7 1 true (by decide)
      clear hq
      obtain ⟨r0, r1⟩ := box2 HR.out
      go_wp2_with fail
      (with_reducible refine (HL.out _).mono ?_)
      rintro e wa ⟨rfl, hb⟩
      have HBa := Lib.hid (below_call HB.out hb)
      clear hb r0 r1
      go_wp2_with fail
      (with_reducible refine (HEN.out _).mono ?_)
      rintro e wb ⟨rfl, hb⟩
      have HBb := Lib.hid (below_call HBa.out hb)
      clear hb
      go_wp2_with fail
      go_ret
      exact ⟨rfl, HBb.out⟩
theorem fails_any (p0 : Int) (v : Value) (ls : List PhW) (T : PhT) (w : World) (hv : Els RPh 7 w v ls) : Calls Try.prog 7 #[.int .i64 p0, v, .agg #[.int .i64 T.am, .int .i64 T.re, .int .i64 T.en, .int .i64 T.tr, .int .i64 T.pr, .int .i64 T.op, .int .i64 T.ov, .int .i64 T.fr, .int .i64 T.ap, .int .i64 T.wa]] w fun e w' => e = .returned (.bool true) ∧ Below w.heap.size w w' := by
  obtain ⟨a0, c0, rfl⟩ := hv.len
  obtain ⟨K, hK⟩ : ∃ n, n = ls.length := ⟨_, rfl⟩
  rw [← hK] at hv ⊢
  cases hf : phfew T
  · exact fails_out p0 T a0 K c0 w (Or.inl hf)
  · by_cases h : 400 < (K : Int)
    · by_cases h0 : 0 ≤ p0
      · by_cases h1 : p0 ≤ 6
        · exact fails_out p0 T a0 K c0 w (Or.inr (Or.inl ⟨hf, h0, h1⟩))
        · exact fails_out p0 T a0 K c0 w (Or.inr (Or.inr (Or.inr ⟨hf, h0, h1, h⟩)))
      · exact fails_out p0 T a0 K c0 w (Or.inr (Or.inr (Or.inl ⟨hf, h0, h⟩)))
    · by_cases h0 : 0 ≤ p0
      · by_cases h1 : p0 ≤ 6
        · exact fails_out p0 T a0 K c0 w (Or.inr (Or.inl ⟨hf, h0, h1⟩))
        · exact fails_main2 p0 T a0 K c0 ls w hv hK hf h h0 h1
      · exact fails_main1 p0 T a0 K c0 ls w hv hK hf h h0
end Go.Proofs.Ytbaljmflmkpmjaa

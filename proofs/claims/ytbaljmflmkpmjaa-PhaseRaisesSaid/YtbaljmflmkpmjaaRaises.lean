/-
  The walk of crossbucklaw20.PhaseRaises: true, whatever it is given.
-/
import Derived.Test.YtbaljmflmkpmjaaSmall
import Derived.Test.YtbaljmflmkpmjaaFew
import Derived.Test.YtbaljmflmkpmjaaPhFacts
import Derived.Test.YtbaljmflmkpmjaaPhOpen
import Derived.StillTailTactics
namespace Go.Proofs.Ytbaljmflmkpmjaa
open Go.RowKit

set_option maxHeartbeats 1000000 in
theorem raises_out (T : PhT) (a0 : Option Addr) (K c0 : Nat) (n : Int) (w : World) (h : phfew T = false ∨ (phfew T = true ∧ 400 < (K : Int)) ∨ (phfew T = true ∧ ¬ 400 < (K : Int) ∧ n < 0) ∨ (phfew T = true ∧ ¬ 400 < (K : Int) ∧ ¬ n < 0 ∧ 100 < n)) : Calls Try.prog 6 #[.agg #[.int .i64 T.am, .int .i64 T.re, .int .i64 T.en, .int .i64 T.tr, .int .i64 T.pr, .int .i64 T.op, .int .i64 T.ov, .int .i64 T.fr, .int .i64 T.ap, .int .i64 T.wa], .slice a0 K c0, .int .i64 n] w fun e w' => e = .returned (.bool true) ∧ Below w.heap.size w w' := by
  have HB0 := Lib.hid (below_alloc (Below.refl _ w) (.cells #[.int .i64 T.am, .int .i64 T.re, .int .i64 T.en, .int .i64 T.tr, .int .i64 T.pr, .int .i64 T.op, .int .i64 T.ov, .int .i64 T.fr, .int .i64 T.ap, .int .i64 T.wa] 23))
  have HT0 := Lib.hid (blk_new w #[.int .i64 T.am, .int .i64 T.re, .int .i64 T.en, .int .i64 T.tr, .int .i64 T.pr, .int .i64 T.op, .int .i64 T.ov, .int .i64 T.fr, .int .i64 T.ap, .int .i64 T.wa] 23)
  rcases h with hf | ⟨hf, h1⟩ | ⟨hf, h1, h2⟩ | ⟨hf, h1, h2, h3⟩
  all_goals
    have HS := Lib.hid (few_to T _ hf)
    clear hf
    go_enter Try.func6, Try.ntmps6
    go_wp2_with fail
    (with_reducible refine (small_true _).mono ?_)
    rintro e w1 ⟨rfl, hb⟩
    have HB1 := Lib.hid (below_call HB0.out hb)
    obtain ⟨t0, t1, t2, t3, t4, t5, t6, t7, t8, t9⟩ := box10 (HT0.out.below hb)
    clear hb
    go_wp2_with fail
    (with_reducible refine (HS.out _).mono ?_)
    rintro e w2 ⟨rfl, hb⟩
    have HB2 := Lib.hid (below_call HB1.out hb)
    clear hb t0 t1 t2 t3 t4 t5 t6 t7 t8 t9
    go_wp2_with fail
    go_ret
    exact ⟨rfl, HB2.out⟩
set_option maxHeartbeats 8000000 in
set_option maxRecDepth 10000 in
theorem raises_main (T : PhT) (a0 : Option Addr) (K c0 N : Nat) (ls : List PhW) (w : World) (hv : Els RPh 7 w (.slice a0 K c0) ls) (hK : K = ls.length) (hf : phfew T = true) (h : ¬ 400 < (K : Int)) (hn0 : ¬ (N : Int) < 0) (hn1 : ¬ 100 < (N : Int)) : Calls Try.prog 6 #[.agg #[.int .i64 T.am, .int .i64 T.re, .int .i64 T.en, .int .i64 T.tr, .int .i64 T.pr, .int .i64 T.op, .int .i64 T.ov, .int .i64 T.fr, .int .i64 T.ap, .int .i64 T.wa], .slice a0 K c0, .int .i64 (N : Int)] w fun e w' => e = .returned (.bool true) ∧ Below w.heap.size w w' := by
  have HNN := Lib.hid (show N ≤ 100 by omega)
  have HF := Lib.hid (phfew_some hf)
  have HS := Lib.hid (few_to T true hf)
  have HB0 := Lib.hid (below_alloc (Below.refl _ w) (.cells #[.int .i64 T.am, .int .i64 T.re, .int .i64 T.en, .int .i64 T.tr, .int .i64 T.pr, .int .i64 T.op, .int .i64 T.ov, .int .i64 T.fr, .int .i64 T.ap, .int .i64 T.wa] 23))
  have HT0 := Lib.hid (blk_new w #[.int .i64 T.am, .int .i64 T.re, .int .i64 T.en, .int .i64 T.tr, .int .i64 T.pr, .int .i64 T.op, .int .i64 T.ov, .int .i64 T.fr, .int .i64 T.ap, .int .i64 T.wa] 23)
  have HV := Lib.hid hv
  have HN := Lib.hid hK
  have HK := Lib.hid (show K ≤ 400 by omega)
  clear hv hK hf
  go_enter Try.func6, Try.ntmps6
  go_wp2_with fail
  (with_reducible refine (small_true _).mono ?_)
  rintro e w1 ⟨rfl, hb⟩
  have HB1 := Lib.hid (below_call HB0.out hb)
  have HT1 := Lib.hid (HT0.out.below hb)
  clear hb HB0 HT0
  obtain ⟨t0, t1, t2, t3, t4, t5, t6, t7, t8, t9⟩ := box10 HT1.out
  go_wp2_with fail
  (with_reducible refine (HS.out _).mono ?_)
  rintro e w2 ⟨rfl, hb⟩
  have HB2 := Lib.hid (below_call HB1.out hb)
  have HT2 := Lib.hid (HT1.out.below hb)
  clear hb HB1 HT1 HS t0 t1 t2 t3 t4 t5 t6 t7 t8 t9
  go_wp2_with fail
  (with_reducible refine (enter_to 0 0 (by decide) _).mono ?_)
  rintro e w3 ⟨rfl, hb⟩
  have HB3 := Lib.hid (below_alloc (below_call HB2.out hb) (.cells #[.int .i64 0, .int .i64 1] 28))
  have hA := below_alloc (Below.refl _ w3) (.cells #[.int .i64 0, .int .i64 1] 28)
  have HT3 := Lib.hid ((HT2.out.below hb).below hA)
  have HR3 := Lib.hid (blk_new w3 #[.int .i64 0, .int .i64 1] 28)
  have HG := Lib.hid (show w.heap.size < w3.heap.size from (HT2.out.below hb).lt)
  clear hb hA HB2 HT2
  go_wp2_with fail
  generalize w3.alloc (.cells #[.int .i64 0, .int .i64 1] 28) = V at *
  generalize w3.heap.size = g at *
  clear hn0 hn1 h
  go_loopw [10] (fun z wr => ∃ (k : Nat) (p s : Int), k ≤ K ∧ z = .int .i64 (k : Int) ∧ Hid (PhInv p s k) ∧ Hid (Below w.heap.size w wr) ∧ Hid (Blk wr w.heap.size #[.int .i64 T.am, .int .i64 T.re, .int .i64 T.en, .int .i64 T.tr, .int .i64 T.pr, .int .i64 T.op, .int .i64 T.ov, .int .i64 T.fr, .int .i64 T.ap, .int .i64 T.wa] 23) ∧ Hid (Blk wr g #[.int .i64 p, .int .i64 s] 28)) (fun z _ => K - (intOf z).toNat)
  case atStart => exact ⟨0, 0, 1, by omega, rfl, Lib.hid rinv_zero, HB3, HT3, HR3⟩
  case round =>
    obtain ⟨k, p, s, hk, rfl, HI, HB, HT, HR⟩ := hrel
    clear HB3 HT3 HR3
    by_cases hlt : k < K
    · have hltI : (k : Int) < (K : Int) := by omega
      obtain ⟨y, hy⟩ : ∃ y, ls[k]? = some y := ⟨_, List.getElem?_eq_getElem (by rw [← HN.out]; exact hlt)⟩
      obtain ⟨g2, o2, ea, hr⟩ := HV.out.at_ hy
      subst ea
      obtain ⟨cl, ur, ya, yb, yc, yd, ob⟩ := y
      obtain ⟨p', s', hs⟩ : ∃ p' s', phs T p s ⟨cl, ur, ya, yb, yc, yd, ob⟩ = (p', s') := ⟨_, _, rfl⟩
      have HP := Lib.hid (phstep_to T p s cl ur ya yb yc yd ob HF.out.ok p' s' hs)
      have HW := Lib.hid (rinv_step HF.out.ok (by have := HK.out; omega) HI.out hs)
      clear HI
      obtain ⟨e0, e1, e2, e3, e4, e5, e6⟩ := hr.below HB.out
      clear hy hr hs
      dsimp only at e0 e1 e2 e3 e4 e5 e6
      obtain ⟨t0, t1, t2, t3, t4, t5, t6, t7, t8, t9⟩ := box10 HT.out
      obtain ⟨r0, r1⟩ := box2 HR.out
      have HBd := Lib.hid (below_call HB.out (bel_drew wr))
      have HTd := Lib.hid (HT.out.below (bel_drew wr))
      have HRd := Lib.hid (HR.out.below (bel_drew wr))
      go_wp2_with fail
      go_still_tail 17, (by kernel_rfl)
      change wpList _ _ _ _ _ (wr).drew
      generalize (wr).drew = w4 at *
      clear e0 e1 e2 e3 e4 e5 e6 t0 t1 t2 t3 t4 t5 t6 t7 t8 t9 r0 r1 HB HT HR
      go_wp2_with fail
      (with_reducible refine (HP.out _).mono ?_)
      rintro e w5 ⟨rfl, hb⟩
      have HB5 := Lib.hid (below_call HBd.out hb)
      have HT5 := Lib.hid (HTd.out.below hb)
      have HR5 := Lib.hid (HRd.out.below hb)
      clear hb HBd HTd HRd HP
      obtain ⟨r0, r1⟩ := box2 HR5.out
      have f0 := HR5.out.frz 0
      have f1 := HR5.out.frz 1
      have HB6 := Lib.hid (bel_set2 HB5.out (Nat.le_of_lt HG.out) (.int .i64 p') (.int .i64 s'))
      have HT6 := Lib.hid ((HT5.out.far g 0 (.int .i64 p') (Nat.ne_of_lt HG.out)).far g 1 (.int .i64 s') (Nat.ne_of_lt HG.out))
      have HR6 := Lib.hid ((HR5.out.set_ 0 (.int .i64 p')).set_ 1 (.int .i64 s'))
      clear HB5 HT5 HR5
      go_wp2_with fail
      go_roundw
      case rel => exact ⟨k + 1, p', s', by omega, by go_num, HW, HB6, HT6, HR6⟩
      case measure => simp [intOf]; omega
    · have hltI : ¬ (k : Int) < (K : Int) := by omega
      obtain ⟨q, s1, hq, hr1, hs1⟩ : ∃ q s1, (q = 0 ∨ q = 6) ∧ PhInv q s1 (k + 1) ∧ phs T p s ⟨false, false, false, false, false, false, true⟩ = (q, s1) := by
        obtain ⟨s1, h0, h1⟩ := phs_raise (T := T) (a := false) (c := false) (ob := true) (by have := HK.out; omega) HI.out
        exact ⟨_, s1, by split <;> simp, h0, h1⟩
      have HP1 := Lib.hid (phstep_to T p s false false false false false false true HF.out.ok q s1 hs1)
      have HI1 := Lib.hid hr1
      have HKK := Lib.hid (show k ≤ 400 by have := HK.out; omega)
      clear hr1 hs1 hlt hk HI
      rcases hq with rfl | rfl
      · obtain ⟨t0, t1, t2, t3, t4, t5, t6, t7, t8, t9⟩ := box10 HT.out
        obtain ⟨r0, r1⟩ := box2 HR.out
        go_wp2_with fail
        (with_reducible refine (HP1.out _).mono ?_)
        rintro e wb ⟨rfl, hb⟩
        have HB5 := Lib.hid (below_call HB.out hb)
        have HT5 := Lib.hid (HT.out.below hb)
        have HR5 := Lib.hid (HR.out.below hb)
        clear hb HP1 HB HT HR t0 t1 t2 t3 t4 t5 t6 t7 t8 t9 r0 r1
        obtain ⟨r0, r1⟩ := box2 HR5.out
        have f0 := HR5.out.frz 0
        have f1 := HR5.out.frz 1
        have HB6 := Lib.hid (bel_set2 HB5.out (Nat.le_of_lt HG.out) (.int .i64 0) (.int .i64 s1))
        have HT6 := Lib.hid ((HT5.out.far g 0 (.int .i64 0) (Nat.ne_of_lt HG.out)).far g 1 (.int .i64 s1) (Nat.ne_of_lt HG.out))
        have HR6 := Lib.hid ((HR5.out.set_ 0 (.int .i64 0)).set_ 1 (.int .i64 s1))
        clear HB5 HT5 HR5
        go_wp2_with fail
        clear r0 r1 f0 f1 hltI
        generalize (wb.setCell ⟨g, 0, none⟩ (.int .i64 0)).setCell ⟨g, 1, none⟩ (.int .i64 s1) = V2 at *
        go_loopw [12] (fun z wx => ∃ (j : Nat) (s2 : Int), j ≤ N ∧ z = .int .i64 (j : Int) ∧ Hid (PhInv 0 s2 (k + 1 + j)) ∧ Hid (Below w.heap.size w wx) ∧ Hid (Blk wx w.heap.size #[.int .i64 T.am, .int .i64 T.re, .int .i64 T.en, .int .i64 T.tr, .int .i64 T.pr, .int .i64 T.op, .int .i64 T.ov, .int .i64 T.fr, .int .i64 T.ap, .int .i64 T.wa] 23) ∧ Hid (Blk wx g #[.int .i64 0, .int .i64 s2] 28)) (fun z _ => N - (intOf z).toNat)
        case atStart => exact ⟨0, s1, by omega, rfl, HI1, HB6, HT6, HR6⟩
        case round =>
          obtain ⟨j, s2, hj, rfl, HI2, HB, HT, HR⟩ := hrel
          clear HB6 HT6 HR6
          by_cases hlt : j < N
          · have hltI : (j : Int) < (N : Int) := by omega
            obtain ⟨hi3, hs3⟩ := phs_stay (T := T) (a := false) (c := false) (ob := false) (Or.inl rfl) (by have := HKK.out; have := HNN.out; omega) HI2.out
            have HI3 := Lib.hid hi3
            have HP2 := Lib.hid (phstep_to T 0 s2 false false false true false false false HF.out.ok 0 (s2 + 1) hs3)
            clear hi3 hs3 HI2
            obtain ⟨t0, t1, t2, t3, t4, t5, t6, t7, t8, t9⟩ := box10 HT.out
            obtain ⟨r0, r1⟩ := box2 HR.out
            go_wp2_with fail
            (with_reducible refine (HP2.out _).mono ?_)
            rintro e wb ⟨rfl, hb⟩
            have HB5 := Lib.hid (below_call HB.out hb)
            have HT5 := Lib.hid (HT.out.below hb)
            have HR5 := Lib.hid (HR.out.below hb)
            clear hb HP2 HB HT HR t0 t1 t2 t3 t4 t5 t6 t7 t8 t9 r0 r1
            obtain ⟨r0, r1⟩ := box2 HR5.out
            have f0 := HR5.out.frz 0
            have f1 := HR5.out.frz 1
            have HB6 := Lib.hid (bel_set2 HB5.out (Nat.le_of_lt HG.out) (.int .i64 0) (.int .i64 (s2 + 1)))
            have HT6 := Lib.hid ((HT5.out.far g 0 (.int .i64 0) (Nat.ne_of_lt HG.out)).far g 1 (.int .i64 (s2 + 1)) (Nat.ne_of_lt HG.out))
            have HR6 := Lib.hid ((HR5.out.set_ 0 (.int .i64 0)).set_ 1 (.int .i64 (s2 + 1)))
            clear HB5 HT5 HR5
            go_wp2_with fail
            go_roundw
            case rel => exact ⟨j + 1, s2 + 1, by omega, by go_num, HI3, HB6, HT6, HR6⟩
            case measure => simp [intOf]; omega
          · have hltI : ¬ (j : Int) < (N : Int) := by omega
            obtain ⟨s3, hs3⟩ := phs_open (T := T) (a := false) (c := false) (ob := false) (Or.inl rfl) (by have := HKK.out; have := HNN.out; omega) HI2.out
            have HP3 := Lib.hid (phstep_to T 0 s2 false false false true false true false HF.out.ok 0 s3 hs3)
            have HL := Lib.hid (lights_to 0 s3 false false false false false (by decide) (by decide) (by decide) (by decide) (by decide))
            have E1 := eql_lt false false false false false false false false false false true (by decide)
            clear hs3 HI2 hlt hj
            obtain ⟨t0, t1, t2, t3, t4, t5, t6, t7, t8, t9⟩ := box10 HT.out
            obtain ⟨r0, r1⟩ := box2 HR.out
            go_wp2_with fail
            (with_reducible refine (HP3.out _).mono ?_)
            rintro e wb ⟨rfl, hb⟩
            have HB5 := Lib.hid (below_call HB.out hb)
            have HT5 := Lib.hid (HT.out.below hb)
            have HR5 := Lib.hid (HR.out.below hb)
            clear hb HP3 HB HT HR t0 t1 t2 t3 t4 t5 t6 t7 t8 t9 r0 r1
            obtain ⟨r0, r1⟩ := box2 HR5.out
            have f0 := HR5.out.frz 0
            have f1 := HR5.out.frz 1
            have HB6 := Lib.hid (bel_set2 HB5.out (Nat.le_of_lt HG.out) (.int .i64 0) (.int .i64 s3))
            have HT6 := Lib.hid ((HT5.out.far g 0 (.int .i64 0) (Nat.ne_of_lt HG.out)).far g 1 (.int .i64 s3) (Nat.ne_of_lt HG.out))
            have HR6 := Lib.hid ((HR5.out.set_ 0 (.int .i64 0)).set_ 1 (.int .i64 s3))
            clear HB5 HT5 HR5
            go_wp2_with fail
            (with_reducible refine (HL.out _).mono ?_)
            rintro e wc ⟨rfl, hb⟩
            have HB7 := Lib.hid (below_call HB6.out hb)
            clear hb r0 r1 f0 f1
            go_wp2_with fail
            go_ret
            exact ⟨rfl, HB7.out⟩
      · obtain ⟨t0, t1, t2, t3, t4, t5, t6, t7, t8, t9⟩ := box10 HT.out
        obtain ⟨r0, r1⟩ := box2 HR.out
        go_wp2_with fail
        (with_reducible refine (HP1.out _).mono ?_)
        rintro e wb ⟨rfl, hb⟩
        have HB5 := Lib.hid (below_call HB.out hb)
        have HT5 := Lib.hid (HT.out.below hb)
        have HR5 := Lib.hid (HR.out.below hb)
        clear hb HP1 HB HT HR t0 t1 t2 t3 t4 t5 t6 t7 t8 t9 r0 r1
        obtain ⟨r0, r1⟩ := box2 HR5.out
        have f0 := HR5.out.frz 0
        have f1 := HR5.out.frz 1
        have HB6 := Lib.hid (bel_set2 HB5.out (Nat.le_of_lt HG.out) (.int .i64 6) (.int .i64 s1))
        have HT6 := Lib.hid ((HT5.out.far g 0 (.int .i64 6) (Nat.ne_of_lt HG.out)).far g 1 (.int .i64 s1) (Nat.ne_of_lt HG.out))
        have HR6 := Lib.hid ((HR5.out.set_ 0 (.int .i64 6)).set_ 1 (.int .i64 s1))
        clear HB5 HT5 HR5
        go_wp2_with fail
        clear r0 r1 f0 f1 hltI
        generalize (wb.setCell ⟨g, 0, none⟩ (.int .i64 6)).setCell ⟨g, 1, none⟩ (.int .i64 s1) = V2 at *
        go_loopw [12] (fun z wx => ∃ (j : Nat) (s2 : Int), j ≤ N ∧ z = .int .i64 (j : Int) ∧ Hid (PhInv 6 s2 (k + 1 + j)) ∧ Hid (Below w.heap.size w wx) ∧ Hid (Blk wx w.heap.size #[.int .i64 T.am, .int .i64 T.re, .int .i64 T.en, .int .i64 T.tr, .int .i64 T.pr, .int .i64 T.op, .int .i64 T.ov, .int .i64 T.fr, .int .i64 T.ap, .int .i64 T.wa] 23) ∧ Hid (Blk wx g #[.int .i64 6, .int .i64 s2] 28)) (fun z _ => N - (intOf z).toNat)
        case atStart => exact ⟨0, s1, by omega, rfl, HI1, HB6, HT6, HR6⟩
        case round =>
          obtain ⟨j, s2, hj, rfl, HI2, HB, HT, HR⟩ := hrel
          clear HB6 HT6 HR6
          by_cases hlt : j < N
          · have hltI : (j : Int) < (N : Int) := by omega
            obtain ⟨hi3, hs3⟩ := phs_stay (T := T) (a := false) (c := false) (ob := false) (Or.inr rfl) (by have := HKK.out; have := HNN.out; omega) HI2.out
            have HI3 := Lib.hid hi3
            have HP2 := Lib.hid (phstep_to T 6 s2 false false false true false false false HF.out.ok 6 (s2 + 1) hs3)
            clear hi3 hs3 HI2
            obtain ⟨t0, t1, t2, t3, t4, t5, t6, t7, t8, t9⟩ := box10 HT.out
            obtain ⟨r0, r1⟩ := box2 HR.out
            go_wp2_with fail
            (with_reducible refine (HP2.out _).mono ?_)
            rintro e wb ⟨rfl, hb⟩
            have HB5 := Lib.hid (below_call HB.out hb)
            have HT5 := Lib.hid (HT.out.below hb)
            have HR5 := Lib.hid (HR.out.below hb)
            clear hb HP2 HB HT HR t0 t1 t2 t3 t4 t5 t6 t7 t8 t9 r0 r1
            obtain ⟨r0, r1⟩ := box2 HR5.out
            have f0 := HR5.out.frz 0
            have f1 := HR5.out.frz 1
            have HB6 := Lib.hid (bel_set2 HB5.out (Nat.le_of_lt HG.out) (.int .i64 6) (.int .i64 (s2 + 1)))
            have HT6 := Lib.hid ((HT5.out.far g 0 (.int .i64 6) (Nat.ne_of_lt HG.out)).far g 1 (.int .i64 (s2 + 1)) (Nat.ne_of_lt HG.out))
            have HR6 := Lib.hid ((HR5.out.set_ 0 (.int .i64 6)).set_ 1 (.int .i64 (s2 + 1)))
            clear HB5 HT5 HR5
            go_wp2_with fail
            go_roundw
            case rel => exact ⟨j + 1, s2 + 1, by omega, by go_num, HI3, HB6, HT6, HR6⟩
            case measure => simp [intOf]; omega
          · have hltI : ¬ (j : Int) < (N : Int) := by omega
            obtain ⟨s3, hs3⟩ := phs_open (T := T) (a := false) (c := false) (ob := false) (Or.inr rfl) (by have := HKK.out; have := HNN.out; omega) HI2.out
            have HP3 := Lib.hid (phstep_to T 6 s2 false false false true false true false HF.out.ok 0 s3 hs3)
            have HL := Lib.hid (lights_to 0 s3 false false false false false (by decide) (by decide) (by decide) (by decide) (by decide))
            have E1 := eql_lt false false false false false false false false false false true (by decide)
            clear hs3 HI2 hlt hj
            obtain ⟨t0, t1, t2, t3, t4, t5, t6, t7, t8, t9⟩ := box10 HT.out
            obtain ⟨r0, r1⟩ := box2 HR.out
            go_wp2_with fail
            (with_reducible refine (HP3.out _).mono ?_)
            rintro e wb ⟨rfl, hb⟩
            have HB5 := Lib.hid (below_call HB.out hb)
            have HT5 := Lib.hid (HT.out.below hb)
            have HR5 := Lib.hid (HR.out.below hb)
            clear hb HP3 HB HT HR t0 t1 t2 t3 t4 t5 t6 t7 t8 t9 r0 r1
            obtain ⟨r0, r1⟩ := box2 HR5.out
            have f0 := HR5.out.frz 0
            have f1 := HR5.out.frz 1
            have HB6 := Lib.hid (bel_set2 HB5.out (Nat.le_of_lt HG.out) (.int .i64 0) (.int .i64 s3))
            have HT6 := Lib.hid ((HT5.out.far g 0 (.int .i64 0) (Nat.ne_of_lt HG.out)).far g 1 (.int .i64 s3) (Nat.ne_of_lt HG.out))
            have HR6 := Lib.hid ((HR5.out.set_ 0 (.int .i64 0)).set_ 1 (.int .i64 s3))
            clear HB5 HT5 HR5
            go_wp2_with fail
            (with_reducible refine (HL.out _).mono ?_)
            rintro e wc ⟨rfl, hb⟩
            have HB7 := Lib.hid (below_call HB6.out hb)
            clear hb r0 r1 f0 f1
            go_wp2_with fail
            go_ret
            exact ⟨rfl, HB7.out⟩
theorem raises_any (T : PhT) (v : Value) (ls : List PhW) (n : Int) (w : World) (hv : Els RPh 7 w v ls) : Calls Try.prog 6 #[.agg #[.int .i64 T.am, .int .i64 T.re, .int .i64 T.en, .int .i64 T.tr, .int .i64 T.pr, .int .i64 T.op, .int .i64 T.ov, .int .i64 T.fr, .int .i64 T.ap, .int .i64 T.wa], v, .int .i64 n] w fun e w' => e = .returned (.bool true) ∧ Below w.heap.size w w' := by
  obtain ⟨a0, c0, rfl⟩ := hv.len
  obtain ⟨K, hK⟩ : ∃ n, n = ls.length := ⟨_, rfl⟩
  rw [← hK] at hv ⊢
  cases hf : phfew T
  · exact raises_out T a0 K c0 n w (Or.inl hf)
  · by_cases h : 400 < (K : Int)
    · exact raises_out T a0 K c0 n w (Or.inr (Or.inl ⟨hf, h⟩))
    · by_cases h0 : n < 0
      · exact raises_out T a0 K c0 n w (Or.inr (Or.inr (Or.inl ⟨hf, h, h0⟩)))
      · by_cases h1 : 100 < n
        · exact raises_out T a0 K c0 n w (Or.inr (Or.inr (Or.inr ⟨hf, h, h0, h1⟩)))
        · obtain ⟨N, rfl⟩ : ∃ N : Nat, n = (N : Int) := ⟨n.toNat, by omega⟩
          exact raises_main T a0 K c0 N ls w hv hK hf h h0 h1
end Go.Proofs.Ytbaljmflmkpmjaa

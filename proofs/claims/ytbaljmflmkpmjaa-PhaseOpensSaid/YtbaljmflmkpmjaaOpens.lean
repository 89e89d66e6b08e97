/-
  The walk of crossbucklaw20.PhaseOpens: true, whatever it is given.
-/
import Derived.Test.YtbaljmflmkpmjaaSmall
import Derived.Test.YtbaljmflmkpmjaaFew
import Derived.Test.YtbaljmflmkpmjaaPhFacts
import Derived.Test.YtbaljmflmkpmjaaPhOpen
import Derived.StillTailTactics
namespace Go.Proofs.Ytbaljmflmkpmjaa
open Go.RowKit

set_option maxHeartbeats 1000000 in
theorem opens_out (T : PhT) (a0 : Option Addr) (K c0 : Nat) (w : World) (h : phfew T = false ∨ (phfew T = true ∧ 400 < (K : Int))) : Calls Try.prog 5 #[.agg #[.int .i64 T.am, .int .i64 T.re, .int .i64 T.en, .int .i64 T.tr, .int .i64 T.pr, .int .i64 T.op, .int .i64 T.ov, .int .i64 T.fr, .int .i64 T.ap, .int .i64 T.wa], .slice a0 K c0] w fun e w' => e = .returned (.bool true) ∧ Below w.heap.size w w' := by
  have HB0 := Lib.hid (below_alloc (Below.refl _ w) (.cells #[.int .i64 T.am, .int .i64 T.re, .int .i64 T.en, .int .i64 T.tr, .int .i64 T.pr, .int .i64 T.op, .int .i64 T.ov, .int .i64 T.fr, .int .i64 T.ap, .int .i64 T.wa] 23))
  have HT0 := Lib.hid (blk_new w #[.int .i64 T.am, .int .i64 T.re, .int .i64 T.en, .int .i64 T.tr, .int .i64 T.pr, .int .i64 T.op, .int .i64 T.ov, .int .i64 T.fr, .int .i64 T.ap, .int .i64 T.wa] 23)
  rcases h with hf | ⟨hf, h1⟩
  all_goals
    have HS := Lib.hid (few_to T _ hf)
    clear hf
    go_enter Try.func5, Try.ntmps5
    go_wp2_with fail
    (with_reducible refine (small_true _).mono ?_)
    rintro e w1 ⟨rfl, hb⟩
    have HB1 := Lib.hid (below_call HB0.out hb)
    obtain ⟨t0, t1, t2, t3, t4, t5, t6, t7, t8, t9⟩ := box10 (HT0.out.below hb)
    clear hb
    go_wp2_with fail
    (with_reducible refine (HS.out _).mono ?_)
    rintro e w2 ⟨rfl, hb⟩
    have HB2 := Lib.hid (below_call HB1.out hb)
    clear hb t0 t1 t2 t3 t4 t5 t6 t7 t8 t9
    go_wp2_with fail
    go_ret
    exact ⟨rfl, HB2.out⟩
set_option maxHeartbeats 8000000 in
set_option maxRecDepth 10000 in
theorem opens_main (T : PhT) (a0 : Option Addr) (K c0 : Nat) (ls : List PhW) (w : World) (hv : Els RPh 7 w (.slice a0 K c0) ls) (hK : K = ls.length) (hf : phfew T = true) (h : ¬ 400 < (K : Int)) : Calls Try.prog 5 #[.agg #[.int .i64 T.am, .int .i64 T.re, .int .i64 T.en, .int .i64 T.tr, .int .i64 T.pr, .int .i64 T.op, .int .i64 T.ov, .int .i64 T.fr, .int .i64 T.ap, .int .i64 T.wa], .slice a0 K c0] w fun e w' => e = .returned (.bool true) ∧ Below w.heap.size w w' := by
  have HF := Lib.hid (phfew_some hf)
  have HS := Lib.hid (few_to T true hf)
  have HB0 := Lib.hid (below_alloc (Below.refl _ w) (.cells #[.int .i64 T.am, .int .i64 T.re, .int .i64 T.en, .int .i64 T.tr, .int .i64 T.pr, .int .i64 T.op, .int .i64 T.ov, .int .i64 T.fr, .int .i64 T.ap, .int .i64 T.wa] 23))
  have HT0 := Lib.hid (blk_new w #[.int .i64 T.am, .int .i64 T.re, .int .i64 T.en, .int .i64 T.tr, .int .i64 T.pr, .int .i64 T.op, .int .i64 T.ov, .int .i64 T.fr, .int .i64 T.ap, .int .i64 T.wa] 23)
  have HV := Lib.hid hv
  have HN := Lib.hid hK
  have HK := Lib.hid (show K ≤ 400 by omega)
  clear hv hK hf
  go_enter Try.func5, Try.ntmps5
  go_wp2_with fail
  (with_reducible refine (small_true _).mono ?_)
  rintro e w1 ⟨rfl, hb⟩
  have HB1 := Lib.hid (below_call HB0.out hb)
  have HT1 := Lib.hid (HT0.out.below hb)
  clear hb HB0 HT0
  obtain ⟨t0, t1, t2, t3, t4, t5, t6, t7, t8, t9⟩ := box10 HT1.out
  go_wp2_with fail
  (with_reducible refine (HS.out _).mono ?_)
  rintro e w2 ⟨rfl, hb⟩
  have HB2 := Lib.hid (below_call HB1.out hb)
  have HT2 := Lib.hid (HT1.out.below hb)
  clear hb HB1 HT1 HS t0 t1 t2 t3 t4 t5 t6 t7 t8 t9
  go_wp2_with fail
  (with_reducible refine (enter_to 0 0 (by decide) _).mono ?_)
  rintro e w3 ⟨rfl, hb⟩
  have HB3 := Lib.hid (below_alloc (below_call HB2.out hb) (.cells #[.int .i64 0, .int .i64 1] 28))
  have hA := below_alloc (Below.refl _ w3) (.cells #[.int .i64 0, .int .i64 1] 28)
  have HT3 := Lib.hid ((HT2.out.below hb).below hA)
  have HR3 := Lib.hid (blk_new w3 #[.int .i64 0, .int .i64 1] 28)
  have HG := Lib.hid (show w.heap.size < w3.heap.size from (HT2.out.below hb).lt)
  clear hb hA HB2 HT2
  go_wp2_with fail
  generalize w3.alloc (.cells #[.int .i64 0, .int .i64 1] 28) = V at *
  generalize w3.heap.size = g at *
  go_loopw [8, 9] (fun x1 z wr => ∃ (k : Nat) (p s m : Int), k ≤ K ∧ x1 = .int .i64 m ∧ z = .int .i64 (k : Int) ∧ Hid (OInv p s m k) ∧ Hid (Below w.heap.size w wr) ∧ Hid (Blk wr w.heap.size #[.int .i64 T.am, .int .i64 T.re, .int .i64 T.en, .int .i64 T.tr, .int .i64 T.pr, .int .i64 T.op, .int .i64 T.ov, .int .i64 T.fr, .int .i64 T.ap, .int .i64 T.wa] 23) ∧ Hid (Blk wr g #[.int .i64 p, .int .i64 s] 28)) (fun _ z _ => K - (intOf z).toNat)
  case atStart => exact ⟨0, 0, 1, 1, by omega, rfl, rfl, Lib.hid oinv_zero, HB3, HT3, HR3⟩
  case round =>
    obtain ⟨k, p, s, m, hk, rfl, rfl, HI, HB, HT, HR⟩ := hrel
    clear HB3 HT3 HR3
    by_cases hlt : k < K
    · have hltI : (k : Int) < (K : Int) := by omega
      obtain ⟨y, hy⟩ : ∃ y, ls[k]? = some y := ⟨_, List.getElem?_eq_getElem (by rw [← HN.out]; exact hlt)⟩
      obtain ⟨g2, o2, ea, hr⟩ := HV.out.at_ hy
      subst ea
      obtain ⟨cl, ur, ya, yb, yc, yd, ob⟩ := y
      obtain ⟨p', s', hs⟩ : ∃ p' s', phs T p s ⟨cl, ur, ya, yb, yc, yd, ob⟩ = (p', s') := ⟨_, _, rfl⟩
      have HP := Lib.hid (phstep_to T p s cl ur ya yb yc yd ob HF.out.ok p' s' hs)
      have HW := Lib.hid (oinv_step HF.out.ok (by have := HK.out; omega) HI.out hs)
      have HM := Lib.hid (show 0 ≤ m ∧ m ≤ 1000 by have := HK.out; obtain ⟨h0, h1, _⟩ := HI.out; omega)
      clear HI
      have HY := Lib.hid hr
      obtain ⟨e0, e1, e2, e3, e4, e5, e6⟩ := hr.below HB.out
      clear hy hr hs
      dsimp only at e0 e1 e2 e3 e4 e5 e6
      obtain ⟨t0, t1, t2, t3, t4, t5, t6, t7, t8, t9⟩ := box10 HT.out
      obtain ⟨r0, r1⟩ := box2 HR.out
      have HBd := Lib.hid (below_call HB.out (bel_drew wr))
      have HTd := Lib.hid (HT.out.below (bel_drew wr))
      have HRd := Lib.hid (HR.out.below (bel_drew wr))
      go_wp2_with fail
      go_still_tail 17, (by kernel_rfl)
      change wpList _ _ _ _ _ (wr).drew
      generalize (wr).drew = w4 at *
      clear e0 e1 e2 e3 e4 e5 e6 t0 t1 t2 t3 t4 t5 t6 t7 t8 t9 r0 r1 HB HT HR
      go_wp2_with fail
      (with_reducible refine (HP.out _).mono ?_)
      rintro e w5 ⟨rfl, hb⟩
      have HB5 := Lib.hid (below_call HBd.out hb)
      have HT5 := Lib.hid (HTd.out.below hb)
      have HR5 := Lib.hid (HRd.out.below hb)
      clear hb HBd HTd HRd HP
      obtain ⟨r0, r1⟩ := box2 HR5.out
      have f0 := HR5.out.frz 0
      have f1 := HR5.out.frz 1
      rcases HW.out with ⟨rfl, rfl, HI⟩ | ⟨rfl, rfl, rfl, HI⟩ | ⟨rfl, rfl, rfl, rfl, h2, HI⟩ | ⟨h2, rfl, HI⟩ | ⟨h2, h3, HI⟩
      · replace HI := Lib.hid HI
        clear HW
        have HB6 := Lib.hid (bel_set2 HB5.out (Nat.le_of_lt HG.out) (.int .i64 0) (.int .i64 s'))
        have HT6 := Lib.hid ((HT5.out.far g 0 (.int .i64 0) (Nat.ne_of_lt HG.out)).far g 1 (.int .i64 s') (Nat.ne_of_lt HG.out))
        have HR6 := Lib.hid ((HR5.out.set_ 0 (.int .i64 0)).set_ 1 (.int .i64 s'))
        clear HB5 HT5 HR5
        have hv : wrap64 (m + 1) = m + 1 := IntWalk.wrap64_in _ (by have := HM.out; omega)
        clear HM
        obtain ⟨t0, t1, t2, t3, t4, t5, t6, t7, t8, t9⟩ := box10 HT6.out
        obtain ⟨q0, q1⟩ := box2 HR6.out
        obtain ⟨e0, e1, e2, e3, e4, e5, e6⟩ := HY.out.below HB6.out
        dsimp only at e0 e1 e2 e3 e4 e5 e6
        go_wp2_with fail
        go_roundw
        case rel => exact ⟨k + 1, 0, s', _, by omega, by rw [hv], by go_num, HI, HB6, HT6, HR6⟩
        case measure => clear hv; simp [intOf]; omega
      · replace HI := Lib.hid HI
        clear HW
        have HB6 := Lib.hid (bel_set2 HB5.out (Nat.le_of_lt HG.out) (.int .i64 1) (.int .i64 s'))
        have HT6 := Lib.hid ((HT5.out.far g 0 (.int .i64 1) (Nat.ne_of_lt HG.out)).far g 1 (.int .i64 s') (Nat.ne_of_lt HG.out))
        have HR6 := Lib.hid ((HR5.out.set_ 0 (.int .i64 1)).set_ 1 (.int .i64 s'))
        clear HB5 HT5 HR5
        clear HM
        obtain ⟨t0, t1, t2, t3, t4, t5, t6, t7, t8, t9⟩ := box10 HT6.out
        obtain ⟨q0, q1⟩ := box2 HR6.out
        obtain ⟨e0, e1, e2, e3, e4, e5, e6⟩ := HY.out.below HB6.out
        dsimp only at e0 e1 e2 e3 e4 e5 e6
        go_wp2_with fail
        go_roundw
        case rel => exact ⟨k + 1, 1, s', _, by omega, rfl, by go_num, HI, HB6, HT6, HR6⟩
        case measure => simp [intOf]; omega
      · replace HI := Lib.hid HI
        clear HW
        have HB6 := Lib.hid (bel_set2 HB5.out (Nat.le_of_lt HG.out) (.int .i64 1) (.int .i64 s'))
        have HT6 := Lib.hid ((HT5.out.far g 0 (.int .i64 1) (Nat.ne_of_lt HG.out)).far g 1 (.int .i64 s') (Nat.ne_of_lt HG.out))
        have HR6 := Lib.hid ((HR5.out.set_ 0 (.int .i64 1)).set_ 1 (.int .i64 s'))
        clear HB5 HT5 HR5
        have h4 : ¬ m < T.op := by omega
        clear HM
        obtain ⟨t0, t1, t2, t3, t4, t5, t6, t7, t8, t9⟩ := box10 HT6.out
        obtain ⟨q0, q1⟩ := box2 HR6.out
        obtain ⟨e0, e1, e2, e3, e4, e5, e6⟩ := HY.out.below HB6.out
        dsimp only at e0 e1 e2 e3 e4 e5 e6
        go_wp2_with fail
        go_roundw
        case rel => exact ⟨k + 1, 1, s', _, by omega, rfl, by go_num, HI, HB6, HT6, HR6⟩
        case measure => simp [intOf]; omega
      · replace HI := Lib.hid HI
        clear HW
        have HB6 := Lib.hid (bel_set2 HB5.out (Nat.le_of_lt HG.out) (.int .i64 0) (.int .i64 s'))
        have HT6 := Lib.hid ((HT5.out.far g 0 (.int .i64 0) (Nat.ne_of_lt HG.out)).far g 1 (.int .i64 s') (Nat.ne_of_lt HG.out))
        have HR6 := Lib.hid ((HR5.out.set_ 0 (.int .i64 0)).set_ 1 (.int .i64 s'))
        clear HB5 HT5 HR5
        have h4 : (p == 0) = false := by simpa using h2
        have hv : wrap64 (m + 1) = m + 1 := IntWalk.wrap64_in _ (by have := HM.out; omega)
        clear HM
        obtain ⟨t0, t1, t2, t3, t4, t5, t6, t7, t8, t9⟩ := box10 HT6.out
        obtain ⟨q0, q1⟩ := box2 HR6.out
        obtain ⟨e0, e1, e2, e3, e4, e5, e6⟩ := HY.out.below HB6.out
        dsimp only at e0 e1 e2 e3 e4 e5 e6
        go_wp2_with fail
        go_roundw
        case rel => exact ⟨k + 1, 0, s', _, by omega, by rw [hv], by go_num, HI, HB6, HT6, HR6⟩
        case measure => clear hv; simp [intOf]; omega
      · replace HI := Lib.hid HI
        clear HW
        have HB6 := Lib.hid (bel_set2 HB5.out (Nat.le_of_lt HG.out) (.int .i64 p') (.int .i64 s'))
        have HT6 := Lib.hid ((HT5.out.far g 0 (.int .i64 p') (Nat.ne_of_lt HG.out)).far g 1 (.int .i64 s') (Nat.ne_of_lt HG.out))
        have HR6 := Lib.hid ((HR5.out.set_ 0 (.int .i64 p')).set_ 1 (.int .i64 s'))
        clear HB5 HT5 HR5
        have h4 : (p == 0) = false := by simpa using h2
        have h5 : (p' == 0) = false := by simpa using h3
        clear HM
        obtain ⟨t0, t1, t2, t3, t4, t5, t6, t7, t8, t9⟩ := box10 HT6.out
        obtain ⟨q0, q1⟩ := box2 HR6.out
        obtain ⟨e0, e1, e2, e3, e4, e5, e6⟩ := HY.out.below HB6.out
        dsimp only at e0 e1 e2 e3 e4 e5 e6
        go_wp2_with fail
        go_roundw
        case rel => exact ⟨k + 1, p', s', _, by omega, rfl, by go_num, HI, HB6, HT6, HR6⟩
        case measure => simp [intOf]; omega
    · have hltI : ¬ (k : Int) < (K : Int) := by omega
      go_wp2_with fail
      go_ret
      exact ⟨rfl, HB.out⟩
theorem opens_any (T : PhT) (v : Value) (ls : List PhW) (w : World) (hv : Els RPh 7 w v ls) : Calls Try.prog 5 #[.agg #[.int .i64 T.am, .int .i64 T.re, .int .i64 T.en, .int .i64 T.tr, .int .i64 T.pr, .int .i64 T.op, .int .i64 T.ov, .int .i64 T.fr, .int .i64 T.ap, .int .i64 T.wa], v] w fun e w' => e = .returned (.bool true) ∧ Below w.heap.size w w' := by
  obtain ⟨a0, c0, rfl⟩ := hv.len
  obtain ⟨K, hK⟩ : ∃ n, n = ls.length := ⟨_, rfl⟩
  rw [← hK] at hv ⊢
  cases hf : phfew T
  · exact opens_out T a0 K c0 w (Or.inl hf)
  · by_cases h : 400 < (K : Int)
    · exact opens_out T a0 K c0 w (Or.inr ⟨hf, h⟩)
    · exact opens_main T a0 K c0 ls w hv hK hf h
end Go.Proofs.Ytbaljmflmkpmjaa

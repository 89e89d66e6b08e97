/-
  The walk of crossbucklaw20.PhaseExits: true, whatever it is given.
-/
import Derived.Test.YtbaljmflmkpmjaaSmall
import Derived.Test.YtbaljmflmkpmjaaFew
import Derived.Test.YtbaljmflmkpmjaaPhFacts
import Derived.Test.YtbaljmflmkpmjaaPhOpen
import Derived.StillTailTactics
namespace Go.Proofs.Ytbaljmflmkpmjaa
open Go.RowKit

set_option maxHeartbeats 1000000 in
theorem exits_out (T : PhT) (a0 : Option Addr) (K c0 : Nat) (w : World) (h : phfew T = false ∨ (phfew T = true ∧ 400 < (K : Int))) : Calls Try.prog 4 #[.agg #[.int .i64 T.am, .int .i64 T.re, .int .i64 T.en, .int .i64 T.tr, .int .i64 T.pr, .int .i64 T.op, .int .i64 T.ov, .int .i64 T.fr, .int .i64 T.ap, .int .i64 T.wa], .slice a0 K c0] w fun e w' => e = .returned (.bool true) ∧ Below w.heap.size w w' := by
  have HB0 := Lib.hid (below_alloc (Below.refl _ w) (.cells #[.int .i64 T.am, .int .i64 T.re, .int .i64 T.en, .int .i64 T.tr, .int .i64 T.pr, .int .i64 T.op, .int .i64 T.ov, .int .i64 T.fr, .int .i64 T.ap, .int .i64 T.wa] 23))
  have HT0 := Lib.hid (blk_new w #[.int .i64 T.am, .int .i64 T.re, .int .i64 T.en, .int .i64 T.tr, .int .i64 T.pr, .int .i64 T.op, .int .i64 T.ov, .int .i64 T.fr, .int .i64 T.ap, .int .i64 T.wa] 23)
  rcases h with hf | ⟨hf, h1⟩
  all_goals
    have HS := Lib.hid (few_to T _ hf)
    clear hf
    go_enter Try.func4, Try.ntmps4
    go_wp2_with fail
    (with_reducible refine (small_true _).mono ?_)
    rintro e w1 ⟨rfl, hb⟩
    have HB1 := Lib.hid (below_call HB0.out hb)
    obtain ⟨t0, t1, t2, t3, t4, t5, t6, t7, t8, t9⟩ := box10 (HT0.out.below hb)
    clear hb
    go_wp2_with fail
    (with_reducible refine (HS.out _).mono ?_)
    rintro e w2 ⟨rfl, hb⟩
    have HB2 := Lib.hid (below_call HB1.out hb)
    clear hb t0 t1 t2 t3 t4 t5 t6 t7 t8 t9
    go_wp2_with fail
    go_ret
    exact ⟨rfl, HB2.out⟩
set_option maxHeartbeats 8000000 in
set_option maxRecDepth 10000 in
theorem exits_main (T : PhT) (a0 : Option Addr) (K c0 : Nat) (ls : List PhW) (w : World) (hv : Els RPh 7 w (.slice a0 K c0) ls) (hK : K = ls.length) (hf : phfew T = true) (h : ¬ 400 < (K : Int)) : Calls Try.prog 4 #[.agg #[.int .i64 T.am, .int .i64 T.re, .int .i64 T.en, .int .i64 T.tr, .int .i64 T.pr, .int .i64 T.op, .int .i64 T.ov, .int .i64 T.fr, .int .i64 T.ap, .int .i64 T.wa], .slice a0 K c0] w fun e w' => e = .returned (.bool true) ∧ Below w.heap.size w w' := by
  have HF := Lib.hid (phfew_some hf)
  have HS := Lib.hid (few_to T true hf)
  have HB0 := Lib.hid (below_alloc (Below.refl _ w) (.cells #[.int .i64 T.am, .int .i64 T.re, .int .i64 T.en, .int .i64 T.tr, .int .i64 T.pr, .int .i64 T.op, .int .i64 T.ov, .int .i64 T.fr, .int .i64 T.ap, .int .i64 T.wa] 23))
  have HT0 := Lib.hid (blk_new w #[.int .i64 T.am, .int .i64 T.re, .int .i64 T.en, .int .i64 T.tr, .int .i64 T.pr, .int .i64 T.op, .int .i64 T.ov, .int .i64 T.fr, .int .i64 T.ap, .int .i64 T.wa] 23)
  have HV := Lib.hid hv
  have HN := Lib.hid hK
  have HK := Lib.hid (show K ≤ 400 by omega)
  clear hv hK hf
  go_enter Try.func4, Try.ntmps4
  go_wp2_with fail
  (with_reducible refine (small_true _).mono ?_)
  rintro e w1 ⟨rfl, hb⟩
  have HB1 := Lib.hid (below_call HB0.out hb)
  have HT1 := Lib.hid (HT0.out.below hb)
  clear hb HB0 HT0
  obtain ⟨t0, t1, t2, t3, t4, t5, t6, t7, t8, t9⟩ := box10 HT1.out
  go_wp2_with fail
  (with_reducible refine (HS.out _).mono ?_)
  rintro e w2 ⟨rfl, hb⟩
  have HB2 := Lib.hid (below_call HB1.out hb)
  have HT2 := Lib.hid (HT1.out.below hb)
  clear hb HB1 HT1 HS t0 t1 t2 t3 t4 t5 t6 t7 t8 t9
  go_wp2_with fail
  (with_reducible refine (enter_to 0 0 (by decide) _).mono ?_)
  rintro e w3 ⟨rfl, hb⟩
  have HB3 := Lib.hid (below_alloc (below_call HB2.out hb) (.cells #[.int .i64 0, .int .i64 1] 28))
  have hA := below_alloc (Below.refl _ w3) (.cells #[.int .i64 0, .int .i64 1] 28)
  have HT3 := Lib.hid ((HT2.out.below hb).below hA)
  have HR3 := Lib.hid (blk_new w3 #[.int .i64 0, .int .i64 1] 28)
  have HG := Lib.hid (show w.heap.size < w3.heap.size from (HT2.out.below hb).lt)
  clear hb hA HB2 HT2
  go_wp2_with fail
  generalize w3.alloc (.cells #[.int .i64 0, .int .i64 1] 28) = V at *
  generalize w3.heap.size = g at *
  go_loopw [8, 9] (fun x1 z wr => ∃ (k : Nat) (p s m : Int), k ≤ K ∧ x1 = .int .i64 m ∧ z = .int .i64 (k : Int) ∧ Hid (XInv p s m k) ∧ Hid (Below w.heap.size w wr) ∧ Hid (Blk wr w.heap.size #[.int .i64 T.am, .int .i64 T.re, .int .i64 T.en, .int .i64 T.tr, .int .i64 T.pr, .int .i64 T.op, .int .i64 T.ov, .int .i64 T.fr, .int .i64 T.ap, .int .i64 T.wa] 23) ∧ Hid (Blk wr g #[.int .i64 p, .int .i64 s] 28)) (fun _ z _ => K - (intOf z).toNat)
  case atStart => exact ⟨0, 0, 1, 0, by omega, rfl, rfl, Lib.hid xinv_zero, HB3, HT3, HR3⟩
  case round =>
    obtain ⟨k, p, s, m, hk, rfl, rfl, HI, HB, HT, HR⟩ := hrel
    clear HB3 HT3 HR3
    by_cases hlt : k < K
    · have hltI : (k : Int) < (K : Int) := by omega
      obtain ⟨u0, hu0⟩ : ∃ u, phAm p = u := ⟨_, rfl⟩
      obtain ⟨u1, hu1⟩ : ∃ u, phRed p = u := ⟨_, rfl⟩
      obtain ⟨u2, hu2⟩ : ∃ u, phBell p = u := ⟨_, rfl⟩
      obtain ⟨u3, hu3⟩ : ∃ u, phEn p = u := ⟨_, rfl⟩
      obtain ⟨u4, hu4⟩ : ∃ u, phEx p = u := ⟨_, rfl⟩
      have HU := Lib.hid hu4
      have HW0 := Lib.hid (lights_to p s u0 u1 u2 u3 u4 hu0 hu1 hu2 hu3 hu4)
      clear hu0 hu1 hu2 hu3 hu4
      obtain ⟨r0, r1⟩ := box2 HR.out
      go_wp2_with fail
      (with_reducible refine (HW0.out _).mono ?_)
      rintro e wa ⟨rfl, hb⟩
      have hA := below_alloc (Below.refl _ wa) (.cells #[.bool u0, .bool u1, .bool u2, .bool u3, .bool u4] 38)
      have HGL := Lib.hid (Nat.ne_of_gt (show g < wa.heap.size from (HR.out.below hb).lt))
      replace HB := Lib.hid (below_alloc (below_call HB.out hb) (.cells #[.bool u0, .bool u1, .bool u2, .bool u3, .bool u4] 38))
      replace HT := Lib.hid ((HT.out.below hb).below hA)
      replace HR := Lib.hid ((HR.out.below hb).below hA)
      have HL := Lib.hid (blk_new wa #[.bool u0, .bool u1, .bool u2, .bool u3, .bool u4] 38)
      clear hb hA r0 r1 HW0
      go_wp2_with fail
      generalize wa.alloc (.cells #[.bool u0, .bool u1, .bool u2, .bool u3, .bool u4] 38) = V1 at *
      generalize wa.heap.size = ga at *
      obtain ⟨y, hy⟩ : ∃ y, ls[k]? = some y := ⟨_, List.getElem?_eq_getElem (by rw [← HN.out]; exact hlt)⟩
      obtain ⟨g2, o2, ea, hr⟩ := HV.out.at_ hy
      subst ea
      obtain ⟨cl, ur, ya, yb, yc, yd, ob⟩ := y
      obtain ⟨p', s', hs⟩ : ∃ p' s', phs T p s ⟨cl, ur, ya, yb, yc, yd, ob⟩ = (p', s') := ⟨_, _, rfl⟩
      have HP := Lib.hid (phstep_to T p s cl ur ya yb yc yd ob HF.out.ok p' s' hs)
      have HW := Lib.hid (xinv_step HF.out.ok (by have := HK.out; omega) HI.out hs)
      have HM := Lib.hid (show 0 ≤ m ∧ m ≤ 1000 by have := HK.out; obtain ⟨h0, h1, _⟩ := HI.out; omega)
      have HTB := Lib.hid (And.intro HF.out.en HF.out.ov)
      clear HI
      have HY := Lib.hid hr
      obtain ⟨e0, e1, e2, e3, e4, e5, e6⟩ := hr.below HB.out
      clear hy hr hs
      dsimp only at e0 e1 e2 e3 e4 e5 e6
      obtain ⟨t0, t1, t2, t3, t4, t5, t6, t7, t8, t9⟩ := box10 HT.out
      obtain ⟨r0, r1⟩ := box2 HR.out
      have HBd := Lib.hid (below_call HB.out (bel_drew V1))
      have HTd := Lib.hid (HT.out.below (bel_drew V1))
      have HRd := Lib.hid (HR.out.below (bel_drew V1))
      have HLd := Lib.hid (HL.out.below (bel_drew V1))
      go_still_tail 17, (by kernel_rfl)
      change wpList _ _ _ _ _ (V1).drew
      generalize (V1).drew = w4 at *
      clear e0 e1 e2 e3 e4 e5 e6 t0 t1 t2 t3 t4 t5 t6 t7 t8 t9 r0 r1 HB HT HR
      go_wp2_with fail
      (with_reducible refine (HP.out _).mono ?_)
      rintro e w5 ⟨rfl, hb⟩
      have HB5 := Lib.hid (below_call HBd.out hb)
      have HT5 := Lib.hid (HTd.out.below hb)
      have HR5 := Lib.hid (HRd.out.below hb)
      have HL5 := Lib.hid (HLd.out.below hb)
      clear HL HLd
      clear hb HBd HTd HRd HP
      obtain ⟨r0, r1⟩ := box2 HR5.out
      have f0 := HR5.out.frz 0
      have f1 := HR5.out.frz 1
      rcases HW.out with ⟨rfl, HI⟩ | ⟨rfl, HI⟩ | ⟨rfl, HI⟩ | ⟨rfl, HI⟩ | ⟨rfl, HI⟩ | ⟨rfl, rfl, h2, rfl, HI⟩ | ⟨rfl, rfl, h2, rfl, h3, HI⟩ | ⟨rfl, rfl, HI⟩ | ⟨rfl, rfl, HI⟩ | ⟨rfl, rfl, HI⟩
      · replace HI := Lib.hid HI
        clear HW
        have HB6 := Lib.hid (bel_set2 HB5.out (Nat.le_of_lt HG.out) (.int .i64 0) (.int .i64 s'))
        have HT6 := Lib.hid ((HT5.out.far g 0 (.int .i64 0) (Nat.ne_of_lt HG.out)).far g 1 (.int .i64 s') (Nat.ne_of_lt HG.out))
        have HR6 := Lib.hid ((HR5.out.set_ 0 (.int .i64 0)).set_ 1 (.int .i64 s'))
        have HL6 := Lib.hid ((HL5.out.far g 0 (.int .i64 0) HGL.out).far g 1 (.int .i64 s') HGL.out)
        clear HB5 HT5 HR5 HL5
        go_wp2_with fail
        clear r0 r1 f0 f1
        (with_reducible refine (lights_to 0 s' false false false false false (by decide) (by decide) (by decide) (by decide) (by decide) _).mono ?_)
        rintro e w7 ⟨rfl, hb⟩
        have hA := below_alloc (Below.refl _ w7) (.cells #[.bool false, .bool false, .bool false, .bool false, .bool false] 38)
        have HB8 := Lib.hid (below_alloc (below_call HB6.out hb) (.cells #[.bool false, .bool false, .bool false, .bool false, .bool false] 38))
        have HT8 := Lib.hid ((HT6.out.below hb).below hA)
        have HR8 := Lib.hid ((HR6.out.below hb).below hA)
        have HL8 := Lib.hid ((HL6.out.below hb).below hA)
        clear HL6
        obtain ⟨l0, l1, l2, l3, l4⟩ := box5 (blk_new w7 #[.bool false, .bool false, .bool false, .bool false, .bool false] 38)
        clear hb hA HB6 HT6 HR6
        obtain ⟨t0, t1, t2, t3, t4, t5, t6, t7, t8, t9⟩ := box10 HT8.out
        obtain ⟨q0, q1⟩ := box2 HR8.out
        obtain ⟨v0, v1, v2, v3, v4⟩ := box5 HL8.out
        obtain ⟨e0, e1, e2, e3, e4, e5, e6⟩ := HY.out.below HB8.out
        dsimp only at e0 e1 e2 e3 e4 e5 e6
        clear HM HL8 HTB
        go_wp2_with fail
        go_roundw
        case rel => exact ⟨k + 1, 0, s', _, by omega, rfl, by go_num, HI, HB8, HT8, HR8⟩
        case measure => simp [intOf]; omega
      · replace HI := Lib.hid HI
        clear HW
        have HB6 := Lib.hid (bel_set2 HB5.out (Nat.le_of_lt HG.out) (.int .i64 1) (.int .i64 s'))
        have HT6 := Lib.hid ((HT5.out.far g 0 (.int .i64 1) (Nat.ne_of_lt HG.out)).far g 1 (.int .i64 s') (Nat.ne_of_lt HG.out))
        have HR6 := Lib.hid ((HR5.out.set_ 0 (.int .i64 1)).set_ 1 (.int .i64 s'))
        have HL6 := Lib.hid ((HL5.out.far g 0 (.int .i64 1) HGL.out).far g 1 (.int .i64 s') HGL.out)
        clear HB5 HT5 HR5 HL5
        go_wp2_with fail
        clear r0 r1 f0 f1
        (with_reducible refine (lights_to 1 s' true false true false false (by decide) (by decide) (by decide) (by decide) (by decide) _).mono ?_)
        rintro e w7 ⟨rfl, hb⟩
        have hA := below_alloc (Below.refl _ w7) (.cells #[.bool true, .bool false, .bool true, .bool false, .bool false] 38)
        have HB8 := Lib.hid (below_alloc (below_call HB6.out hb) (.cells #[.bool true, .bool false, .bool true, .bool false, .bool false] 38))
        have HT8 := Lib.hid ((HT6.out.below hb).below hA)
        have HR8 := Lib.hid ((HR6.out.below hb).below hA)
        have HL8 := Lib.hid ((HL6.out.below hb).below hA)
        clear HL6
        obtain ⟨l0, l1, l2, l3, l4⟩ := box5 (blk_new w7 #[.bool true, .bool false, .bool true, .bool false, .bool false] 38)
        clear hb hA HB6 HT6 HR6
        obtain ⟨t0, t1, t2, t3, t4, t5, t6, t7, t8, t9⟩ := box10 HT8.out
        obtain ⟨q0, q1⟩ := box2 HR8.out
        obtain ⟨v0, v1, v2, v3, v4⟩ := box5 HL8.out
        obtain ⟨e0, e1, e2, e3, e4, e5, e6⟩ := HY.out.below HB8.out
        dsimp only at e0 e1 e2 e3 e4 e5 e6
        clear HM HL8 HTB
        go_wp2_with fail
        go_roundw
        case rel => exact ⟨k + 1, 1, s', _, by omega, rfl, by go_num, HI, HB8, HT8, HR8⟩
        case measure => simp [intOf]; omega
      · replace HI := Lib.hid HI
        clear HW
        have HB6 := Lib.hid (bel_set2 HB5.out (Nat.le_of_lt HG.out) (.int .i64 2) (.int .i64 s'))
        have HT6 := Lib.hid ((HT5.out.far g 0 (.int .i64 2) (Nat.ne_of_lt HG.out)).far g 1 (.int .i64 s') (Nat.ne_of_lt HG.out))
        have HR6 := Lib.hid ((HR5.out.set_ 0 (.int .i64 2)).set_ 1 (.int .i64 s'))
        have HL6 := Lib.hid ((HL5.out.far g 0 (.int .i64 2) HGL.out).far g 1 (.int .i64 s') HGL.out)
        clear HB5 HT5 HR5 HL5
        go_wp2_with fail
        clear r0 r1 f0 f1
        (with_reducible refine (lights_to 2 s' false true true false false (by decide) (by decide) (by decide) (by decide) (by decide) _).mono ?_)
        rintro e w7 ⟨rfl, hb⟩
        have hA := below_alloc (Below.refl _ w7) (.cells #[.bool false, .bool true, .bool true, .bool false, .bool false] 38)
        have HB8 := Lib.hid (below_alloc (below_call HB6.out hb) (.cells #[.bool false, .bool true, .bool true, .bool false, .bool false] 38))
        have HT8 := Lib.hid ((HT6.out.below hb).below hA)
        have HR8 := Lib.hid ((HR6.out.below hb).below hA)
        have HL8 := Lib.hid ((HL6.out.below hb).below hA)
        clear HL6
        obtain ⟨l0, l1, l2, l3, l4⟩ := box5 (blk_new w7 #[.bool false, .bool true, .bool true, .bool false, .bool false] 38)
        clear hb hA HB6 HT6 HR6
        obtain ⟨t0, t1, t2, t3, t4, t5, t6, t7, t8, t9⟩ := box10 HT8.out
        obtain ⟨q0, q1⟩ := box2 HR8.out
        obtain ⟨v0, v1, v2, v3, v4⟩ := box5 HL8.out
        obtain ⟨e0, e1, e2, e3, e4, e5, e6⟩ := HY.out.below HB8.out
        dsimp only at e0 e1 e2 e3 e4 e5 e6
        clear HM HL8 HTB
        go_wp2_with fail
        go_roundw
        case rel => exact ⟨k + 1, 2, s', _, by omega, rfl, by go_num, HI, HB8, HT8, HR8⟩
        case measure => simp [intOf]; omega
      · replace HI := Lib.hid HI
        clear HW
        have HB6 := Lib.hid (bel_set2 HB5.out (Nat.le_of_lt HG.out) (.int .i64 6) (.int .i64 s'))
        have HT6 := Lib.hid ((HT5.out.far g 0 (.int .i64 6) (Nat.ne_of_lt HG.out)).far g 1 (.int .i64 s') (Nat.ne_of_lt HG.out))
        have HR6 := Lib.hid ((HR5.out.set_ 0 (.int .i64 6)).set_ 1 (.int .i64 s'))
        have HL6 := Lib.hid ((HL5.out.far g 0 (.int .i64 6) HGL.out).far g 1 (.int .i64 s') HGL.out)
        clear HB5 HT5 HR5 HL5
        go_wp2_with fail
        clear r0 r1 f0 f1
        (with_reducible refine (lights_to 6 s' false true false false false (by decide) (by decide) (by decide) (by decide) (by decide) _).mono ?_)
        rintro e w7 ⟨rfl, hb⟩
        have hA := below_alloc (Below.refl _ w7) (.cells #[.bool false, .bool true, .bool false, .bool false, .bool false] 38)
        have HB8 := Lib.hid (below_alloc (below_call HB6.out hb) (.cells #[.bool false, .bool true, .bool false, .bool false, .bool false] 38))
        have HT8 := Lib.hid ((HT6.out.below hb).below hA)
        have HR8 := Lib.hid ((HR6.out.below hb).below hA)
        have HL8 := Lib.hid ((HL6.out.below hb).below hA)
        clear HL6
        obtain ⟨l0, l1, l2, l3, l4⟩ := box5 (blk_new w7 #[.bool false, .bool true, .bool false, .bool false, .bool false] 38)
        clear hb hA HB6 HT6 HR6
        obtain ⟨t0, t1, t2, t3, t4, t5, t6, t7, t8, t9⟩ := box10 HT8.out
        obtain ⟨q0, q1⟩ := box2 HR8.out
        obtain ⟨v0, v1, v2, v3, v4⟩ := box5 HL8.out
        obtain ⟨e0, e1, e2, e3, e4, e5, e6⟩ := HY.out.below HB8.out
        dsimp only at e0 e1 e2 e3 e4 e5 e6
        clear HM HL8 HTB
        go_wp2_with fail
        go_roundw
        case rel => exact ⟨k + 1, 6, s', _, by omega, rfl, by go_num, HI, HB8, HT8, HR8⟩
        case measure => simp [intOf]; omega
      · replace HI := Lib.hid HI
        clear HW
        have HB6 := Lib.hid (bel_set2 HB5.out (Nat.le_of_lt HG.out) (.int .i64 3) (.int .i64 s'))
        have HT6 := Lib.hid ((HT5.out.far g 0 (.int .i64 3) (Nat.ne_of_lt HG.out)).far g 1 (.int .i64 s') (Nat.ne_of_lt HG.out))
        have HR6 := Lib.hid ((HR5.out.set_ 0 (.int .i64 3)).set_ 1 (.int .i64 s'))
        have HL6 := Lib.hid ((HL5.out.far g 0 (.int .i64 3) HGL.out).far g 1 (.int .i64 s') HGL.out)
        clear HB5 HT5 HR5 HL5
        go_wp2_with fail
        clear r0 r1 f0 f1
        (with_reducible refine (lights_to 3 s' false true true true false (by decide) (by decide) (by decide) (by decide) (by decide) _).mono ?_)
        rintro e w7 ⟨rfl, hb⟩
        have hA := below_alloc (Below.refl _ w7) (.cells #[.bool false, .bool true, .bool true, .bool true, .bool false] 38)
        have HB8 := Lib.hid (below_alloc (below_call HB6.out hb) (.cells #[.bool false, .bool true, .bool true, .bool true, .bool false] 38))
        have HT8 := Lib.hid ((HT6.out.below hb).below hA)
        have HR8 := Lib.hid ((HR6.out.below hb).below hA)
        have HL8 := Lib.hid ((HL6.out.below hb).below hA)
        clear HL6
        obtain ⟨l0, l1, l2, l3, l4⟩ := box5 (blk_new w7 #[.bool false, .bool true, .bool true, .bool true, .bool false] 38)
        clear hb hA HB6 HT6 HR6
        obtain ⟨t0, t1, t2, t3, t4, t5, t6, t7, t8, t9⟩ := box10 HT8.out
        obtain ⟨q0, q1⟩ := box2 HR8.out
        obtain ⟨v0, v1, v2, v3, v4⟩ := box5 HL8.out
        obtain ⟨e0, e1, e2, e3, e4, e5, e6⟩ := HY.out.below HB8.out
        dsimp only at e0 e1 e2 e3 e4 e5 e6
        have hv : wrap64 (m + 1) = m + 1 := IntWalk.wrap64_in _ (by have := HM.out; omega)
        clear HM HL8 HTB
        go_wp2_with fail
        go_roundw
        case rel => exact ⟨k + 1, 3, s', _, by omega, by rw [hv], by go_num, HI, HB8, HT8, HR8⟩
        case measure => clear hv; simp [intOf]; omega
      · replace HI := Lib.hid HI
        clear HW
        have HB6 := Lib.hid (bel_set2 HB5.out (Nat.le_of_lt HG.out) (.int .i64 4) (.int .i64 s'))
        have HT6 := Lib.hid ((HT5.out.far g 0 (.int .i64 4) (Nat.ne_of_lt HG.out)).far g 1 (.int .i64 s') (Nat.ne_of_lt HG.out))
        have HR6 := Lib.hid ((HR5.out.set_ 0 (.int .i64 4)).set_ 1 (.int .i64 s'))
        have HL6 := Lib.hid ((HL5.out.far g 0 (.int .i64 4) HGL.out).far g 1 (.int .i64 s') HGL.out)
        clear HB5 HT5 HR5 HL5
        go_wp2_with fail
        clear r0 r1 f0 f1
        (with_reducible refine (lights_to 4 s' false true true true true (by decide) (by decide) (by decide) (by decide) (by decide) _).mono ?_)
        rintro e w7 ⟨rfl, hb⟩
        have hA := below_alloc (Below.refl _ w7) (.cells #[.bool false, .bool true, .bool true, .bool true, .bool true] 38)
        have HB8 := Lib.hid (below_alloc (below_call HB6.out hb) (.cells #[.bool false, .bool true, .bool true, .bool true, .bool true] 38))
        have HT8 := Lib.hid ((HT6.out.below hb).below hA)
        have HR8 := Lib.hid ((HR6.out.below hb).below hA)
        have HL8 := Lib.hid ((HL6.out.below hb).below hA)
        clear HL6
        obtain ⟨l0, l1, l2, l3, l4⟩ := box5 (blk_new w7 #[.bool false, .bool true, .bool true, .bool true, .bool true] 38)
        clear hb hA HB6 HT6 HR6
        obtain ⟨t0, t1, t2, t3, t4, t5, t6, t7, t8, t9⟩ := box10 HT8.out
        obtain ⟨q0, q1⟩ := box2 HR8.out
        obtain ⟨v0, v1, v2, v3, v4⟩ := box5 HL8.out
        obtain ⟨e0, e1, e2, e3, e4, e5, e6⟩ := HY.out.below HB8.out
        dsimp only at e0 e1 e2 e3 e4 e5 e6
        obtain rfl : u4 = false := by rw [← HU.out]; rfl
        have h4 : ¬ m < T.en := by omega
        have hv : wrap64 (m + 1) = m + 1 := IntWalk.wrap64_in _ (by have := HM.out; omega)
        clear HM HL8 HTB
        go_wp2_with fail
        go_roundw
        case rel => exact ⟨k + 1, 4, s', _, by omega, by rw [hv], by go_num, HI, HB8, HT8, HR8⟩
        case measure => clear hv; simp [intOf]; omega
      · replace HI := Lib.hid HI
        clear HW
        have HB6 := Lib.hid (bel_set2 HB5.out (Nat.le_of_lt HG.out) (.int .i64 4) (.int .i64 s'))
        have HT6 := Lib.hid ((HT5.out.far g 0 (.int .i64 4) (Nat.ne_of_lt HG.out)).far g 1 (.int .i64 s') (Nat.ne_of_lt HG.out))
        have HR6 := Lib.hid ((HR5.out.set_ 0 (.int .i64 4)).set_ 1 (.int .i64 s'))
        have HL6 := Lib.hid ((HL5.out.far g 0 (.int .i64 4) HGL.out).far g 1 (.int .i64 s') HGL.out)
        clear HB5 HT5 HR5 HL5
        go_wp2_with fail
        clear r0 r1 f0 f1
        (with_reducible refine (lights_to 4 s' false true true true true (by decide) (by decide) (by decide) (by decide) (by decide) _).mono ?_)
        rintro e w7 ⟨rfl, hb⟩
        have hA := below_alloc (Below.refl _ w7) (.cells #[.bool false, .bool true, .bool true, .bool true, .bool true] 38)
        have HB8 := Lib.hid (below_alloc (below_call HB6.out hb) (.cells #[.bool false, .bool true, .bool true, .bool true, .bool true] 38))
        have HT8 := Lib.hid ((HT6.out.below hb).below hA)
        have HR8 := Lib.hid ((HR6.out.below hb).below hA)
        have HL8 := Lib.hid ((HL6.out.below hb).below hA)
        clear HL6
        obtain ⟨l0, l1, l2, l3, l4⟩ := box5 (blk_new w7 #[.bool false, .bool true, .bool true, .bool true, .bool true] 38)
        clear hb hA HB6 HT6 HR6
        obtain ⟨t0, t1, t2, t3, t4, t5, t6, t7, t8, t9⟩ := box10 HT8.out
        obtain ⟨q0, q1⟩ := box2 HR8.out
        obtain ⟨v0, v1, v2, v3, v4⟩ := box5 HL8.out
        obtain ⟨e0, e1, e2, e3, e4, e5, e6⟩ := HY.out.below HB8.out
        dsimp only at e0 e1 e2 e3 e4 e5 e6
        obtain rfl : u4 = false := by rw [← HU.out]; rfl
        have h4 : ¬ m < T.en := by omega
        have h5 : ¬ m < T.en + T.ov := by omega
        have hz : wrap64 (T.en + T.ov) = T.en + T.ov := IntWalk.wrap64_in _ (by have := HTB.out; omega)
        have hv : wrap64 (m + 1) = m + 1 := IntWalk.wrap64_in _ (by have := HM.out; omega)
        clear HM HL8 HTB
        go_wp2_with fail
        go_roundw
        case rel => exact ⟨k + 1, 4, s', _, by omega, by rw [hv], by go_num, HI, HB8, HT8, HR8⟩
        case measure => clear hv; simp [intOf]; omega
      · replace HI := Lib.hid HI
        clear HW
        have HB6 := Lib.hid (bel_set2 HB5.out (Nat.le_of_lt HG.out) (.int .i64 4) (.int .i64 s'))
        have HT6 := Lib.hid ((HT5.out.far g 0 (.int .i64 4) (Nat.ne_of_lt HG.out)).far g 1 (.int .i64 s') (Nat.ne_of_lt HG.out))
        have HR6 := Lib.hid ((HR5.out.set_ 0 (.int .i64 4)).set_ 1 (.int .i64 s'))
        have HL6 := Lib.hid ((HL5.out.far g 0 (.int .i64 4) HGL.out).far g 1 (.int .i64 s') HGL.out)
        clear HB5 HT5 HR5 HL5
        go_wp2_with fail
        clear r0 r1 f0 f1
        (with_reducible refine (lights_to 4 s' false true true true true (by decide) (by decide) (by decide) (by decide) (by decide) _).mono ?_)
        rintro e w7 ⟨rfl, hb⟩
        have hA := below_alloc (Below.refl _ w7) (.cells #[.bool false, .bool true, .bool true, .bool true, .bool true] 38)
        have HB8 := Lib.hid (below_alloc (below_call HB6.out hb) (.cells #[.bool false, .bool true, .bool true, .bool true, .bool true] 38))
        have HT8 := Lib.hid ((HT6.out.below hb).below hA)
        have HR8 := Lib.hid ((HR6.out.below hb).below hA)
        have HL8 := Lib.hid ((HL6.out.below hb).below hA)
        clear HL6
        obtain ⟨l0, l1, l2, l3, l4⟩ := box5 (blk_new w7 #[.bool false, .bool true, .bool true, .bool true, .bool true] 38)
        clear hb hA HB6 HT6 HR6
        obtain ⟨t0, t1, t2, t3, t4, t5, t6, t7, t8, t9⟩ := box10 HT8.out
        obtain ⟨q0, q1⟩ := box2 HR8.out
        obtain ⟨v0, v1, v2, v3, v4⟩ := box5 HL8.out
        obtain ⟨e0, e1, e2, e3, e4, e5, e6⟩ := HY.out.below HB8.out
        dsimp only at e0 e1 e2 e3 e4 e5 e6
        obtain rfl : u4 = true := by rw [← HU.out]; rfl
        have hv : wrap64 (m + 1) = m + 1 := IntWalk.wrap64_in _ (by have := HM.out; omega)
        clear HM HL8 HTB
        go_wp2_with fail
        go_roundw
        case rel => exact ⟨k + 1, 4, s', _, by omega, by rw [hv], by go_num, HI, HB8, HT8, HR8⟩
        case measure => clear hv; simp [intOf]; omega
      · replace HI := Lib.hid HI
        clear HW
        have HB6 := Lib.hid (bel_set2 HB5.out (Nat.le_of_lt HG.out) (.int .i64 5) (.int .i64 s'))
        have HT6 := Lib.hid ((HT5.out.far g 0 (.int .i64 5) (Nat.ne_of_lt HG.out)).far g 1 (.int .i64 s') (Nat.ne_of_lt HG.out))
        have HR6 := Lib.hid ((HR5.out.set_ 0 (.int .i64 5)).set_ 1 (.int .i64 s'))
        have HL6 := Lib.hid ((HL5.out.far g 0 (.int .i64 5) HGL.out).far g 1 (.int .i64 s') HGL.out)
        clear HB5 HT5 HR5 HL5
        go_wp2_with fail
        clear r0 r1 f0 f1
        (with_reducible refine (lights_to 5 s' false true false true true (by decide) (by decide) (by decide) (by decide) (by decide) _).mono ?_)
        rintro e w7 ⟨rfl, hb⟩
        have hA := below_alloc (Below.refl _ w7) (.cells #[.bool false, .bool true, .bool false, .bool true, .bool true] 38)
        have HB8 := Lib.hid (below_alloc (below_call HB6.out hb) (.cells #[.bool false, .bool true, .bool false, .bool true, .bool true] 38))
        have HT8 := Lib.hid ((HT6.out.below hb).below hA)
        have HR8 := Lib.hid ((HR6.out.below hb).below hA)
        have HL8 := Lib.hid ((HL6.out.below hb).below hA)
        clear HL6
        obtain ⟨l0, l1, l2, l3, l4⟩ := box5 (blk_new w7 #[.bool false, .bool true, .bool false, .bool true, .bool true] 38)
        clear hb hA HB6 HT6 HR6
        obtain ⟨t0, t1, t2, t3, t4, t5, t6, t7, t8, t9⟩ := box10 HT8.out
        obtain ⟨q0, q1⟩ := box2 HR8.out
        obtain ⟨v0, v1, v2, v3, v4⟩ := box5 HL8.out
        obtain ⟨e0, e1, e2, e3, e4, e5, e6⟩ := HY.out.below HB8.out
        dsimp only at e0 e1 e2 e3 e4 e5 e6
        obtain rfl : u4 = true := by rw [← HU.out]; rfl
        have hv : wrap64 (m + 1) = m + 1 := IntWalk.wrap64_in _ (by have := HM.out; omega)
        clear HM HL8 HTB
        go_wp2_with fail
        go_roundw
        case rel => exact ⟨k + 1, 5, s', _, by omega, by rw [hv], by go_num, HI, HB8, HT8, HR8⟩
        case measure => clear hv; simp [intOf]; omega
      · replace HI := Lib.hid HI
        clear HW
        have HB6 := Lib.hid (bel_set2 HB5.out (Nat.le_of_lt HG.out) (.int .i64 5) (.int .i64 s'))
        have HT6 := Lib.hid ((HT5.out.far g 0 (.int .i64 5) (Nat.ne_of_lt HG.out)).far g 1 (.int .i64 s') (Nat.ne_of_lt HG.out))
        have HR6 := Lib.hid ((HR5.out.set_ 0 (.int .i64 5)).set_ 1 (.int .i64 s'))
        have HL6 := Lib.hid ((HL5.out.far g 0 (.int .i64 5) HGL.out).far g 1 (.int .i64 s') HGL.out)
        clear HB5 HT5 HR5 HL5
        go_wp2_with fail
        clear r0 r1 f0 f1
        (with_reducible refine (lights_to 5 s' false true false true true (by decide) (by decide) (by decide) (by decide) (by decide) _).mono ?_)
        rintro e w7 ⟨rfl, hb⟩
        have hA := below_alloc (Below.refl _ w7) (.cells #[.bool false, .bool true, .bool false, .bool true, .bool true] 38)
        have HB8 := Lib.hid (below_alloc (below_call HB6.out hb) (.cells #[.bool false, .bool true, .bool false, .bool true, .bool true] 38))
        have HT8 := Lib.hid ((HT6.out.below hb).below hA)
        have HR8 := Lib.hid ((HR6.out.below hb).below hA)
        have HL8 := Lib.hid ((HL6.out.below hb).below hA)
        clear HL6
        obtain ⟨l0, l1, l2, l3, l4⟩ := box5 (blk_new w7 #[.bool false, .bool true, .bool false, .bool true, .bool true] 38)
        clear hb hA HB6 HT6 HR6
        obtain ⟨t0, t1, t2, t3, t4, t5, t6, t7, t8, t9⟩ := box10 HT8.out
        obtain ⟨q0, q1⟩ := box2 HR8.out
        obtain ⟨v0, v1, v2, v3, v4⟩ := box5 HL8.out
        obtain ⟨e0, e1, e2, e3, e4, e5, e6⟩ := HY.out.below HB8.out
        dsimp only at e0 e1 e2 e3 e4 e5 e6
        obtain rfl : u4 = true := by rw [← HU.out]; rfl
        have hv : wrap64 (m + 1) = m + 1 := IntWalk.wrap64_in _ (by have := HM.out; omega)
        clear HM HL8 HTB
        go_wp2_with fail
        go_roundw
        case rel => exact ⟨k + 1, 5, s', _, by omega, by rw [hv], by go_num, HI, HB8, HT8, HR8⟩
        case measure => clear hv; simp [intOf]; omega
    · have hltI : ¬ (k : Int) < (K : Int) := by omega
      go_wp2_with fail
      go_ret
      exact ⟨rfl, HB.out⟩
theorem exits_any (T : PhT) (v : Value) (ls : List PhW) (w : World) (hv : Els RPh 7 w v ls) : Calls Try.prog 4 #[.agg #[.int .i64 T.am, .int .i64 T.re, .int .i64 T.en, .int .i64 T.tr, .int .i64 T.pr, .int .i64 T.op, .int .i64 T.ov, .int .i64 T.fr, .int .i64 T.ap, .int .i64 T.wa], v] w fun e w' => e = .returned (.bool true) ∧ Below w.heap.size w w' := by
  obtain ⟨a0, c0, rfl⟩ := hv.len
  obtain ⟨K, hK⟩ : ∃ n, n = ls.length := ⟨_, rfl⟩
  rw [← hK] at hv ⊢
  cases hf : phfew T
  · exact exits_out T a0 K c0 w (Or.inl hf)
  · by_cases h : 400 < (K : Int)
    · exact exits_out T a0 K c0 w (Or.inr ⟨hf, h⟩)
    · exact exits_main T a0 K c0 ls w hv hK hf h
end Go.Proofs.Ytbaljmflmkpmjaa

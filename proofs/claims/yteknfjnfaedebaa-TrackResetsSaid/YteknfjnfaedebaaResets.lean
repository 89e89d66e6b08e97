/-
  The walk of crossbucklaw12.TrackResets: true, whatever it is given.
-/
import Derived.Test.YteknfjnfaedebaaBox
import Derived.Test.YteknfjnfaedebaaTkEq
namespace Go.Proofs.Yteknfjnfaedebaa
open Go.RowKit

/-- What a reset comes to, as letters. -/
theorem resets_eq (h : Bool) (i o : Int) (g : Bool) (l s : Int) (j cl : Bool) (n : Int) (f c : Bool) (ci co cs li d0 d1 d2 : Int) : ∃ (n0 x' y' : Int) (ga : Bool) (q s' : Int) (ja cla : Bool) (na : Int) (fa ca gb jb clb : Bool) (nb : Int) (fb cb : Bool), ahd ci co = n0 ∧ li % 4 = q
    ∧ tks ⟨h, i, o, g, l, s, j, cl, n, f, c⟩ ⟨true, ci, co, cs, li⟩ d0 d1 d2 false = ⟨true, x', y', ga, q, s', ja, cla, na, fa, ca⟩ ∧ tks ⟨h, i, o, g, l, s, j, cl, n, f, c⟩ ⟨true, ci, co, cs, li⟩ d0 d1 d2 true = ⟨true, x', y', gb, q, s', jb, clb, nb, fb, cb⟩ ∧ ((¬ n0 = 0 ∧ clb = false) ∨ (n0 = 0 ∧ ¬ q = 0 ∧ clb = false) ∨ (n0 = 0 ∧ q = 0 ∧ clb = true ∧ fb = false ∧ cb = false))
    ∧ (fa = true ∨ (fa = false ∧ g = false ∧ j = false ∧ gb = ga ∧ jb = ja ∧ cla = clb ∧ na = nb ∧ fb = false ∧ ca = cb)) := by
  have e1 : ahd (ci % 256) (co % 256) = ahd ci co := by rw [ahd_mod_left, ahd_mod_right]
  have e2 : li % 4 % 4 = li % 4 := by omega
  obtain ⟨r, hr⟩ : ∃ r, wrg h i o g ci co = r := ⟨_, rfl⟩
  obtain ⟨p, hp⟩ : ∃ p, (j || decide (way l li = 2)) = p := ⟨_, rfl⟩
  have r1 : g = true → r = true := by rintro rfl; rw [← hr]; simp [wrg]
  have p1 : j = true → p = true := by rintro rfl; rw [← hp]; simp
  unfold tks ax1 pr1 stx stp
  simp only [if_true]
  rw [hr, hp]
  unfold ax2 pr2
  simp only [if_true, Bool.false_eq_true, if_false]
  unfold tk3 clr rst
  simp only [e1, e2]
  refine ⟨ahd ci co, _, _, _, li % 4, _, _, _, _, _, _, _, _, _, _, _, _, rfl, rfl, rfl, rfl, ?_, ?_⟩
  · by_cases hn : ahd ci co = 0
    · by_cases hq : li % 4 = 0
      · refine Or.inr (Or.inr ⟨hn, hq, ?_⟩)
        simp [hn, hq]
      · refine Or.inr (Or.inl ⟨hn, hq, ?_⟩)
        simp [hn, hq]
    · refine Or.inl ⟨hn, ?_⟩
      simp [hn]
  · cases r
    · cases p
      · refine Or.inr ⟨rfl, ?_, ?_, ?_⟩
        · cases g
          · rfl
          · exact absurd (r1 rfl) (by simp)
        · cases j
          · rfl
          · exact absurd (p1 rfl) (by simp)
        · simp
      · left; simp
    · left; simp
set_option maxHeartbeats 4000000 in
set_option maxRecDepth 10000 in
theorem resets_a (h : Bool) (i o : Int) (g : Bool) (l s : Int) (j cl : Bool) (n : Int) (f c : Bool) (fr : Bool) (ci co cs li : Int) (d0 d1 d2 : Int) (n0 : Int) (x' y' : Int) (ga : Bool) (q s' : Int) (ja cla : Bool) (na : Int) (ca gb jb clb : Bool) (nb : Int) (fb cb : Bool) (w : World) (hs : PosR s) (hn : ahd ci co = n0) (hq : li % 4 = q) (hc : ((¬ n0 = 0 ∧ clb = false) ∨ (n0 = 0 ∧ ¬ q = 0 ∧ clb = false) ∨ (n0 = 0 ∧ q = 0 ∧ clb = true ∧ fb = false ∧ cb = false))) (hx : tks ⟨h, i, o, g, l, s, j, cl, n, f, c⟩ ⟨true, ci, co, cs, li⟩ d0 d1 d2 false = ⟨true, x', y', ga, q, s', ja, cla, na, true, ca⟩) (hy : tks ⟨h, i, o, g, l, s, j, cl, n, f, c⟩ ⟨true, ci, co, cs, li⟩ d0 d1 d2 true = ⟨true, x', y', gb, q, s', jb, clb, nb, fb, cb⟩) : Calls Try.prog 5 #[.agg #[.bool h, .int .i64 i, .int .i64 o, .bool g, .int .i64 l, .int .i64 s, .bool j, .bool cl, .int .i64 n, .bool f, .bool c], .agg #[.bool fr, .int .i64 ci, .int .i64 co, .int .i64 cs, .int .i64 li], .agg #[.int .i64 d0, .int .i64 d1, .int .i64 d2]] w fun e w' => e = .returned (.bool true) ∧ Below w.heap.size w w' := by
  have HS0 := Lib.hid (tcd_new w #[.bool h, .int .i64 i, .int .i64 o, .bool g, .int .i64 l, .int .i64 s, .bool j, .bool cl, .int .i64 n, .bool f, .bool c] #[.bool fr, .int .i64 ci, .int .i64 co, .int .i64 cs, .int .i64 li] #[.int .i64 d0, .int .i64 d1, .int .i64 d2])
  have HSX := Lib.hid (tstep_to h i o g l s j cl n f c true ci co cs li d0 d1 d2 false true x' y' ga q s' ja cla na true ca hx hs)
  have HSY := Lib.hid (tstep_to h i o g l s j cl n f c true ci co cs li d0 d1 d2 true true x' y' gb q s' jb clb nb fb cb hy hs)
  have HC := Lib.hid hc
  obtain ⟨z, hz, ha⟩ := ahd_and ci co
  rw [hn] at ha
  have a3 := and3 li
  rw [hq] at a3
  have HZ := Lib.hid (And.intro hz (And.intro ha a3))
  clear hx hy hs hc hn hq hz ha a3
  go_enter Try.func5, Try.ntmps5
  go_wp2_with fail
  (with_reducible refine (small_true _).mono ?_)
  rintro e w1 ⟨rfl, hb⟩
  have HS := Lib.hid (HS0.out.call hb)
  clear hb HS0
  obtain ⟨x0, x1, x2, x3, x4⟩ := HS.out.c.five
  have f0 := HS.out.c.frz 0
  go_upto_region 3 with fail
  replace HS := Lib.hid (HS.out.fresh (.bool true))
  clear x0 x1 x2 x3 x4 f0
  generalize w1.setCell ⟨w.heap.size + 1, 0, none⟩ (.bool true) = w2 at *
  obtain ⟨t0, t1, t2, t3, t4, t5, t6, t7, t8, t9, t10⟩ := HS.out.t.c11
  obtain ⟨x0, x1, x2, x3, x4⟩ := HS.out.c.five
  obtain ⟨y0, y1, y2⟩ := HS.out.d.three
  go_wp2_with fail
  (with_reducible refine (HSX.out _).mono ?_)
  rintro e w3 ⟨rfl, hb⟩
  replace HS := Lib.hid ((HS.out.call hb).call (below_alloc (Below.refl _ w3) (.cells #[.bool true, .int .i64 x', .int .i64 y', .bool ga, .int .i64 q, .int .i64 s', .bool ja, .bool cla, .int .i64 na, .bool true, .bool ca] 31)))
  have HX := Lib.hid (blk_new w3 #[.bool true, .int .i64 x', .int .i64 y', .bool ga, .int .i64 q, .int .i64 s', .bool ja, .bool cla, .int .i64 na, .bool true, .bool ca] 31)
  clear hb t0 t1 t2 t3 t4 t5 t6 t7 t8 t9 t10 x0 x1 x2 x3 x4 y0 y1 y2
  go_upto_region 4 with fail
  generalize w3.alloc (.cells #[.bool true, .int .i64 x', .int .i64 y', .bool ga, .int .i64 q, .int .i64 s', .bool ja, .bool cla, .int .i64 na, .bool true, .bool ca] 31) = w4 at *
  generalize w3.heap.size = gx at *
  obtain ⟨t0, t1, t2, t3, t4, t5, t6, t7, t8, t9, t10⟩ := HS.out.t.c11
  obtain ⟨x0, x1, x2, x3, x4⟩ := HS.out.c.five
  obtain ⟨y0, y1, y2⟩ := HS.out.d.three
  go_wp2_with fail
  (with_reducible refine (HSY.out _).mono ?_)
  rintro e w5 ⟨rfl, hb⟩
  replace HS := Lib.hid ((HS.out.call hb).call (below_alloc (Below.refl _ w5) (.cells #[.bool true, .int .i64 x', .int .i64 y', .bool gb, .int .i64 q, .int .i64 s', .bool jb, .bool clb, .int .i64 nb, .bool fb, .bool cb] 31)))
  replace HX := Lib.hid ((HX.out.below hb).below (below_alloc (Below.refl _ w5) (.cells #[.bool true, .int .i64 x', .int .i64 y', .bool gb, .int .i64 q, .int .i64 s', .bool jb, .bool clb, .int .i64 nb, .bool fb, .bool cb] 31)))
  have HY := Lib.hid (blk_new w5 #[.bool true, .int .i64 x', .int .i64 y', .bool gb, .int .i64 q, .int .i64 s', .bool jb, .bool clb, .int .i64 nb, .bool fb, .bool cb] 31)
  clear hb t0 t1 t2 t3 t4 t5 t6 t7 t8 t9 t10 x0 x1 x2 x3 x4 y0 y1 y2
  go_upto_region 5 with fail
  generalize w5.alloc (.cells #[.bool true, .int .i64 x', .int .i64 y', .bool gb, .int .i64 q, .int .i64 s', .bool jb, .bool clb, .int .i64 nb, .bool fb, .bool cb] 31) = w6 at *
  generalize w5.heap.size = gy at *
  clear HSX HSY
  rcases HC.out with ⟨h1, rfl⟩ | ⟨rfl, h1, rfl⟩ | ⟨rfl, rfl, rfl, rfl, rfl⟩
  all_goals
    obtain ⟨hz, ha, a3⟩ := HZ.out
    obtain ⟨t0, t1, t2, t3, t4, t5, t6, t7, t8, t9, t10⟩ := HS.out.t.c11
    obtain ⟨x0, x1, x2, x3, x4⟩ := HS.out.c.five
    obtain ⟨u0, u1, u2, u3, u4, u5, u6, u7, u8, u9, u10⟩ := HX.out.c11
    obtain ⟨v0, v1, v2, v3, v4, v5, v6, v7, v8, v9, v10⟩ := HY.out.c11
    try (have b1 : (q == 0) = false := by simpa using h1)
    clear HC HZ
    cases g <;> cases j
    all_goals
      go_wp2_with fail
      go_ret
      exact ⟨rfl, HS.out.bel⟩
set_option maxHeartbeats 4000000 in
set_option maxRecDepth 10000 in
theorem resets_b (h : Bool) (i o : Int) (l s : Int) (cl : Bool) (n : Int) (f c : Bool) (fr : Bool) (ci co cs li : Int) (d0 d1 d2 : Int) (n0 : Int) (x' y' : Int) (ga : Bool) (q s' : Int) (ja clb : Bool) (nb : Int) (cb : Bool) (w : World) (hs : PosR s) (hn : ahd ci co = n0) (hq : li % 4 = q) (hc : ((¬ n0 = 0 ∧ clb = false) ∨ (n0 = 0 ∧ ¬ q = 0 ∧ clb = false) ∨ (n0 = 0 ∧ q = 0 ∧ clb = true ∧ cb = false))) (hx : tks ⟨h, i, o, false, l, s, false, cl, n, f, c⟩ ⟨true, ci, co, cs, li⟩ d0 d1 d2 false = ⟨true, x', y', ga, q, s', ja, clb, nb, false, cb⟩) (hy : tks ⟨h, i, o, false, l, s, false, cl, n, f, c⟩ ⟨true, ci, co, cs, li⟩ d0 d1 d2 true = ⟨true, x', y', ga, q, s', ja, clb, nb, false, cb⟩) : Calls Try.prog 5 #[.agg #[.bool h, .int .i64 i, .int .i64 o, .bool false, .int .i64 l, .int .i64 s, .bool false, .bool cl, .int .i64 n, .bool f, .bool c], .agg #[.bool fr, .int .i64 ci, .int .i64 co, .int .i64 cs, .int .i64 li], .agg #[.int .i64 d0, .int .i64 d1, .int .i64 d2]] w fun e w' => e = .returned (.bool true) ∧ Below w.heap.size w w' := by
  have HS0 := Lib.hid (tcd_new w #[.bool h, .int .i64 i, .int .i64 o, .bool false, .int .i64 l, .int .i64 s, .bool false, .bool cl, .int .i64 n, .bool f, .bool c] #[.bool fr, .int .i64 ci, .int .i64 co, .int .i64 cs, .int .i64 li] #[.int .i64 d0, .int .i64 d1, .int .i64 d2])
  have HSX := Lib.hid (tstep_to h i o false l s false cl n f c true ci co cs li d0 d1 d2 false true x' y' ga q s' ja clb nb false cb hx hs)
  have HSY := Lib.hid (tstep_to h i o false l s false cl n f c true ci co cs li d0 d1 d2 true true x' y' ga q s' ja clb nb false cb hy hs)
  have q0 := eql_tk true x' y' ga q s' ja clb nb false cb
  have HQ := Lib.hid q0
  clear q0
  have HC := Lib.hid hc
  obtain ⟨z, hz, ha⟩ := ahd_and ci co
  rw [hn] at ha
  have a3 := and3 li
  rw [hq] at a3
  have HZ := Lib.hid (And.intro hz (And.intro ha a3))
  clear hx hy hs hc hn hq hz ha a3
  go_enter Try.func5, Try.ntmps5
  go_wp2_with fail
  (with_reducible refine (small_true _).mono ?_)
  rintro e w1 ⟨rfl, hb⟩
  have HS := Lib.hid (HS0.out.call hb)
  clear hb HS0
  obtain ⟨x0, x1, x2, x3, x4⟩ := HS.out.c.five
  have f0 := HS.out.c.frz 0
  go_upto_region 3 with fail
  replace HS := Lib.hid (HS.out.fresh (.bool true))
  clear x0 x1 x2 x3 x4 f0
  generalize w1.setCell ⟨w.heap.size + 1, 0, none⟩ (.bool true) = w2 at *
  obtain ⟨t0, t1, t2, t3, t4, t5, t6, t7, t8, t9, t10⟩ := HS.out.t.c11
  obtain ⟨x0, x1, x2, x3, x4⟩ := HS.out.c.five
  obtain ⟨y0, y1, y2⟩ := HS.out.d.three
  go_wp2_with fail
  (with_reducible refine (HSX.out _).mono ?_)
  rintro e w3 ⟨rfl, hb⟩
  replace HS := Lib.hid ((HS.out.call hb).call (below_alloc (Below.refl _ w3) (.cells #[.bool true, .int .i64 x', .int .i64 y', .bool ga, .int .i64 q, .int .i64 s', .bool ja, .bool clb, .int .i64 nb, .bool false, .bool cb] 31)))
  have HX := Lib.hid (blk_new w3 #[.bool true, .int .i64 x', .int .i64 y', .bool ga, .int .i64 q, .int .i64 s', .bool ja, .bool clb, .int .i64 nb, .bool false, .bool cb] 31)
  clear hb t0 t1 t2 t3 t4 t5 t6 t7 t8 t9 t10 x0 x1 x2 x3 x4 y0 y1 y2
  go_upto_region 4 with fail
  generalize w3.alloc (.cells #[.bool true, .int .i64 x', .int .i64 y', .bool ga, .int .i64 q, .int .i64 s', .bool ja, .bool clb, .int .i64 nb, .bool false, .bool cb] 31) = w4 at *
  generalize w3.heap.size = gx at *
  obtain ⟨t0, t1, t2, t3, t4, t5, t6, t7, t8, t9, t10⟩ := HS.out.t.c11
  obtain ⟨x0, x1, x2, x3, x4⟩ := HS.out.c.five
  obtain ⟨y0, y1, y2⟩ := HS.out.d.three
  go_wp2_with fail
  (with_reducible refine (HSY.out _).mono ?_)
  rintro e w5 ⟨rfl, hb⟩
  replace HS := Lib.hid ((HS.out.call hb).call (below_alloc (Below.refl _ w5) (.cells #[.bool true, .int .i64 x', .int .i64 y', .bool ga, .int .i64 q, .int .i64 s', .bool ja, .bool clb, .int .i64 nb, .bool false, .bool cb] 31)))
  replace HX := Lib.hid ((HX.out.below hb).below (below_alloc (Below.refl _ w5) (.cells #[.bool true, .int .i64 x', .int .i64 y', .bool ga, .int .i64 q, .int .i64 s', .bool ja, .bool clb, .int .i64 nb, .bool false, .bool cb] 31)))
  have HY := Lib.hid (blk_new w5 #[.bool true, .int .i64 x', .int .i64 y', .bool ga, .int .i64 q, .int .i64 s', .bool ja, .bool clb, .int .i64 nb, .bool false, .bool cb] 31)
  clear hb t0 t1 t2 t3 t4 t5 t6 t7 t8 t9 t10 x0 x1 x2 x3 x4 y0 y1 y2
  go_upto_region 5 with fail
  generalize w5.alloc (.cells #[.bool true, .int .i64 x', .int .i64 y', .bool ga, .int .i64 q, .int .i64 s', .bool ja, .bool clb, .int .i64 nb, .bool false, .bool cb] 31) = w6 at *
  generalize w5.heap.size = gy at *
  clear HSX HSY
  rcases HC.out with ⟨h1, rfl⟩ | ⟨rfl, h1, rfl⟩ | ⟨rfl, rfl, rfl, rfl⟩
  all_goals
    obtain ⟨hz, ha, a3⟩ := HZ.out
    obtain ⟨t0, t1, t2, t3, t4, t5, t6, t7, t8, t9, t10⟩ := HS.out.t.c11
    obtain ⟨x0, x1, x2, x3, x4⟩ := HS.out.c.five
    obtain ⟨u0, u1, u2, u3, u4, u5, u6, u7, u8, u9, u10⟩ := HX.out.c11
    obtain ⟨v0, v1, v2, v3, v4, v5, v6, v7, v8, v9, v10⟩ := HY.out.c11
    try (have b1 : (q == 0) = false := by simpa using h1)
    clear HC HZ
    have q0 := HQ.out
    clear HQ
    go_wp2_with fail
    go_ret
    exact ⟨rfl, HS.out.bel⟩
theorem resets_any (h : Bool) (i o : Int) (g : Bool) (l s : Int) (j cl : Bool) (n : Int) (f c : Bool) (fr : Bool) (ci co cs li : Int) (d0 d1 d2 : Int) (w : World) (hs : PosR s) : Calls Try.prog 5 #[.agg #[.bool h, .int .i64 i, .int .i64 o, .bool g, .int .i64 l, .int .i64 s, .bool j, .bool cl, .int .i64 n, .bool f, .bool c], .agg #[.bool fr, .int .i64 ci, .int .i64 co, .int .i64 cs, .int .i64 li], .agg #[.int .i64 d0, .int .i64 d1, .int .i64 d2]] w fun e w' => e = .returned (.bool true) ∧ Below w.heap.size w w' := by
  obtain ⟨n0, x', y', ga, q, s', ja, cla, na, fa, ca, gb, jb, clb, nb, fb, cb, e1, e2, e3, e4, e5, e6⟩ := resets_eq h i o g l s j cl n f c ci co cs li d0 d1 d2
  rcases e6 with rfl | ⟨rfl, rfl, rfl, rfl, rfl, rfl, rfl, rfl, rfl⟩
  · exact resets_a h i o g l s j cl n f c fr ci co cs li d0 d1 d2 n0 x' y' ga q s' ja cla na ca gb jb clb nb fb cb w hs e1 e2 e5 e3 e4
  · exact resets_b h i o l s cl n f c fr ci co cs li d0 d1 d2 n0 x' y' _ q s' _ _ _ _ w hs e1 e2 (by simpa using e5) e3 e4
end Go.Proofs.Yteknfjnfaedebaa

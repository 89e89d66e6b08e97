/-
  The walk of crossbucklaw12.TrackLonger: true, whatever it is given.
-/
import Derived.Test.YteknfjnfaedebaaBox
import Derived.Test.YteknfjnfaedebaaTkEq
namespace Go.Proofs.Yteknfjnfaedebaa
open Go.RowKit

set_option maxHeartbeats 4000000 in
set_option maxRecDepth 10000 in
theorem longer_out (h : Bool) (i o : Int) (g : Bool) (l s : Int) (j cl : Bool) (n : Int) (f c : Bool) (fr : Bool) (ci co cs li : Int) (a0 a1 a2 b0 b1 b2 : Int) (rs : Bool) (w : World) (hm : b0 < a0 ∨ (¬ b0 < a0 ∧ b1 < a1) ∨ (¬ b0 < a0 ∧ ¬ b1 < a1 ∧ b2 < a2)) : Calls Try.prog 7 #[.agg #[.bool h, .int .i64 i, .int .i64 o, .bool g, .int .i64 l, .int .i64 s, .bool j, .bool cl, .int .i64 n, .bool f, .bool c], .agg #[.bool fr, .int .i64 ci, .int .i64 co, .int .i64 cs, .int .i64 li], .agg #[.int .i64 a0, .int .i64 a1, .int .i64 a2], .agg #[.int .i64 b0, .int .i64 b1, .int .i64 b2], .bool rs] w fun e w' => e = .returned (.bool true) ∧ Below w.heap.size w w' := by
  have HS0 := Lib.hid ((tcd_new w #[.bool h, .int .i64 i, .int .i64 o, .bool g, .int .i64 l, .int .i64 s, .bool j, .bool cl, .int .i64 n, .bool f, .bool c] #[.bool fr, .int .i64 ci, .int .i64 co, .int .i64 cs, .int .i64 li] #[.int .i64 a0, .int .i64 a1, .int .i64 a2]).call (below_alloc (Below.refl _ _) (.cells #[.int .i64 b0, .int .i64 b1, .int .i64 b2] 23)))
  have he := blk_new (((w.alloc (.cells #[.bool h, .int .i64 i, .int .i64 o, .bool g, .int .i64 l, .int .i64 s, .bool j, .bool cl, .int .i64 n, .bool f, .bool c] 31)).alloc (.cells #[.bool fr, .int .i64 ci, .int .i64 co, .int .i64 cs, .int .i64 li] 34)).alloc (.cells #[.int .i64 a0, .int .i64 a1, .int .i64 a2] 23)) #[.int .i64 b0, .int .i64 b1, .int .i64 b2] 23
  rw [show (((w.alloc (.cells #[.bool h, .int .i64 i, .int .i64 o, .bool g, .int .i64 l, .int .i64 s, .bool j, .bool cl, .int .i64 n, .bool f, .bool c] 31)).alloc (.cells #[.bool fr, .int .i64 ci, .int .i64 co, .int .i64 cs, .int .i64 li] 34)).alloc (.cells #[.int .i64 a0, .int .i64 a1, .int .i64 a2] 23)).heap.size = w.heap.size + 1 + 1 + 1 by simp] at he
  have HE0 := Lib.hid he
  clear he
  rcases hm with h1 | ⟨h1, h2⟩ | ⟨h1, h2, h3⟩
  all_goals
    go_enter Try.func7, Try.ntmps7
    go_wp2_with fail
    (with_reducible refine (small_true _).mono ?_)
    rintro e w1 ⟨rfl, hb⟩
    have HS := Lib.hid (HS0.out.call hb)
    have HE := Lib.hid (HE0.out.below hb)
    clear hb HS0 HE0
    obtain ⟨p0, p1, p2⟩ := HS.out.d.three
    obtain ⟨r0, r1, r2⟩ := HE.out.three
    go_wp2_with fail
    go_ret
    exact ⟨rfl, HS.out.bel⟩
theorem wtt_le {a0 a1 a2 b0 b1 b2 : Int} (k : Int) (h0 : a0 ≤ b0) (h1 : a1 ≤ b1) (h2 : a2 ≤ b2) : wtt a0 a1 a2 k ≤ wtt b0 b1 b2 k := by
  unfold wtt
  repeat' split
  all_goals omega
/-- A longer delay calls later, and is told of nothing else. -/
theorem longer_eq (t : Tk) (c : Ct) (a0 a1 a2 b0 b1 b2 : Int) (rs : Bool) (h0 : a0 ≤ b0) (h1 : a1 ≤ b1) (h2 : a2 ≤ b2) : ∃ h' i' o' g' l' s' j' cl' n' f' cx cy, tks t c a0 a1 a2 rs = ⟨h', i', o', g', l', s', j', cl', n', f', cx⟩ ∧ tks t c b0 b1 b2 rs = ⟨h', i', o', g', l', s', j', cl', n', f', cy⟩ ∧ (cy = false ∨ cx = true) := by
  unfold tks tk3
  refine ⟨_, _, _, _, _, _, _, _, _, _, _, _, rfl, rfl, ?_⟩
  have hw := wtt_le c.cs h0 h1 h2
  have key : ∀ (cl f : Bool) (m : Int), (!cl && (f || decide (wtt b0 b1 b2 c.cs < m))) = false ∨ (!cl && (f || decide (wtt a0 a1 a2 c.cs < m))) = true := by
    intro cl f m
    by_cases hb : wtt b0 b1 b2 c.cs < m
    · have ha : wtt a0 a1 a2 c.cs < m := by omega
      rw [decide_eq_true ha]
      cases cl <;> simp
    · rw [decide_eq_false hb]
      cases f <;> cases cl <;> simp
  exact key _ _ _
set_option maxHeartbeats 4000000 in
set_option maxRecDepth 10000 in
theorem longer_cf (h : Bool) (i o : Int) (g : Bool) (l s : Int) (j cl : Bool) (n : Int) (f c : Bool) (fr : Bool) (ci co cs li : Int) (a0 a1 a2 b0 b1 b2 : Int) (rs : Bool) (h' : Bool) (i' o' : Int) (g' : Bool) (l' s' : Int) (j' cl' : Bool) (n' : Int) (f' : Bool) (cx : Bool) (w : World) (hs : PosR s) (k0 : ¬ b0 < a0) (k1 : ¬ b1 < a1) (k2 : ¬ b2 < a2) (hx : tks ⟨h, i, o, g, l, s, j, cl, n, f, c⟩ ⟨fr, ci, co, cs, li⟩ a0 a1 a2 rs = ⟨h', i', o', g', l', s', j', cl', n', f', cx⟩) (hy : tks ⟨h, i, o, g, l, s, j, cl, n, f, c⟩ ⟨fr, ci, co, cs, li⟩ b0 b1 b2 rs = ⟨h', i', o', g', l', s', j', cl', n', f', false⟩) : Calls Try.prog 7 #[.agg #[.bool h, .int .i64 i, .int .i64 o, .bool g, .int .i64 l, .int .i64 s, .bool j, .bool cl, .int .i64 n, .bool f, .bool c], .agg #[.bool fr, .int .i64 ci, .int .i64 co, .int .i64 cs, .int .i64 li], .agg #[.int .i64 a0, .int .i64 a1, .int .i64 a2], .agg #[.int .i64 b0, .int .i64 b1, .int .i64 b2], .bool rs] w fun e w' => e = .returned (.bool true) ∧ Below w.heap.size w w' := by
  have HS0 := Lib.hid ((tcd_new w #[.bool h, .int .i64 i, .int .i64 o, .bool g, .int .i64 l, .int .i64 s, .bool j, .bool cl, .int .i64 n, .bool f, .bool c] #[.bool fr, .int .i64 ci, .int .i64 co, .int .i64 cs, .int .i64 li] #[.int .i64 a0, .int .i64 a1, .int .i64 a2]).call (below_alloc (Below.refl _ _) (.cells #[.int .i64 b0, .int .i64 b1, .int .i64 b2] 23)))
  have he := blk_new (((w.alloc (.cells #[.bool h, .int .i64 i, .int .i64 o, .bool g, .int .i64 l, .int .i64 s, .bool j, .bool cl, .int .i64 n, .bool f, .bool c] 31)).alloc (.cells #[.bool fr, .int .i64 ci, .int .i64 co, .int .i64 cs, .int .i64 li] 34)).alloc (.cells #[.int .i64 a0, .int .i64 a1, .int .i64 a2] 23)) #[.int .i64 b0, .int .i64 b1, .int .i64 b2] 23
  rw [show (((w.alloc (.cells #[.bool h, .int .i64 i, .int .i64 o, .bool g, .int .i64 l, .int .i64 s, .bool j, .bool cl, .int .i64 n, .bool f, .bool c] 31)).alloc (.cells #[.bool fr, .int .i64 ci, .int .i64 co, .int .i64 cs, .int .i64 li] 34)).alloc (.cells #[.int .i64 a0, .int .i64 a1, .int .i64 a2] 23)).heap.size = w.heap.size + 1 + 1 + 1 by simp] at he
  have HE0 := Lib.hid he
  have HSX := Lib.hid (tstep_to h i o g l s j cl n f c fr ci co cs li a0 a1 a2 rs h' i' o' g' l' s' j' cl' n' f' cx hx hs)
  have HSY := Lib.hid (tstep_to h i o g l s j cl n f c fr ci co cs li b0 b1 b2 rs h' i' o' g' l' s' j' cl' n' f' false hy hs)
  have HQ := Lib.hid (eql_tk h' i' o' g' l' s' j' cl' n' f' false)
  clear hx hy hs he
  go_enter Try.func7, Try.ntmps7
  go_wp2_with fail
  (with_reducible refine (small_true _).mono ?_)
  rintro e w1 ⟨rfl, hb⟩
  have HS := Lib.hid (HS0.out.call hb)
  have HE := Lib.hid (HE0.out.below hb)
  clear hb HS0 HE0
  obtain ⟨p0, p1, p2⟩ := HS.out.d.three
  obtain ⟨r0, r1, r2⟩ := HE.out.three
  obtain ⟨t0, t1, t2, t3, t4, t5, t6, t7, t8, t9, t10⟩ := HS.out.t.c11
  obtain ⟨x0, x1, x2, x3, x4⟩ := HS.out.c.five
  go_wp2_with fail
  (with_reducible refine (HSX.out _).mono ?_)
  rintro e w2 ⟨rfl, hb⟩
  replace HS := Lib.hid ((HS.out.call hb).call (below_alloc (Below.refl _ w2) (.cells #[.bool h', .int .i64 i', .int .i64 o', .bool g', .int .i64 l', .int .i64 s', .bool j', .bool cl', .int .i64 n', .bool f', .bool cx] 31)))
  replace HE := Lib.hid ((HE.out.below hb).below (below_alloc (Below.refl _ w2) (.cells #[.bool h', .int .i64 i', .int .i64 o', .bool g', .int .i64 l', .int .i64 s', .bool j', .bool cl', .int .i64 n', .bool f', .bool cx] 31)))
  have HX := Lib.hid (blk_new w2 #[.bool h', .int .i64 i', .int .i64 o', .bool g', .int .i64 l', .int .i64 s', .bool j', .bool cl', .int .i64 n', .bool f', .bool cx] 31)
  clear hb p0 p1 p2 r0 r1 r2 t0 t1 t2 t3 t4 t5 t6 t7 t8 t9 t10 x0 x1 x2 x3 x4 k0 k1 k2
  go_upto_region 5 with fail
  generalize w2.alloc (.cells #[.bool h', .int .i64 i', .int .i64 o', .bool g', .int .i64 l', .int .i64 s', .bool j', .bool cl', .int .i64 n', .bool f', .bool cx] 31) = w3 at *
  generalize w2.heap.size = gx at *
  obtain ⟨r0, r1, r2⟩ := HE.out.three
  obtain ⟨t0, t1, t2, t3, t4, t5, t6, t7, t8, t9, t10⟩ := HS.out.t.c11
  obtain ⟨x0, x1, x2, x3, x4⟩ := HS.out.c.five
  go_wp2_with fail
  (with_reducible refine (HSY.out _).mono ?_)
  rintro e w4 ⟨rfl, hb⟩
  replace HS := Lib.hid ((HS.out.call hb).call (below_alloc (Below.refl _ w4) (.cells #[.bool h', .int .i64 i', .int .i64 o', .bool g', .int .i64 l', .int .i64 s', .bool j', .bool cl', .int .i64 n', .bool f', .bool false] 31)))
  replace HX := Lib.hid ((HX.out.below hb).below (below_alloc (Below.refl _ w4) (.cells #[.bool h', .int .i64 i', .int .i64 o', .bool g', .int .i64 l', .int .i64 s', .bool j', .bool cl', .int .i64 n', .bool f', .bool false] 31)))
  have HY := Lib.hid (blk_new w4 #[.bool h', .int .i64 i', .int .i64 o', .bool g', .int .i64 l', .int .i64 s', .bool j', .bool cl', .int .i64 n', .bool f', .bool false] 31)
  clear hb r0 r1 r2 t0 t1 t2 t3 t4 t5 t6 t7 t8 t9 t10 x0 x1 x2 x3 x4 HE
  go_upto_region 6 with fail
  generalize w4.alloc (.cells #[.bool h', .int .i64 i', .int .i64 o', .bool g', .int .i64 l', .int .i64 s', .bool j', .bool cl', .int .i64 n', .bool f', .bool false] 31) = w5 at *
  generalize w4.heap.size = gy at *
  obtain ⟨t0, t1, t2, t3, t4, t5, t6, t7, t8, t9, t10⟩ := HX.out.c11
  go_upto_region 7 with fail
  have HGX := Lib.hid HX.out.lt
  have HGY := Lib.hid HY.out.lt
  have HG := Lib.hid HS.out.over
  replace HS := Lib.hid (HS.out.call (below_alloc (Below.refl _ w5) (.cells #[.bool h', .int .i64 i', .int .i64 o', .bool g', .int .i64 l', .int .i64 s', .bool j', .bool cl', .int .i64 n', .bool f', .bool cx] 31)))
  replace HX := Lib.hid (HX.out.below (below_alloc (Below.refl _ w5) (.cells #[.bool h', .int .i64 i', .int .i64 o', .bool g', .int .i64 l', .int .i64 s', .bool j', .bool cl', .int .i64 n', .bool f', .bool cx] 31)))
  replace HY := Lib.hid (HY.out.below (below_alloc (Below.refl _ w5) (.cells #[.bool h', .int .i64 i', .int .i64 o', .bool g', .int .i64 l', .int .i64 s', .bool j', .bool cl', .int .i64 n', .bool f', .bool cx] 31)))
  have HZ := Lib.hid (blk_new w5 #[.bool h', .int .i64 i', .int .i64 o', .bool g', .int .i64 l', .int .i64 s', .bool j', .bool cl', .int .i64 n', .bool f', .bool cx] 31)
  clear t0 t1 t2 t3 t4 t5 t6 t7 t8 t9 t10
  generalize w5.alloc (.cells #[.bool h', .int .i64 i', .int .i64 o', .bool g', .int .i64 l', .int .i64 s', .bool j', .bool cl', .int .i64 n', .bool f', .bool cx] 31) = w6 at *
  generalize w5.heap.size = gz at *
  obtain ⟨t0, t1, t2, t3, t4, t5, t6, t7, t8, t9, t10⟩ := HY.out.c11
  obtain ⟨u0, u1, u2, u3, u4, u5, u6, u7, u8, u9, u10⟩ := HZ.out.c11
  obtain ⟨f0, f1, f2, f3, f4, f5, f6, f7, f8, f9, f10⟩ := HZ.out.f11
  go_upto_region 8 with fail
  replace HS := Lib.hid (HS.out.keep (keep_put1 w6 gz 10 (.bool false)) HG.out)
  replace HX := Lib.hid (HX.out.keep (keep_put1 w6 gz 10 (.bool false)) (Nat.ne_of_lt HGX.out))
  replace HY := Lib.hid (HY.out.keep (keep_put1 w6 gz 10 (.bool false)) (Nat.ne_of_lt HGY.out))
  replace HZ := Lib.hid (HZ.out.put10 (.bool false))
  clear t0 t1 t2 t3 t4 t5 t6 t7 t8 t9 t10 u0 u1 u2 u3 u4 u5 u6 u7 u8 u9 u10 f0 f1 f2 f3 f4 f5 f6 f7 f8 f9 f10
  generalize w6.setCell ⟨gz, 10, none⟩ (.bool false) = w7 at *
  obtain ⟨t0, t1, t2, t3, t4, t5, t6, t7, t8, t9, t10⟩ := HY.out.c11
  obtain ⟨u0, u1, u2, u3, u4, u5, u6, u7, u8, u9, u10⟩ := HZ.out.c11
  obtain ⟨z0, z1, z2, z3, z4, z5, z6, z7, z8, z9, z10⟩ := HX.out.c11
  have q := HQ.out
  go_wp2_with fail
  go_ret
  exact ⟨rfl, HS.out.bel⟩
set_option maxHeartbeats 4000000 in
set_option maxRecDepth 10000 in
theorem longer_ct (h : Bool) (i o : Int) (g : Bool) (l s : Int) (j cl : Bool) (n : Int) (f c : Bool) (fr : Bool) (ci co cs li : Int) (a0 a1 a2 b0 b1 b2 : Int) (rs : Bool) (h' : Bool) (i' o' : Int) (g' : Bool) (l' s' : Int) (j' cl' : Bool) (n' : Int) (f' : Bool) (w : World) (hs : PosR s) (k0 : ¬ b0 < a0) (k1 : ¬ b1 < a1) (k2 : ¬ b2 < a2) (hx : tks ⟨h, i, o, g, l, s, j, cl, n, f, c⟩ ⟨fr, ci, co, cs, li⟩ a0 a1 a2 rs = ⟨h', i', o', g', l', s', j', cl', n', f', true⟩) (hy : tks ⟨h, i, o, g, l, s, j, cl, n, f, c⟩ ⟨fr, ci, co, cs, li⟩ b0 b1 b2 rs = ⟨h', i', o', g', l', s', j', cl', n', f', true⟩) : Calls Try.prog 7 #[.agg #[.bool h, .int .i64 i, .int .i64 o, .bool g, .int .i64 l, .int .i64 s, .bool j, .bool cl, .int .i64 n, .bool f, .bool c], .agg #[.bool fr, .int .i64 ci, .int .i64 co, .int .i64 cs, .int .i64 li], .agg #[.int .i64 a0, .int .i64 a1, .int .i64 a2], .agg #[.int .i64 b0, .int .i64 b1, .int .i64 b2], .bool rs] w fun e w' => e = .returned (.bool true) ∧ Below w.heap.size w w' := by
  have HS0 := Lib.hid ((tcd_new w #[.bool h, .int .i64 i, .int .i64 o, .bool g, .int .i64 l, .int .i64 s, .bool j, .bool cl, .int .i64 n, .bool f, .bool c] #[.bool fr, .int .i64 ci, .int .i64 co, .int .i64 cs, .int .i64 li] #[.int .i64 a0, .int .i64 a1, .int .i64 a2]).call (below_alloc (Below.refl _ _) (.cells #[.int .i64 b0, .int .i64 b1, .int .i64 b2] 23)))
  have he := blk_new (((w.alloc (.cells #[.bool h, .int .i64 i, .int .i64 o, .bool g, .int .i64 l, .int .i64 s, .bool j, .bool cl, .int .i64 n, .bool f, .bool c] 31)).alloc (.cells #[.bool fr, .int .i64 ci, .int .i64 co, .int .i64 cs, .int .i64 li] 34)).alloc (.cells #[.int .i64 a0, .int .i64 a1, .int .i64 a2] 23)) #[.int .i64 b0, .int .i64 b1, .int .i64 b2] 23
  rw [show (((w.alloc (.cells #[.bool h, .int .i64 i, .int .i64 o, .bool g, .int .i64 l, .int .i64 s, .bool j, .bool cl, .int .i64 n, .bool f, .bool c] 31)).alloc (.cells #[.bool fr, .int .i64 ci, .int .i64 co, .int .i64 cs, .int .i64 li] 34)).alloc (.cells #[.int .i64 a0, .int .i64 a1, .int .i64 a2] 23)).heap.size = w.heap.size + 1 + 1 + 1 by simp] at he
  have HE0 := Lib.hid he
  have HSX := Lib.hid (tstep_to h i o g l s j cl n f c fr ci co cs li a0 a1 a2 rs h' i' o' g' l' s' j' cl' n' f' true hx hs)
  have HSY := Lib.hid (tstep_to h i o g l s j cl n f c fr ci co cs li b0 b1 b2 rs h' i' o' g' l' s' j' cl' n' f' true hy hs)
  have HQ := Lib.hid (eql_tk h' i' o' g' l' s' j' cl' n' f' true)
  clear hx hy hs he
  go_enter Try.func7, Try.ntmps7
  go_wp2_with fail
  (with_reducible refine (small_true _).mono ?_)
  rintro e w1 ⟨rfl, hb⟩
  have HS := Lib.hid (HS0.out.call hb)
  have HE := Lib.hid (HE0.out.below hb)
  clear hb HS0 HE0
  obtain ⟨p0, p1, p2⟩ := HS.out.d.three
  obtain ⟨r0, r1, r2⟩ := HE.out.three
  obtain ⟨t0, t1, t2, t3, t4, t5, t6, t7, t8, t9, t10⟩ := HS.out.t.c11
  obtain ⟨x0, x1, x2, x3, x4⟩ := HS.out.c.five
  go_wp2_with fail
  (with_reducible refine (HSX.out _).mono ?_)
  rintro e w2 ⟨rfl, hb⟩
  replace HS := Lib.hid ((HS.out.call hb).call (below_alloc (Below.refl _ w2) (.cells #[.bool h', .int .i64 i', .int .i64 o', .bool g', .int .i64 l', .int .i64 s', .bool j', .bool cl', .int .i64 n', .bool f', .bool true] 31)))
  replace HE := Lib.hid ((HE.out.below hb).below (below_alloc (Below.refl _ w2) (.cells #[.bool h', .int .i64 i', .int .i64 o', .bool g', .int .i64 l', .int .i64 s', .bool j', .bool cl', .int .i64 n', .bool f', .bool true] 31)))
  have HX := Lib.hid (blk_new w2 #[.bool h', .int .i64 i', .int .i64 o', .bool g', .int .i64 l', .int .i64 s', .bool j', .bool cl', .int .i64 n', .bool f', .bool true] 31)
  clear hb p0 p1 p2 r0 r1 r2 t0 t1 t2 t3 t4 t5 t6 t7 t8 t9 t10 x0 x1 x2 x3 x4 k0 k1 k2
  go_upto_region 5 with fail
  generalize w2.alloc (.cells #[.bool h', .int .i64 i', .int .i64 o', .bool g', .int .i64 l', .int .i64 s', .bool j', .bool cl', .int .i64 n', .bool f', .bool true] 31) = w3 at *
  generalize w2.heap.size = gx at *
  obtain ⟨r0, r1, r2⟩ := HE.out.three
  obtain ⟨t0, t1, t2, t3, t4, t5, t6, t7, t8, t9, t10⟩ := HS.out.t.c11
  obtain ⟨x0, x1, x2, x3, x4⟩ := HS.out.c.five
  go_wp2_with fail
  (with_reducible refine (HSY.out _).mono ?_)
  rintro e w4 ⟨rfl, hb⟩
  replace HS := Lib.hid ((HS.out.call hb).call (below_alloc (Below.refl _ w4) (.cells #[.bool h', .int .i64 i', .int .i64 o', .bool g', .int .i64 l', .int .i64 s', .bool j', .bool cl', .int .i64 n', .bool f', .bool true] 31)))
  replace HX := Lib.hid ((HX.out.below hb).below (below_alloc (Below.refl _ w4) (.cells #[.bool h', .int .i64 i', .int .i64 o', .bool g', .int .i64 l', .int .i64 s', .bool j', .bool cl', .int .i64 n', .bool f', .bool true] 31)))
  have HY := Lib.hid (blk_new w4 #[.bool h', .int .i64 i', .int .i64 o', .bool g', .int .i64 l', .int .i64 s', .bool j', .bool cl', .int .i64 n', .bool f', .bool true] 31)
  clear hb r0 r1 r2 t0 t1 t2 t3 t4 t5 t6 t7 t8 t9 t10 x0 x1 x2 x3 x4 HE
  go_upto_region 6 with fail
  generalize w4.alloc (.cells #[.bool h', .int .i64 i', .int .i64 o', .bool g', .int .i64 l', .int .i64 s', .bool j', .bool cl', .int .i64 n', .bool f', .bool true] 31) = w5 at *
  generalize w4.heap.size = gy at *
  obtain ⟨t0, t1, t2, t3, t4, t5, t6, t7, t8, t9, t10⟩ := HX.out.c11
  go_upto_region 7 with fail
  have HGX := Lib.hid HX.out.lt
  have HGY := Lib.hid HY.out.lt
  have HG := Lib.hid HS.out.over
  replace HS := Lib.hid (HS.out.call (below_alloc (Below.refl _ w5) (.cells #[.bool h', .int .i64 i', .int .i64 o', .bool g', .int .i64 l', .int .i64 s', .bool j', .bool cl', .int .i64 n', .bool f', .bool true] 31)))
  replace HX := Lib.hid (HX.out.below (below_alloc (Below.refl _ w5) (.cells #[.bool h', .int .i64 i', .int .i64 o', .bool g', .int .i64 l', .int .i64 s', .bool j', .bool cl', .int .i64 n', .bool f', .bool true] 31)))
  replace HY := Lib.hid (HY.out.below (below_alloc (Below.refl _ w5) (.cells #[.bool h', .int .i64 i', .int .i64 o', .bool g', .int .i64 l', .int .i64 s', .bool j', .bool cl', .int .i64 n', .bool f', .bool true] 31)))
  have HZ := Lib.hid (blk_new w5 #[.bool h', .int .i64 i', .int .i64 o', .bool g', .int .i64 l', .int .i64 s', .bool j', .bool cl', .int .i64 n', .bool f', .bool true] 31)
  clear t0 t1 t2 t3 t4 t5 t6 t7 t8 t9 t10
  generalize w5.alloc (.cells #[.bool h', .int .i64 i', .int .i64 o', .bool g', .int .i64 l', .int .i64 s', .bool j', .bool cl', .int .i64 n', .bool f', .bool true] 31) = w6 at *
  generalize w5.heap.size = gz at *
  obtain ⟨t0, t1, t2, t3, t4, t5, t6, t7, t8, t9, t10⟩ := HY.out.c11
  obtain ⟨u0, u1, u2, u3, u4, u5, u6, u7, u8, u9, u10⟩ := HZ.out.c11
  obtain ⟨f0, f1, f2, f3, f4, f5, f6, f7, f8, f9, f10⟩ := HZ.out.f11
  go_upto_region 8 with fail
  replace HS := Lib.hid (HS.out.keep (keep_put1 w6 gz 10 (.bool true)) HG.out)
  replace HX := Lib.hid (HX.out.keep (keep_put1 w6 gz 10 (.bool true)) (Nat.ne_of_lt HGX.out))
  replace HY := Lib.hid (HY.out.keep (keep_put1 w6 gz 10 (.bool true)) (Nat.ne_of_lt HGY.out))
  replace HZ := Lib.hid (HZ.out.put10 (.bool true))
  clear t0 t1 t2 t3 t4 t5 t6 t7 t8 t9 t10 u0 u1 u2 u3 u4 u5 u6 u7 u8 u9 u10 f0 f1 f2 f3 f4 f5 f6 f7 f8 f9 f10
  generalize w6.setCell ⟨gz, 10, none⟩ (.bool true) = w7 at *
  obtain ⟨t0, t1, t2, t3, t4, t5, t6, t7, t8, t9, t10⟩ := HY.out.c11
  obtain ⟨u0, u1, u2, u3, u4, u5, u6, u7, u8, u9, u10⟩ := HZ.out.c11
  obtain ⟨z0, z1, z2, z3, z4, z5, z6, z7, z8, z9, z10⟩ := HX.out.c11
  have q := HQ.out
  go_wp2_with fail
  go_ret
  exact ⟨rfl, HS.out.bel⟩
theorem longer_any (h : Bool) (i o : Int) (g : Bool) (l s : Int) (j cl : Bool) (n : Int) (f c : Bool) (fr : Bool) (ci co cs li : Int) (a0 a1 a2 b0 b1 b2 : Int) (rs : Bool) (w : World) (hs : PosR s) : Calls Try.prog 7 #[.agg #[.bool h, .int .i64 i, .int .i64 o, .bool g, .int .i64 l, .int .i64 s, .bool j, .bool cl, .int .i64 n, .bool f, .bool c], .agg #[.bool fr, .int .i64 ci, .int .i64 co, .int .i64 cs, .int .i64 li], .agg #[.int .i64 a0, .int .i64 a1, .int .i64 a2], .agg #[.int .i64 b0, .int .i64 b1, .int .i64 b2], .bool rs] w fun e w' => e = .returned (.bool true) ∧ Below w.heap.size w w' := by
  rcases (show (b0 < a0 ∨ (¬ b0 < a0 ∧ b1 < a1) ∨ (¬ b0 < a0 ∧ ¬ b1 < a1 ∧ b2 < a2)) ∨ (¬ b0 < a0 ∧ ¬ b1 < a1 ∧ ¬ b2 < a2) by omega) with hm | ⟨h0, h1, h2⟩
  · exact longer_out h i o g l s j cl n f c fr ci co cs li a0 a1 a2 b0 b1 b2 rs w hm
  · obtain ⟨h', i', o', g', l', s', j', cl', n', f', cx, cy, e1, e2, e3⟩ := longer_eq ⟨h, i, o, g, l, s, j, cl, n, f, c⟩ ⟨fr, ci, co, cs, li⟩ a0 a1 a2 b0 b1 b2 rs (by omega) (by omega) (by omega)
    cases cy
    · exact longer_cf h i o g l s j cl n f c fr ci co cs li a0 a1 a2 b0 b1 b2 rs h' i' o' g' l' s' j' cl' n' f' cx w hs h0 h1 h2 e1 e2
    · obtain rfl : cx = true := by simpa using e3
      exact longer_ct h i o g l s j cl n f c fr ci co cs li a0 a1 a2 b0 b1 b2 rs h' i' o' g' l' s' j' cl' n' f' w hs h0 h1 h2 e1 e2
end Go.Proofs.Yteknfjnfaedebaa

/-
  The walk of crossbucklaw12.TrackStale: true, whatever it is given.
-/
import Derived.Test.YteknfjnfaedebaaBox
import Derived.Test.YteknfjnfaedebaaTkEq
namespace Go.Proofs.Yteknfjnfaedebaa
open Go.RowKit

set_option maxHeartbeats 4000000 in
set_option maxRecDepth 10000 in
theorem stale_out (h : Bool) (i o : Int) (g : Bool) (l s : Int) (j cl : Bool) (n : Int) (f c : Bool) (fr : Bool) (ci co cs li : Int) (d0 d1 d2 : Int) (m : Int) (w : World) (hm : ¬ (1 ≤ m ∧ m ≤ 200)) : Calls Try.prog 6 #[.agg #[.bool h, .int .i64 i, .int .i64 o, .bool g, .int .i64 l, .int .i64 s, .bool j, .bool cl, .int .i64 n, .bool f, .bool c], .agg #[.bool fr, .int .i64 ci, .int .i64 co, .int .i64 cs, .int .i64 li], .agg #[.int .i64 d0, .int .i64 d1, .int .i64 d2], .int .i64 m] w fun e w' => e = .returned (.bool true) ∧ Below w.heap.size w w' := by
  have HB0 := Lib.hid (tcd_new w #[.bool h, .int .i64 i, .int .i64 o, .bool g, .int .i64 l, .int .i64 s, .bool j, .bool cl, .int .i64 n, .bool f, .bool c] #[.bool fr, .int .i64 ci, .int .i64 co, .int .i64 cs, .int .i64 li] #[.int .i64 d0, .int .i64 d1, .int .i64 d2]).bel
  rcases (show m < 1 ∨ (¬ m < 1 ∧ 200 < m) by omega) with h1 | ⟨h1, h2⟩
  all_goals
    clear hm
    go_enter Try.func6, Try.ntmps6
    go_wp2_with fail
    (with_reducible refine (small_true _).mono ?_)
    rintro e w1 ⟨rfl, hb⟩
    have HB1 := Lib.hid (below_call HB0.out hb)
    clear hb
    go_wp2_with fail
    go_ret
    exact ⟨rfl, HB1.out⟩
theorem stale_eq (h : Bool) (i o : Int) (g : Bool) (l s : Int) (j cl : Bool) (n : Int) (f c : Bool) (ci co cs li d0 d1 d2 : Int) : tks ⟨h, i, o, g, l, s, j, cl, n, f, c⟩ ⟨false, ci, co, cs, li⟩ d0 d1 d2 false = ⟨h, i, o, g, l, s, j, false, lng n, true, true⟩ := by
  unfold tks tk3 ax1 ax2 pr1 pr2
  simp
set_option maxHeartbeats 4000000 in
set_option maxRecDepth 10000 in
theorem stale_main (h : Bool) (i o : Int) (g : Bool) (l s : Int) (j cl : Bool) (n : Int) (f c : Bool) (fr : Bool) (ci co cs li : Int) (d0 d1 d2 : Int) (m : Int) (w : World) (hs : PosR s) (m0 : 1 ≤ m) (m1 : m ≤ 200) : Calls Try.prog 6 #[.agg #[.bool h, .int .i64 i, .int .i64 o, .bool g, .int .i64 l, .int .i64 s, .bool j, .bool cl, .int .i64 n, .bool f, .bool c], .agg #[.bool fr, .int .i64 ci, .int .i64 co, .int .i64 cs, .int .i64 li], .agg #[.int .i64 d0, .int .i64 d1, .int .i64 d2], .int .i64 m] w fun e w' => e = .returned (.bool true) ∧ Below w.heap.size w w' := by
  obtain ⟨K, hK⟩ : ∃ K : Nat, m = (K : Int) := ⟨m.toNat, by omega⟩
  subst hK
  have HS0 := Lib.hid (tcd_new w #[.bool h, .int .i64 i, .int .i64 o, .bool g, .int .i64 l, .int .i64 s, .bool j, .bool cl, .int .i64 n, .bool f, .bool c] #[.bool fr, .int .i64 ci, .int .i64 co, .int .i64 cs, .int .i64 li] #[.int .i64 d0, .int .i64 d1, .int .i64 d2])
  have HST := Lib.hid (fun (cl : Bool) (n : Int) (f c : Bool) (n' : Int) (hn : lng n = n') => tstep_to h i o g l s j cl n f c false ci co cs li d0 d1 d2 false h i o g l s j false n' true true (by rw [stale_eq, hn]) hs)
  have q1 := eql_axle h i o g
  have q2 := eql_same l s j
  have HQ1 := Lib.hid q1
  have HQ2 := Lib.hid q2
  have k0 : ¬ (K : Int) < 1 := by omega
  have k1 : ¬ (200 : Int) < (K : Int) := by omega
  have M0 := Lib.hid m0
  have M1 := Lib.hid m1
  clear q1 q2 hs m0 m1
  go_enter Try.func6, Try.ntmps6
  go_wp2_with fail
  (with_reducible refine (small_true _).mono ?_)
  rintro e w1 ⟨rfl, hb⟩
  have HS := Lib.hid (HS0.out.call hb)
  clear hb HS0
  obtain ⟨t0, t1, t2, t3, t4, t5, t6, t7, t8, t9, t10⟩ := HS.out.t.c11
  obtain ⟨x0, x1, x2, x3, x4⟩ := HS.out.c.five
  have f0 := HS.out.c.frz 0
  go_wp2_with fail
  replace HS := Lib.hid (HS.out.fresh (.bool false))
  clear t0 t1 t2 t3 t4 t5 t6 t7 t8 t9 t10 x0 x1 x2 x3 x4 f0
  have hsz : (w1.setCell ⟨w.heap.size + 1, 0, none⟩ (.bool false)).heap.size = w1.heap.size := by simp
  generalize w1.setCell ⟨w.heap.size + 1, 0, none⟩ (.bool false) = w2 at *
  have hg := HS.out.over
  replace HS := Lib.hid (HS.out.call (below_alloc (Below.refl _ w2) (.cells #[.bool h, .int .i64 i, .int .i64 o, .bool g, .int .i64 l, .int .i64 s, .bool j, .bool cl, .int .i64 n, .bool f, .bool c] 31)))
  have hx := blk_new w2 #[.bool h, .int .i64 i, .int .i64 o, .bool g, .int .i64 l, .int .i64 s, .bool j, .bool cl, .int .i64 n, .bool f, .bool c] 31
  rw [hsz] at hg hx
  clear hsz
  have HG := Lib.hid hg
  have HX := Lib.hid hx
  clear hg hx
  generalize w2.alloc (.cells #[.bool h, .int .i64 i, .int .i64 o, .bool g, .int .i64 l, .int .i64 s, .bool j, .bool cl, .int .i64 n, .bool f, .bool c] 31) = w3 at *
  generalize w1.heap.size = gx at *
  go_loopw [11] (fun z wr => ∃ (k : Nat) (cl1 : Bool) (n1 : Int) (f1 c1 : Bool), k ≤ K ∧ z = .int .i64 (k : Int) ∧ Hid (0 < k → cl1 = false ∧ f1 = true ∧ c1 = true ∧ (k : Int) ≤ n1) ∧ Hid (TcD w wr #[.bool h, .int .i64 i, .int .i64 o, .bool g, .int .i64 l, .int .i64 s, .bool j, .bool cl, .int .i64 n, .bool f, .bool c] #[.bool false, .int .i64 ci, .int .i64 co, .int .i64 cs, .int .i64 li] #[.int .i64 d0, .int .i64 d1, .int .i64 d2]) ∧ Hid (Blk wr gx #[.bool h, .int .i64 i, .int .i64 o, .bool g, .int .i64 l, .int .i64 s, .bool j, .bool cl1, .int .i64 n1, .bool f1, .bool c1] 31)) (fun z _ => K - (intOf z).toNat)
  case atStart => exact ⟨0, cl, n, f, c, by omega, rfl, Lib.hid (fun h => by omega), HS, HX⟩
  case round =>
    obtain ⟨k, cl', n', f', c', hk, rfl, HI, HS', HX'⟩ := hrel
    clear HS HX
    by_cases hlt : k < K
    · have hltI : (k : Int) < (K : Int) := by omega
      obtain ⟨n2, hn2⟩ : ∃ n2, lng n' = n2 := ⟨_, rfl⟩
      have HS1 := Lib.hid (HST.out cl' n' f' c' n2 hn2)
      have HN : Hid ((k : Int) + 1 ≤ n2) := Lib.hid (by
        have := HI.out
        have := M1.out
        unfold lng at hn2
        rcases Nat.eq_zero_or_pos k with h0 | h0
        · omega
        · have := (HI.out h0).2.2.2
          omega)
      clear hn2
      obtain ⟨t0, t1, t2, t3, t4, t5, t6, t7, t8, t9, t10⟩ := HX'.out.c11
      obtain ⟨x0, x1, x2, x3, x4⟩ := HS'.out.c.five
      obtain ⟨y0, y1, y2⟩ := HS'.out.d.three
      go_wp2_with fail
      (with_reducible refine (HS1.out _).mono ?_)
      rintro e w5 ⟨rfl, hb⟩
      replace HS' := Lib.hid (HS'.out.call hb)
      replace HX' := Lib.hid (HX'.out.below hb)
      clear hb t0 t1 t2 t3 t4 t5 t6 t7 t8 t9 t10 x0 x1 x2 x3 x4 y0 y1 y2
      obtain ⟨t0, t1, t2, t3, t4, t5, t6, t7, t8, t9, t10⟩ := HX'.out.c11
      obtain ⟨f0, f1, f2, f3, f4, f5, f6, f7, f8, f9, f10⟩ := HX'.out.f11
      go_wp2_with fail
      replace HS' := Lib.hid (HS'.out.keep (keep_putT w5 gx (.bool h) (.int .i64 i) (.int .i64 o) (.bool g) (.int .i64 l) (.int .i64 s) (.bool j) (.bool false) (.int .i64 n2) (.bool true) (.bool true)) HG.out)
      replace HX' := Lib.hid (HX'.out.putT (.bool h) (.int .i64 i) (.int .i64 o) (.bool g) (.int .i64 l) (.int .i64 s) (.bool j) (.bool false) (.int .i64 n2) (.bool true) (.bool true))
      clear t0 t1 t2 t3 t4 t5 t6 t7 t8 t9 t10 f0 f1 f2 f3 f4 f5 f6 f7 f8 f9 f10
      go_roundw
      case rel => exact ⟨k + 1, false, n2, true, true, by omega, by go_num, Lib.hid (fun _ => ⟨rfl, rfl, rfl, by have := HN.out; omega⟩), HS', HX'⟩
      case measure => simp [intOf]; omega
    · have hltI : ¬ (k : Int) < (K : Int) := by omega
      obtain ⟨rfl, rfl, rfl, hge⟩ := HI.out (by have := M0.out; omega)
      replace hge : (K : Int) ≤ n' := by omega
      have q1 := HQ1.out
      have q2 := HQ2.out
      obtain ⟨t0, t1, t2, t3, t4, t5, t6, t7, t8, t9, t10⟩ := HX'.out.c11
      obtain ⟨u0, u1, u2, u3, u4, u5, u6, u7, u8, u9, u10⟩ := HS'.out.t.c11
      go_wp2_with fail
      go_ret
      exact ⟨rfl, HS'.out.bel⟩
theorem stale_any (h : Bool) (i o : Int) (g : Bool) (l s : Int) (j cl : Bool) (n : Int) (f c : Bool) (fr : Bool) (ci co cs li : Int) (d0 d1 d2 : Int) (m : Int) (w : World) (hs : PosR s) : Calls Try.prog 6 #[.agg #[.bool h, .int .i64 i, .int .i64 o, .bool g, .int .i64 l, .int .i64 s, .bool j, .bool cl, .int .i64 n, .bool f, .bool c], .agg #[.bool fr, .int .i64 ci, .int .i64 co, .int .i64 cs, .int .i64 li], .agg #[.int .i64 d0, .int .i64 d1, .int .i64 d2], .int .i64 m] w fun e w' => e = .returned (.bool true) ∧ Below w.heap.size w w' := by
  by_cases hm : 1 ≤ m ∧ m ≤ 200
  · exact stale_main h i o g l s j cl n f c fr ci co cs li d0 d1 d2 m w hs hm.1 hm.2
  · exact stale_out h i o g l s j cl n f c fr ci co cs li d0 d1 d2 m w hm
end Go.Proofs.Yteknfjnfaedebaa

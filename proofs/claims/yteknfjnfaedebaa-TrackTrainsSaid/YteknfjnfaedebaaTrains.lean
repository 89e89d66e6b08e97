/-
  The walk of crossbucklaw12.TrackTrains: true, whatever it is given.
-/
import Derived.Test.YteknfjnfaedebaaBox
import Derived.BigQuiet
namespace Go.Proofs.Yteknfjnfaedebaa
open Go.RowKit

set_option maxHeartbeats 4000000 in
set_option maxRecDepth 10000 in
theorem trains_out (s m k K d0 d1 d2 : Int) (w : World) (hm : ¬ (1 ≤ m ∧ m ≤ 64 ∧ 0 ≤ k ∧ k ≤ 2 ∧ 1 ≤ K ∧ K ≤ 200)) : Calls Try.prog 4 #[.int .i64 s, .int .i64 m, .int .i64 k, .agg #[.int .i64 d0, .int .i64 d1, .int .i64 d2], .int .i64 K] w fun e w' => e = .returned (.bool true) ∧ Below w.heap.size w w' := by
  have HB0 := Lib.hid (below_alloc (Below.refl _ w) (.cells #[.int .i64 d0, .int .i64 d1, .int .i64 d2] 23))
  rcases (show m < 1 ∨ (¬ m < 1 ∧ 64 < m) ∨ (¬ m < 1 ∧ ¬ 64 < m ∧ k < 0) ∨ (¬ m < 1 ∧ ¬ 64 < m ∧ ¬ k < 0 ∧ 2 < k) ∨ (¬ m < 1 ∧ ¬ 64 < m ∧ ¬ k < 0 ∧ ¬ 2 < k ∧ K < 1) ∨ (¬ m < 1 ∧ ¬ 64 < m ∧ ¬ k < 0 ∧ ¬ 2 < k ∧ ¬ K < 1 ∧ 200 < K) by omega) with h1 | ⟨h1, h2⟩ | ⟨h1, h2, h3⟩ | ⟨h1, h2, h3, h4⟩ | ⟨h1, h2, h3, h4, h5⟩ | ⟨h1, h2, h3, h4, h5, h6⟩
  all_goals
    clear hm
    go_enter Try.func4, Try.ntmps4
    go_wp2_with fail
    (with_reducible refine (small_true _).mono ?_)
    rintro e w1 ⟨rfl, hb⟩
    have HB1 := Lib.hid (below_call HB0.out hb)
    clear hb
    go_wp2_with fail
    go_ret
    exact ⟨rfl, HB1.out⟩
/-- What comes of a train. -/
theorem trains_facts (s m : Int) (h0 : 1 ≤ m) (h1 : m ≤ 64) : ∃ u s' u', IntKind.i64.wrap (s + m) = u
    ∧ (∀ d0 d1 d2 : Int, tks ⟨false, 0, 0, false, 0, 0, false, false, 0, false, false⟩ ⟨true, s, s, 0, 0⟩ d0 d1 d2 false = ⟨true, s', s', false, 0, 0, false, true, 0, false, false⟩)
    ∧ (∀ (a : Int) (cl c b : Bool) (n1 jj k d0 d1 d2 : Int), (a = s' ∨ a = u') → n1 + 1 = jj → 0 ≤ n1 → n1 ≤ 200 → decide (wtt d0 d1 d2 k < jj) = b → tks ⟨true, a, s', false, 0, 0, false, cl, n1, false, c⟩ ⟨true, u, s, k, 0⟩ d0 d1 d2 false = ⟨true, u', s', false, 0, 0, false, false, jj, false, b⟩)
    ∧ (∀ (cl c : Bool) (n1 k d0 d1 d2 : Int), tks ⟨true, u', s', false, 0, 0, false, cl, n1, false, c⟩ ⟨true, u, u, k, 0⟩ d0 d1 d2 false = ⟨true, u', u', false, 0, 0, false, true, 0, false, false⟩) := by
  refine ⟨_, s % 256, IntKind.i64.wrap (s + m) % 256, rfl, ?_⟩
  have e1 := wrap_256 (s + m)
  generalize IntKind.i64.wrap (s + m) = u at *
  have a1 : ahd u s = m := by unfold ahd; omega
  have b1 : ahd u (s % 256) = m := by rw [ahd_mod_right, a1]
  have b2 : ahd s (s % 256) = 0 := by rw [ahd_mod_right, ahd_self]
  have b3 : ahd u (u % 256) = 0 := by rw [ahd_mod_right, ahd_self]
  have b4 : ahd (u % 256) (s % 256) = m := by rw [ahd_mod_left, b1]
  have y0 : way 0 0 = 0 := by decide
  have y1 : bump 0 0 = 0 := by decide
  refine ⟨?_, ?_, ?_⟩
  · intro d0 d1 d2
    unfold tks tk3 ax1 ax2 pr1 pr2 stx stp wrg clr
    simp [ahd_self, y0, y1]
  · intro a cl c b n1 jj k d0 d1 d2 ha hn n0 n2 hb
    have hw : wrg true a (s % 256) false u s = false := by
      unfold wrg
      have h4 : ¬ (64 : Int) < m := by omega
      have h5 : ¬ (127 : Int) < m := by omega
      rcases ha with rfl | rfl
      · simp [b1, b2, a1, h4, h5]
      · simp [b3, b2, a1, h5]
    have hl : lng n1 = jj := by unfold lng; omega
    have hm : ¬ m = 0 := by omega
    unfold tks tk3 ax1 ax2 pr1 pr2 stx stp clr
    simp [hw, y0, y1, b4, hm, hl, ← hb]
  · intro cl c n1 k d0 d1 d2
    have hw : wrg true (u % 256) (s % 256) false u u = false := by
      unfold wrg
      have h4 : ¬ (64 : Int) < m := by omega
      simp [b3, b1, ahd_self, h4]
    unfold tks tk3 ax1 ax2 pr1 pr2 stx stp clr
    simp [hw, y0, y1, ahd_self]
set_option maxHeartbeats 4000000 in
set_option maxRecDepth 10000 in
theorem trains_main0 (s m d0 d1 d2 : Int) (K : Nat) (w : World) (m0 : 1 ≤ m) (m1 : m ≤ 64) (K0 : 1 ≤ K) (K1 : K ≤ 200) : Calls Try.prog 4 #[.int .i64 s, .int .i64 m, .int .i64 0, .agg #[.int .i64 d0, .int .i64 d1, .int .i64 d2], .int .i64 (K : Int)] w fun e w' => e = .returned (.bool true) ∧ Below w.heap.size w w' := by
  have hwt : wtt d0 d1 d2 0 = d0 := by unfold wtt; simp
  obtain ⟨u, s', u', hu, f1, f2, f3⟩ := trains_facts s m m0 m1
  have p0 : PosR 0 := by unfold PosR; omega
  have HS1 := Lib.hid (tstep_to false 0 0 false 0 0 false false 0 false false true s s 0 0 d0 d1 d2 false true s' s' false 0 0 false true 0 false false (f1 d0 d1 d2) p0)
  have HST := Lib.hid (fun (a : Int) (cl c b : Bool) (n1 jj : Int) (e1 : a = s' ∨ a = u') (e2 : n1 + 1 = jj) (e3 : 0 ≤ n1) (e4 : n1 ≤ 200) (e5 : decide (d0 < jj) = b) => tstep_to true a s' false 0 0 false cl n1 false c true u s 0 0 d0 d1 d2 false true u' s' false 0 0 false false jj false b (f2 a cl c b n1 jj 0 d0 d1 d2 e1 e2 e3 e4 (by rw [hwt]; exact e5)) p0)
  have HSL := Lib.hid (fun (cl c : Bool) (n1 : Int) => tstep_to true u' s' false 0 0 false cl n1 false c true u u 0 0 d0 d1 d2 false true u' u' false 0 0 false true 0 false false (f3 cl c n1 0 d0 d1 d2) p0)
  have HD0 := Lib.hid (blk_new w #[.int .i64 d0, .int .i64 d1, .int .i64 d2] 23)
  have HB0 := Lib.hid (below_alloc (Below.refl _ w) (.cells #[.int .i64 d0, .int .i64 d1, .int .i64 d2] 23))
  have j1 : ¬ m < 1 := by omega
  have j2 : ¬ (64 : Int) < m := by omega
  have j5 : ¬ (K : Int) < 1 := by omega
  have j6 : ¬ (200 : Int) < (K : Int) := by omega
  have HKK := Lib.hid (And.intro K0 K1)
  clear f1 f2 f3 p0 hwt m0 m1 K0 K1
  go_enter Try.func4, Try.ntmps4
  go_wp2_with fail
  (with_reducible refine (small_true _).mono ?_)
  rintro e w1 ⟨rfl, hb⟩
  have HB := Lib.hid (below_call HB0.out hb)
  have HD := Lib.hid (HD0.out.below hb)
  clear hb HB0 HD0
  obtain ⟨y0, y1, y2⟩ := HD.out.three
  go_wp2_with fail
  (with_reducible refine (HS1.out _).mono ?_)
  rintro e w2 ⟨rfl, hb⟩
  have hlt : w.heap.size < w2.heap.size := (HD.out.below hb).lt
  have HS := Lib.hid (TrW.mk (below_call (below_call HB.out hb) (below_alloc (Below.refl _ w2) (.cells #[.bool true, .int .i64 s', .int .i64 s', .bool false, .int .i64 0, .int .i64 0, .bool false, .bool true, .int .i64 0, .bool false, .bool false] 31))) ((HD.out.below hb).below (below_alloc (Below.refl _ w2) (.cells #[.bool true, .int .i64 s', .int .i64 s', .bool false, .int .i64 0, .int .i64 0, .bool false, .bool true, .int .i64 0, .bool false, .bool false] 31))) (blk_new w2 #[.bool true, .int .i64 s', .int .i64 s', .bool false, .int .i64 0, .int .i64 0, .bool false, .bool true, .int .i64 0, .bool false, .bool false] 31) hlt)
  clear hb y0 y1 y2 HB HD hlt j1 j2  j5 j6 HS1
  go_upto_region 5 with fail
  generalize w2.alloc (.cells #[.bool true, .int .i64 s', .int .i64 s', .bool false, .int .i64 0, .int .i64 0, .bool false, .bool true, .int .i64 0, .bool false, .bool false] 31) = w3 at *
  generalize w2.heap.size = g at *
  obtain ⟨t0, t1, t2, t3, t4, t5, t6, t7, t8, t9, t10⟩ := HS.out.t.c11
  go_upto_region 7 with fail
  clear t0 t1 t2 t3 t4 t5 t6 t7 t8 t9 t10
  go_upto_region 8 with fail
  go_loopw [13] (fun z wr => ∃ (j : Nat) (a : Int) (cl c : Bool) (n1 : Int), 1 ≤ j ∧ j ≤ K + 1 ∧ z = .int .i64 (j : Int) ∧ Hid (n1 + 1 = (j : Int) ∧ (a = s' ∨ a = u') ∧ (1 < j → a = u')) ∧ Hid (TrW w wr #[.int .i64 d0, .int .i64 d1, .int .i64 d2] g #[.bool true, .int .i64 a, .int .i64 s', .bool false, .int .i64 0, .int .i64 0, .bool false, .bool cl, .int .i64 n1, .bool false, .bool c])) (fun z _ => K + 1 - (intOf z).toNat)
  case atStart => exact ⟨1, s', true, false, 0, by omega, by omega, rfl, Lib.hid ⟨by omega, .inl rfl, fun h => by omega⟩, HS⟩
  case round =>
    obtain ⟨j, a, cl, c, n1, h1, hj, rfl, HI, HS'⟩ := hrel
    clear HS
    by_cases hlt : j ≤ K
    · have hltI : (j : Int) ≤ (K : Int) := by omega
      obtain ⟨jj, hjj⟩ : ∃ jj : Int, jj = (j : Int) := ⟨_, rfl⟩
      by_cases hd : d0 < jj
      · have HS1 := Lib.hid (HST.out a cl c true n1 jj HI.out.2.1 (by have := HI.out.1; omega) (by have := HI.out.1; omega) (by have := HI.out.1; have := HKK.out; omega) (by simpa using hd))
        clear HI
        subst hjj
        obtain ⟨t0, t1, t2, t3, t4, t5, t6, t7, t8, t9, t10⟩ := HS'.out.t.c11
        obtain ⟨y0, y1, y2⟩ := HS'.out.d.three
        go_wp2_with fail
        (with_reducible refine (HS1.out _).mono ?_)
        rintro e w5 ⟨rfl, hb⟩
        replace HS' := Lib.hid (HS'.out.call hb)
        clear hb t0 t1 t2 t3 t4 t5 t6 t7 t8 t9 t10 y0 y1 y2 HS1
        obtain ⟨t0, t1, t2, t3, t4, t5, t6, t7, t8, t9, t10⟩ := HS'.out.t.c11
        obtain ⟨f0, f1, f2, f3, f4, f5, f6, f7, f8, f9, f10⟩ := HS'.out.t.f11
        go_upto_region 11 with fail
        replace HS' := Lib.hid (HS'.out.put (.bool true) (.int .i64 u') (.int .i64 s') (.bool false) (.int .i64 0) (.int .i64 0) (.bool false) (.bool false) (.int .i64 (j:Int)) (.bool false) (.bool true))
        generalize ((((((((((w5.setCell ⟨g, 0, none⟩ (.bool true)).setCell ⟨g, 1, none⟩ (.int .i64 u')).setCell ⟨g, 2, none⟩ (.int .i64 s')).setCell ⟨g, 3, none⟩ (.bool false)).setCell ⟨g, 4, none⟩ (.int .i64 0)).setCell ⟨g, 5, none⟩ (.int .i64 0)).setCell ⟨g, 6, none⟩ (.bool false)).setCell ⟨g, 7, none⟩ (.bool false)).setCell ⟨g, 8, none⟩ (.int .i64 (j:Int))).setCell ⟨g, 9, none⟩ (.bool false)).setCell ⟨g, 10, none⟩ (.bool true) = w6 at *
        clear t0 t1 t2 t3 t4 t5 t6 t7 t8 t9 t10 f0 f1 f2 f3 f4 f5 f6 f7 f8 f9 f10
        obtain ⟨t0, t1, t2, t3, t4, t5, t6, t7, t8, t9, t10⟩ := HS'.out.t.c11
        obtain ⟨y0, y1, y2⟩ := HS'.out.d.three
        have q1 : ((j : Int) != (j : Int)) = false := by simp
        have q2 : decide (d0 < (j : Int)) = true := by simpa using hd
        clear hd
        go_quiet (fail)
        go_wp2_with fail
        go_roundw
        case rel => exact ⟨j + 1, u', false, _, (j : Int), by omega, by omega, by go_num, Lib.hid ⟨by omega, .inr rfl, fun _ => rfl⟩, Lib.hid (HS'.out.call (bel_drewN _ _))⟩
        case measure => simp [intOf]; omega
      · have HS1 := Lib.hid (HST.out a cl c false n1 jj HI.out.2.1 (by have := HI.out.1; omega) (by have := HI.out.1; omega) (by have := HI.out.1; have := HKK.out; omega) (by simpa using hd))
        clear HI
        subst hjj
        obtain ⟨t0, t1, t2, t3, t4, t5, t6, t7, t8, t9, t10⟩ := HS'.out.t.c11
        obtain ⟨y0, y1, y2⟩ := HS'.out.d.three
        go_wp2_with fail
        (with_reducible refine (HS1.out _).mono ?_)
        rintro e w5 ⟨rfl, hb⟩
        replace HS' := Lib.hid (HS'.out.call hb)
        clear hb t0 t1 t2 t3 t4 t5 t6 t7 t8 t9 t10 y0 y1 y2 HS1
        obtain ⟨t0, t1, t2, t3, t4, t5, t6, t7, t8, t9, t10⟩ := HS'.out.t.c11
        obtain ⟨f0, f1, f2, f3, f4, f5, f6, f7, f8, f9, f10⟩ := HS'.out.t.f11
        go_upto_region 11 with fail
        replace HS' := Lib.hid (HS'.out.put (.bool true) (.int .i64 u') (.int .i64 s') (.bool false) (.int .i64 0) (.int .i64 0) (.bool false) (.bool false) (.int .i64 (j:Int)) (.bool false) (.bool false))
        generalize ((((((((((w5.setCell ⟨g, 0, none⟩ (.bool true)).setCell ⟨g, 1, none⟩ (.int .i64 u')).setCell ⟨g, 2, none⟩ (.int .i64 s')).setCell ⟨g, 3, none⟩ (.bool false)).setCell ⟨g, 4, none⟩ (.int .i64 0)).setCell ⟨g, 5, none⟩ (.int .i64 0)).setCell ⟨g, 6, none⟩ (.bool false)).setCell ⟨g, 7, none⟩ (.bool false)).setCell ⟨g, 8, none⟩ (.int .i64 (j:Int))).setCell ⟨g, 9, none⟩ (.bool false)).setCell ⟨g, 10, none⟩ (.bool false) = w6 at *
        clear t0 t1 t2 t3 t4 t5 t6 t7 t8 t9 t10 f0 f1 f2 f3 f4 f5 f6 f7 f8 f9 f10
        obtain ⟨t0, t1, t2, t3, t4, t5, t6, t7, t8, t9, t10⟩ := HS'.out.t.c11
        obtain ⟨y0, y1, y2⟩ := HS'.out.d.three
        have q1 : ((j : Int) != (j : Int)) = false := by simp
        have q2 : decide (d0 < (j : Int)) = false := by simpa using hd
        clear hd
        go_quiet (fail)
        go_wp2_with fail
        go_roundw
        case rel => exact ⟨j + 1, u', false, _, (j : Int), by omega, by omega, by go_num, Lib.hid ⟨by omega, .inr rfl, fun _ => rfl⟩, Lib.hid (HS'.out.call (bel_drewN _ _))⟩
        case measure => simp [intOf]; omega
    · have hltI : ¬ (j : Int) ≤ (K : Int) := by omega
      obtain rfl : u' = a := (HI.out.2.2 (by have := HKK.out; omega)).symm
      have HS1 := Lib.hid (HSL.out cl c n1)
      clear HI
      obtain ⟨t0, t1, t2, t3, t4, t5, t6, t7, t8, t9, t10⟩ := HS'.out.t.c11
      obtain ⟨y0, y1, y2⟩ := HS'.out.d.three
      go_wp2_with fail
      (with_reducible refine (HS1.out _).mono ?_)
      rintro e w5 ⟨rfl, hb⟩
      replace HS' := Lib.hid (HS'.out.call hb)
      clear hb t0 t1 t2 t3 t4 t5 t6 t7 t8 t9 t10 y0 y1 y2 HS1
      obtain ⟨t0, t1, t2, t3, t4, t5, t6, t7, t8, t9, t10⟩ := HS'.out.t.c11
      obtain ⟨f0, f1, f2, f3, f4, f5, f6, f7, f8, f9, f10⟩ := HS'.out.t.f11
      go_upto_region 14 with fail
      replace HS' := Lib.hid (HS'.out.put (.bool true) (.int .i64 u') (.int .i64 u') (.bool false) (.int .i64 0) (.int .i64 0) (.bool false) (.bool true) (.int .i64 0) (.bool false) (.bool false))
      generalize ((((((((((w5.setCell ⟨g, 0, none⟩ (.bool true)).setCell ⟨g, 1, none⟩ (.int .i64 u')).setCell ⟨g, 2, none⟩ (.int .i64 u')).setCell ⟨g, 3, none⟩ (.bool false)).setCell ⟨g, 4, none⟩ (.int .i64 0)).setCell ⟨g, 5, none⟩ (.int .i64 0)).setCell ⟨g, 6, none⟩ (.bool false)).setCell ⟨g, 7, none⟩ (.bool true)).setCell ⟨g, 8, none⟩ (.int .i64 0)).setCell ⟨g, 9, none⟩ (.bool false)).setCell ⟨g, 10, none⟩ (.bool false) = w6 at *
      clear t0 t1 t2 t3 t4 t5 t6 t7 t8 t9 t10 f0 f1 f2 f3 f4 f5 f6 f7 f8 f9 f10
      obtain ⟨t0, t1, t2, t3, t4, t5, t6, t7, t8, t9, t10⟩ := HS'.out.t.c11
      go_wp2_with fail
      go_ret
      exact ⟨rfl, HS'.out.bel⟩
set_option maxHeartbeats 4000000 in
set_option maxRecDepth 10000 in
theorem trains_main1 (s m d0 d1 d2 : Int) (K : Nat) (w : World) (m0 : 1 ≤ m) (m1 : m ≤ 64) (K0 : 1 ≤ K) (K1 : K ≤ 200) : Calls Try.prog 4 #[.int .i64 s, .int .i64 m, .int .i64 1, .agg #[.int .i64 d0, .int .i64 d1, .int .i64 d2], .int .i64 (K : Int)] w fun e w' => e = .returned (.bool true) ∧ Below w.heap.size w w' := by
  have hwt : wtt d0 d1 d2 1 = d1 := by unfold wtt; simp
  obtain ⟨u, s', u', hu, f1, f2, f3⟩ := trains_facts s m m0 m1
  have p0 : PosR 0 := by unfold PosR; omega
  have HS1 := Lib.hid (tstep_to false 0 0 false 0 0 false false 0 false false true s s 0 0 d0 d1 d2 false true s' s' false 0 0 false true 0 false false (f1 d0 d1 d2) p0)
  have HST := Lib.hid (fun (a : Int) (cl c b : Bool) (n1 jj : Int) (e1 : a = s' ∨ a = u') (e2 : n1 + 1 = jj) (e3 : 0 ≤ n1) (e4 : n1 ≤ 200) (e5 : decide (d1 < jj) = b) => tstep_to true a s' false 0 0 false cl n1 false c true u s 1 0 d0 d1 d2 false true u' s' false 0 0 false false jj false b (f2 a cl c b n1 jj 1 d0 d1 d2 e1 e2 e3 e4 (by rw [hwt]; exact e5)) p0)
  have HSL := Lib.hid (fun (cl c : Bool) (n1 : Int) => tstep_to true u' s' false 0 0 false cl n1 false c true u u 1 0 d0 d1 d2 false true u' u' false 0 0 false true 0 false false (f3 cl c n1 1 d0 d1 d2) p0)
  have HD0 := Lib.hid (blk_new w #[.int .i64 d0, .int .i64 d1, .int .i64 d2] 23)
  have HB0 := Lib.hid (below_alloc (Below.refl _ w) (.cells #[.int .i64 d0, .int .i64 d1, .int .i64 d2] 23))
  have j1 : ¬ m < 1 := by omega
  have j2 : ¬ (64 : Int) < m := by omega
  have j5 : ¬ (K : Int) < 1 := by omega
  have j6 : ¬ (200 : Int) < (K : Int) := by omega
  have HKK := Lib.hid (And.intro K0 K1)
  clear f1 f2 f3 p0 hwt m0 m1 K0 K1
  go_enter Try.func4, Try.ntmps4
  go_wp2_with fail
  (with_reducible refine (small_true _).mono ?_)
  rintro e w1 ⟨rfl, hb⟩
  have HB := Lib.hid (below_call HB0.out hb)
  have HD := Lib.hid (HD0.out.below hb)
  clear hb HB0 HD0
  obtain ⟨y0, y1, y2⟩ := HD.out.three
  go_wp2_with fail
  (with_reducible refine (HS1.out _).mono ?_)
  rintro e w2 ⟨rfl, hb⟩
  have hlt : w.heap.size < w2.heap.size := (HD.out.below hb).lt
  have HS := Lib.hid (TrW.mk (below_call (below_call HB.out hb) (below_alloc (Below.refl _ w2) (.cells #[.bool true, .int .i64 s', .int .i64 s', .bool false, .int .i64 0, .int .i64 0, .bool false, .bool true, .int .i64 0, .bool false, .bool false] 31))) ((HD.out.below hb).below (below_alloc (Below.refl _ w2) (.cells #[.bool true, .int .i64 s', .int .i64 s', .bool false, .int .i64 0, .int .i64 0, .bool false, .bool true, .int .i64 0, .bool false, .bool false] 31))) (blk_new w2 #[.bool true, .int .i64 s', .int .i64 s', .bool false, .int .i64 0, .int .i64 0, .bool false, .bool true, .int .i64 0, .bool false, .bool false] 31) hlt)
  clear hb y0 y1 y2 HB HD hlt j1 j2  j5 j6 HS1
  go_upto_region 5 with fail
  generalize w2.alloc (.cells #[.bool true, .int .i64 s', .int .i64 s', .bool false, .int .i64 0, .int .i64 0, .bool false, .bool true, .int .i64 0, .bool false, .bool false] 31) = w3 at *
  generalize w2.heap.size = g at *
  obtain ⟨t0, t1, t2, t3, t4, t5, t6, t7, t8, t9, t10⟩ := HS.out.t.c11
  go_upto_region 7 with fail
  clear t0 t1 t2 t3 t4 t5 t6 t7 t8 t9 t10
  go_upto_region 8 with fail
  go_loopw [13] (fun z wr => ∃ (j : Nat) (a : Int) (cl c : Bool) (n1 : Int), 1 ≤ j ∧ j ≤ K + 1 ∧ z = .int .i64 (j : Int) ∧ Hid (n1 + 1 = (j : Int) ∧ (a = s' ∨ a = u') ∧ (1 < j → a = u')) ∧ Hid (TrW w wr #[.int .i64 d0, .int .i64 d1, .int .i64 d2] g #[.bool true, .int .i64 a, .int .i64 s', .bool false, .int .i64 0, .int .i64 0, .bool false, .bool cl, .int .i64 n1, .bool false, .bool c])) (fun z _ => K + 1 - (intOf z).toNat)
  case atStart => exact ⟨1, s', true, false, 0, by omega, by omega, rfl, Lib.hid ⟨by omega, .inl rfl, fun h => by omega⟩, HS⟩
  case round =>
    obtain ⟨j, a, cl, c, n1, h1, hj, rfl, HI, HS'⟩ := hrel
    clear HS
    by_cases hlt : j ≤ K
    · have hltI : (j : Int) ≤ (K : Int) := by omega
      obtain ⟨jj, hjj⟩ : ∃ jj : Int, jj = (j : Int) := ⟨_, rfl⟩
      by_cases hd : d1 < jj
      · have HS1 := Lib.hid (HST.out a cl c true n1 jj HI.out.2.1 (by have := HI.out.1; omega) (by have := HI.out.1; omega) (by have := HI.out.1; have := HKK.out; omega) (by simpa using hd))
        clear HI
        subst hjj
        obtain ⟨t0, t1, t2, t3, t4, t5, t6, t7, t8, t9, t10⟩ := HS'.out.t.c11
        obtain ⟨y0, y1, y2⟩ := HS'.out.d.three
        go_wp2_with fail
        (with_reducible refine (HS1.out _).mono ?_)
        rintro e w5 ⟨rfl, hb⟩
        replace HS' := Lib.hid (HS'.out.call hb)
        clear hb t0 t1 t2 t3 t4 t5 t6 t7 t8 t9 t10 y0 y1 y2 HS1
        obtain ⟨t0, t1, t2, t3, t4, t5, t6, t7, t8, t9, t10⟩ := HS'.out.t.c11
        obtain ⟨f0, f1, f2, f3, f4, f5, f6, f7, f8, f9, f10⟩ := HS'.out.t.f11
        go_upto_region 11 with fail
        replace HS' := Lib.hid (HS'.out.put (.bool true) (.int .i64 u') (.int .i64 s') (.bool false) (.int .i64 0) (.int .i64 0) (.bool false) (.bool false) (.int .i64 (j:Int)) (.bool false) (.bool true))
        generalize ((((((((((w5.setCell ⟨g, 0, none⟩ (.bool true)).setCell ⟨g, 1, none⟩ (.int .i64 u')).setCell ⟨g, 2, none⟩ (.int .i64 s')).setCell ⟨g, 3, none⟩ (.bool false)).setCell ⟨g, 4, none⟩ (.int .i64 0)).setCell ⟨g, 5, none⟩ (.int .i64 0)).setCell ⟨g, 6, none⟩ (.bool false)).setCell ⟨g, 7, none⟩ (.bool false)).setCell ⟨g, 8, none⟩ (.int .i64 (j:Int))).setCell ⟨g, 9, none⟩ (.bool false)).setCell ⟨g, 10, none⟩ (.bool true) = w6 at *
        clear t0 t1 t2 t3 t4 t5 t6 t7 t8 t9 t10 f0 f1 f2 f3 f4 f5 f6 f7 f8 f9 f10
        obtain ⟨t0, t1, t2, t3, t4, t5, t6, t7, t8, t9, t10⟩ := HS'.out.t.c11
        obtain ⟨y0, y1, y2⟩ := HS'.out.d.three
        have q1 : ((j : Int) != (j : Int)) = false := by simp
        have q2 : decide (d1 < (j : Int)) = true := by simpa using hd
        clear hd
        go_quiet (fail)
        go_wp2_with fail
        go_roundw
        case rel => exact ⟨j + 1, u', false, _, (j : Int), by omega, by omega, by go_num, Lib.hid ⟨by omega, .inr rfl, fun _ => rfl⟩, Lib.hid (HS'.out.call (bel_drewN _ _))⟩
        case measure => simp [intOf]; omega
      · have HS1 := Lib.hid (HST.out a cl c false n1 jj HI.out.2.1 (by have := HI.out.1; omega) (by have := HI.out.1; omega) (by have := HI.out.1; have := HKK.out; omega) (by simpa using hd))
        clear HI
        subst hjj
        obtain ⟨t0, t1, t2, t3, t4, t5, t6, t7, t8, t9, t10⟩ := HS'.out.t.c11
        obtain ⟨y0, y1, y2⟩ := HS'.out.d.three
        go_wp2_with fail
        (with_reducible refine (HS1.out _).mono ?_)
        rintro e w5 ⟨rfl, hb⟩
        replace HS' := Lib.hid (HS'.out.call hb)
        clear hb t0 t1 t2 t3 t4 t5 t6 t7 t8 t9 t10 y0 y1 y2 HS1
        obtain ⟨t0, t1, t2, t3, t4, t5, t6, t7, t8, t9, t10⟩ := HS'.out.t.c11
        obtain ⟨f0, f1, f2, f3, f4, f5, f6, f7, f8, f9, f10⟩ := HS'.out.t.f11
        go_upto_region 11 with fail
        replace HS' := Lib.hid (HS'.out.put (.bool true) (.int .i64 u') (.int .i64 s') (.bool false) (.int .i64 0) (.int .i64 0) (.bool false) (.bool false) (.int .i64 (j:Int)) (.bool false) (.bool false))
        generalize ((((((((((w5.setCell ⟨g, 0, none⟩ (.bool true)).setCell ⟨g, 1, none⟩ (.int .i64 u')).setCell ⟨g, 2, none⟩ (.int .i64 s')).setCell ⟨g, 3, none⟩ (.bool false)).setCell ⟨g, 4, none⟩ (.int .i64 0)).setCell ⟨g, 5, none⟩ (.int .i64 0)).setCell ⟨g, 6, none⟩ (.bool false)).setCell ⟨g, 7, none⟩ (.bool false)).setCell ⟨g, 8, none⟩ (.int .i64 (j:Int))).setCell ⟨g, 9, none⟩ (.bool false)).setCell ⟨g, 10, none⟩ (.bool false) = w6 at *
        clear t0 t1 t2 t3 t4 t5 t6 t7 t8 t9 t10 f0 f1 f2 f3 f4 f5 f6 f7 f8 f9 f10
        obtain ⟨t0, t1, t2, t3, t4, t5, t6, t7, t8, t9, t10⟩ := HS'.out.t.c11
        obtain ⟨y0, y1, y2⟩ := HS'.out.d.three
        have q1 : ((j : Int) != (j : Int)) = false := by simp
        have q2 : decide (d1 < (j : Int)) = false := by simpa using hd
        clear hd
        go_quiet (fail)
        go_wp2_with fail
        go_roundw
        case rel => exact ⟨j + 1, u', false, _, (j : Int), by omega, by omega, by go_num, Lib.hid ⟨by omega, .inr rfl, fun _ => rfl⟩, Lib.hid (HS'.out.call (bel_drewN _ _))⟩
        case measure => simp [intOf]; omega
    · have hltI : ¬ (j : Int) ≤ (K : Int) := by omega
      obtain rfl : u' = a := (HI.out.2.2 (by have := HKK.out; omega)).symm
      have HS1 := Lib.hid (HSL.out cl c n1)
      clear HI
      obtain ⟨t0, t1, t2, t3, t4, t5, t6, t7, t8, t9, t10⟩ := HS'.out.t.c11
      obtain ⟨y0, y1, y2⟩ := HS'.out.d.three
      go_wp2_with fail
      (with_reducible refine (HS1.out _).mono ?_)
      rintro e w5 ⟨rfl, hb⟩
      replace HS' := Lib.hid (HS'.out.call hb)
      clear hb t0 t1 t2 t3 t4 t5 t6 t7 t8 t9 t10 y0 y1 y2 HS1
      obtain ⟨t0, t1, t2, t3, t4, t5, t6, t7, t8, t9, t10⟩ := HS'.out.t.c11
      obtain ⟨f0, f1, f2, f3, f4, f5, f6, f7, f8, f9, f10⟩ := HS'.out.t.f11
      go_upto_region 14 with fail
      replace HS' := Lib.hid (HS'.out.put (.bool true) (.int .i64 u') (.int .i64 u') (.bool false) (.int .i64 0) (.int .i64 0) (.bool false) (.bool true) (.int .i64 0) (.bool false) (.bool false))
      generalize ((((((((((w5.setCell ⟨g, 0, none⟩ (.bool true)).setCell ⟨g, 1, none⟩ (.int .i64 u')).setCell ⟨g, 2, none⟩ (.int .i64 u')).setCell ⟨g, 3, none⟩ (.bool false)).setCell ⟨g, 4, none⟩ (.int .i64 0)).setCell ⟨g, 5, none⟩ (.int .i64 0)).setCell ⟨g, 6, none⟩ (.bool false)).setCell ⟨g, 7, none⟩ (.bool true)).setCell ⟨g, 8, none⟩ (.int .i64 0)).setCell ⟨g, 9, none⟩ (.bool false)).setCell ⟨g, 10, none⟩ (.bool false) = w6 at *
      clear t0 t1 t2 t3 t4 t5 t6 t7 t8 t9 t10 f0 f1 f2 f3 f4 f5 f6 f7 f8 f9 f10
      obtain ⟨t0, t1, t2, t3, t4, t5, t6, t7, t8, t9, t10⟩ := HS'.out.t.c11
      go_wp2_with fail
      go_ret
      exact ⟨rfl, HS'.out.bel⟩
set_option maxHeartbeats 4000000 in
set_option maxRecDepth 10000 in
theorem trains_main2 (s m d0 d1 d2 : Int) (K : Nat) (w : World) (m0 : 1 ≤ m) (m1 : m ≤ 64) (K0 : 1 ≤ K) (K1 : K ≤ 200) : Calls Try.prog 4 #[.int .i64 s, .int .i64 m, .int .i64 2, .agg #[.int .i64 d0, .int .i64 d1, .int .i64 d2], .int .i64 (K : Int)] w fun e w' => e = .returned (.bool true) ∧ Below w.heap.size w w' := by
  have hwt : wtt d0 d1 d2 2 = d2 := by unfold wtt; simp
  obtain ⟨u, s', u', hu, f1, f2, f3⟩ := trains_facts s m m0 m1
  have p0 : PosR 0 := by unfold PosR; omega
  have HS1 := Lib.hid (tstep_to false 0 0 false 0 0 false false 0 false false true s s 0 0 d0 d1 d2 false true s' s' false 0 0 false true 0 false false (f1 d0 d1 d2) p0)
  have HST := Lib.hid (fun (a : Int) (cl c b : Bool) (n1 jj : Int) (e1 : a = s' ∨ a = u') (e2 : n1 + 1 = jj) (e3 : 0 ≤ n1) (e4 : n1 ≤ 200) (e5 : decide (d2 < jj) = b) => tstep_to true a s' false 0 0 false cl n1 false c true u s 2 0 d0 d1 d2 false true u' s' false 0 0 false false jj false b (f2 a cl c b n1 jj 2 d0 d1 d2 e1 e2 e3 e4 (by rw [hwt]; exact e5)) p0)
  have HSL := Lib.hid (fun (cl c : Bool) (n1 : Int) => tstep_to true u' s' false 0 0 false cl n1 false c true u u 2 0 d0 d1 d2 false true u' u' false 0 0 false true 0 false false (f3 cl c n1 2 d0 d1 d2) p0)
  have HD0 := Lib.hid (blk_new w #[.int .i64 d0, .int .i64 d1, .int .i64 d2] 23)
  have HB0 := Lib.hid (below_alloc (Below.refl _ w) (.cells #[.int .i64 d0, .int .i64 d1, .int .i64 d2] 23))
  have j1 : ¬ m < 1 := by omega
  have j2 : ¬ (64 : Int) < m := by omega
  have j5 : ¬ (K : Int) < 1 := by omega
  have j6 : ¬ (200 : Int) < (K : Int) := by omega
  have HKK := Lib.hid (And.intro K0 K1)
  clear f1 f2 f3 p0 hwt m0 m1 K0 K1
  go_enter Try.func4, Try.ntmps4
  go_wp2_with fail
  (with_reducible refine (small_true _).mono ?_)
  rintro e w1 ⟨rfl, hb⟩
  have HB := Lib.hid (below_call HB0.out hb)
  have HD := Lib.hid (HD0.out.below hb)
  clear hb HB0 HD0
  obtain ⟨y0, y1, y2⟩ := HD.out.three
  go_wp2_with fail
  (with_reducible refine (HS1.out _).mono ?_)
  rintro e w2 ⟨rfl, hb⟩
  have hlt : w.heap.size < w2.heap.size := (HD.out.below hb).lt
  have HS := Lib.hid (TrW.mk (below_call (below_call HB.out hb) (below_alloc (Below.refl _ w2) (.cells #[.bool true, .int .i64 s', .int .i64 s', .bool false, .int .i64 0, .int .i64 0, .bool false, .bool true, .int .i64 0, .bool false, .bool false] 31))) ((HD.out.below hb).below (below_alloc (Below.refl _ w2) (.cells #[.bool true, .int .i64 s', .int .i64 s', .bool false, .int .i64 0, .int .i64 0, .bool false, .bool true, .int .i64 0, .bool false, .bool false] 31))) (blk_new w2 #[.bool true, .int .i64 s', .int .i64 s', .bool false, .int .i64 0, .int .i64 0, .bool false, .bool true, .int .i64 0, .bool false, .bool false] 31) hlt)
  clear hb y0 y1 y2 HB HD hlt j1 j2  j5 j6 HS1
  go_upto_region 5 with fail
  generalize w2.alloc (.cells #[.bool true, .int .i64 s', .int .i64 s', .bool false, .int .i64 0, .int .i64 0, .bool false, .bool true, .int .i64 0, .bool false, .bool false] 31) = w3 at *
  generalize w2.heap.size = g at *
  obtain ⟨t0, t1, t2, t3, t4, t5, t6, t7, t8, t9, t10⟩ := HS.out.t.c11
  go_upto_region 7 with fail
  clear t0 t1 t2 t3 t4 t5 t6 t7 t8 t9 t10
  go_upto_region 8 with fail
  go_loopw [13] (fun z wr => ∃ (j : Nat) (a : Int) (cl c : Bool) (n1 : Int), 1 ≤ j ∧ j ≤ K + 1 ∧ z = .int .i64 (j : Int) ∧ Hid (n1 + 1 = (j : Int) ∧ (a = s' ∨ a = u') ∧ (1 < j → a = u')) ∧ Hid (TrW w wr #[.int .i64 d0, .int .i64 d1, .int .i64 d2] g #[.bool true, .int .i64 a, .int .i64 s', .bool false, .int .i64 0, .int .i64 0, .bool false, .bool cl, .int .i64 n1, .bool false, .bool c])) (fun z _ => K + 1 - (intOf z).toNat)
  case atStart => exact ⟨1, s', true, false, 0, by omega, by omega, rfl, Lib.hid ⟨by omega, .inl rfl, fun h => by omega⟩, HS⟩
  case round =>
    obtain ⟨j, a, cl, c, n1, h1, hj, rfl, HI, HS'⟩ := hrel
    clear HS
    by_cases hlt : j ≤ K
    · have hltI : (j : Int) ≤ (K : Int) := by omega
      obtain ⟨jj, hjj⟩ : ∃ jj : Int, jj = (j : Int) := ⟨_, rfl⟩
      by_cases hd : d2 < jj
      · have HS1 := Lib.hid (HST.out a cl c true n1 jj HI.out.2.1 (by have := HI.out.1; omega) (by have := HI.out.1; omega) (by have := HI.out.1; have := HKK.out; omega) (by simpa using hd))
        clear HI
        subst hjj
        obtain ⟨t0, t1, t2, t3, t4, t5, t6, t7, t8, t9, t10⟩ := HS'.out.t.c11
        obtain ⟨y0, y1, y2⟩ := HS'.out.d.three
        go_wp2_with fail
        (with_reducible refine (HS1.out _).mono ?_)
        rintro e w5 ⟨rfl, hb⟩
        replace HS' := Lib.hid (HS'.out.call hb)
        clear hb t0 t1 t2 t3 t4 t5 t6 t7 t8 t9 t10 y0 y1 y2 HS1
        obtain ⟨t0, t1, t2, t3, t4, t5, t6, t7, t8, t9, t10⟩ := HS'.out.t.c11
        obtain ⟨f0, f1, f2, f3, f4, f5, f6, f7, f8, f9, f10⟩ := HS'.out.t.f11
        go_upto_region 11 with fail
        replace HS' := Lib.hid (HS'.out.put (.bool true) (.int .i64 u') (.int .i64 s') (.bool false) (.int .i64 0) (.int .i64 0) (.bool false) (.bool false) (.int .i64 (j:Int)) (.bool false) (.bool true))
        generalize ((((((((((w5.setCell ⟨g, 0, none⟩ (.bool true)).setCell ⟨g, 1, none⟩ (.int .i64 u')).setCell ⟨g, 2, none⟩ (.int .i64 s')).setCell ⟨g, 3, none⟩ (.bool false)).setCell ⟨g, 4, none⟩ (.int .i64 0)).setCell ⟨g, 5, none⟩ (.int .i64 0)).setCell ⟨g, 6, none⟩ (.bool false)).setCell ⟨g, 7, none⟩ (.bool false)).setCell ⟨g, 8, none⟩ (.int .i64 (j:Int))).setCell ⟨g, 9, none⟩ (.bool false)).setCell ⟨g, 10, none⟩ (.bool true) = w6 at *
        clear t0 t1 t2 t3 t4 t5 t6 t7 t8 t9 t10 f0 f1 f2 f3 f4 f5 f6 f7 f8 f9 f10
        obtain ⟨t0, t1, t2, t3, t4, t5, t6, t7, t8, t9, t10⟩ := HS'.out.t.c11
        obtain ⟨y0, y1, y2⟩ := HS'.out.d.three
        have q1 : ((j : Int) != (j : Int)) = false := by simp
        have q2 : decide (d2 < (j : Int)) = true := by simpa using hd
        clear hd
        go_quiet (fail)
        go_wp2_with fail
        go_roundw
        case rel => exact ⟨j + 1, u', false, _, (j : Int), by omega, by omega, by go_num, Lib.hid ⟨by omega, .inr rfl, fun _ => rfl⟩, Lib.hid (HS'.out.call (bel_drewN _ _))⟩
        case measure => simp [intOf]; omega
      · have HS1 := Lib.hid (HST.out a cl c false n1 jj HI.out.2.1 (by have := HI.out.1; omega) (by have := HI.out.1; omega) (by have := HI.out.1; have := HKK.out; omega) (by simpa using hd))
        clear HI
        subst hjj
        obtain ⟨t0, t1, t2, t3, t4, t5, t6, t7, t8, t9, t10⟩ := HS'.out.t.c11
        obtain ⟨y0, y1, y2⟩ := HS'.out.d.three
        go_wp2_with fail
        (with_reducible refine (HS1.out _).mono ?_)
        rintro e w5 ⟨rfl, hb⟩
        replace HS' := Lib.hid (HS'.out.call hb)
        clear hb t0 t1 t2 t3 t4 t5 t6 t7 t8 t9 t10 y0 y1 y2 HS1
        obtain ⟨t0, t1, t2, t3, t4, t5, t6, t7, t8, t9, t10⟩ := HS'.out.t.c11
        obtain ⟨f0, f1, f2, f3, f4, f5, f6, f7, f8, f9, f10⟩ := HS'.out.t.f11
        go_upto_region 11 with fail
        replace HS' := Lib.hid (HS'.out.put (.bool true) (.int .i64 u') (.int .i64 s') (.bool false) (.int .i64 0) (.int .i64 0) (.bool false) (.bool false) (.int .i64 (j:Int)) (.bool false) (.bool false))
        generalize ((((((((((w5.setCell ⟨g, 0, none⟩ (.bool true)).setCell ⟨g, 1, none⟩ (.int .i64 u')).setCell ⟨g, 2, none⟩ (.int .i64 s')).setCell ⟨g, 3, none⟩ (.bool false)).setCell ⟨g, 4, none⟩ (.int .i64 0)).setCell ⟨g, 5, none⟩ (.int .i64 0)).setCell ⟨g, 6, none⟩ (.bool false)).setCell ⟨g, 7, none⟩ (.bool false)).setCell ⟨g, 8, none⟩ (.int .i64 (j:Int))).setCell ⟨g, 9, none⟩ (.bool false)).setCell ⟨g, 10, none⟩ (.bool false) = w6 at *
        clear t0 t1 t2 t3 t4 t5 t6 t7 t8 t9 t10 f0 f1 f2 f3 f4 f5 f6 f7 f8 f9 f10
        obtain ⟨t0, t1, t2, t3, t4, t5, t6, t7, t8, t9, t10⟩ := HS'.out.t.c11
        obtain ⟨y0, y1, y2⟩ := HS'.out.d.three
        have q1 : ((j : Int) != (j : Int)) = false := by simp
        have q2 : decide (d2 < (j : Int)) = false := by simpa using hd
        clear hd
        go_quiet (fail)
        go_wp2_with fail
        go_roundw
        case rel => exact ⟨j + 1, u', false, _, (j : Int), by omega, by omega, by go_num, Lib.hid ⟨by omega, .inr rfl, fun _ => rfl⟩, Lib.hid (HS'.out.call (bel_drewN _ _))⟩
        case measure => simp [intOf]; omega
    · have hltI : ¬ (j : Int) ≤ (K : Int) := by omega
      obtain rfl : u' = a := (HI.out.2.2 (by have := HKK.out; omega)).symm
      have HS1 := Lib.hid (HSL.out cl c n1)
      clear HI
      obtain ⟨t0, t1, t2, t3, t4, t5, t6, t7, t8, t9, t10⟩ := HS'.out.t.c11
      obtain ⟨y0, y1, y2⟩ := HS'.out.d.three
      go_wp2_with fail
      (with_reducible refine (HS1.out _).mono ?_)
      rintro e w5 ⟨rfl, hb⟩
      replace HS' := Lib.hid (HS'.out.call hb)
      clear hb t0 t1 t2 t3 t4 t5 t6 t7 t8 t9 t10 y0 y1 y2 HS1
      obtain ⟨t0, t1, t2, t3, t4, t5, t6, t7, t8, t9, t10⟩ := HS'.out.t.c11
      obtain ⟨f0, f1, f2, f3, f4, f5, f6, f7, f8, f9, f10⟩ := HS'.out.t.f11
      go_upto_region 14 with fail
      replace HS' := Lib.hid (HS'.out.put (.bool true) (.int .i64 u') (.int .i64 u') (.bool false) (.int .i64 0) (.int .i64 0) (.bool false) (.bool true) (.int .i64 0) (.bool false) (.bool false))
      generalize ((((((((((w5.setCell ⟨g, 0, none⟩ (.bool true)).setCell ⟨g, 1, none⟩ (.int .i64 u')).setCell ⟨g, 2, none⟩ (.int .i64 u')).setCell ⟨g, 3, none⟩ (.bool false)).setCell ⟨g, 4, none⟩ (.int .i64 0)).setCell ⟨g, 5, none⟩ (.int .i64 0)).setCell ⟨g, 6, none⟩ (.bool false)).setCell ⟨g, 7, none⟩ (.bool true)).setCell ⟨g, 8, none⟩ (.int .i64 0)).setCell ⟨g, 9, none⟩ (.bool false)).setCell ⟨g, 10, none⟩ (.bool false) = w6 at *
      clear t0 t1 t2 t3 t4 t5 t6 t7 t8 t9 t10 f0 f1 f2 f3 f4 f5 f6 f7 f8 f9 f10
      obtain ⟨t0, t1, t2, t3, t4, t5, t6, t7, t8, t9, t10⟩ := HS'.out.t.c11
      go_wp2_with fail
      go_ret
      exact ⟨rfl, HS'.out.bel⟩
theorem trains_any (s m k d0 d1 d2 K : Int) (w : World) : Calls Try.prog 4 #[.int .i64 s, .int .i64 m, .int .i64 k, .agg #[.int .i64 d0, .int .i64 d1, .int .i64 d2], .int .i64 K] w fun e w' => e = .returned (.bool true) ∧ Below w.heap.size w w' := by
  by_cases hm : 1 ≤ m ∧ m ≤ 64 ∧ 0 ≤ k ∧ k ≤ 2 ∧ 1 ≤ K ∧ K ≤ 200
  · obtain ⟨h0, h1, h2, h3, h4, h5⟩ := hm
    obtain ⟨n, rfl⟩ : ∃ n : Nat, K = (n : Int) := ⟨K.toNat, by omega⟩
    rcases (show k = 0 ∨ k = 1 ∨ k = 2 by omega) with rfl | rfl | rfl
    · exact trains_main0 s m d0 d1 d2 n w h0 h1 (by omega) (by omega)
    · exact trains_main1 s m d0 d1 d2 n w h0 h1 (by omega) (by omega)
    · exact trains_main2 s m d0 d1 d2 n w h0 h1 (by omega) (by omega)
  · exact trains_out s m k K d0 d1 d2 w hm
end Go.Proofs.Yteknfjnfaedebaa

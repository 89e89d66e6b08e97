/-
  The walk of crossbucklaw12.TrackSafe: true, whatever it is given.
-/
import Derived.Test.YteknfjnfaedebaaBox
import Derived.Test.YteknfjnfaedebaaTkOpen
import Derived.BigQuiet
namespace Go.Proofs.Yteknfjnfaedebaa
open Go.RowKit

/-- What comes of one telling. -/
theorem safe_tk (a : Tk) (b : Ct) (d0 d1 d2 : Int) (rs : Bool) : (let t := tks a b d0 d1 d2 rs
    ((t.cl = true ∧ b.fr = true ∧ ahd b.i b.o = 0 ∧ b.l % 4 = 0 ∧ t.f = false ∧ t.c = false ∧ t.n = 0)
      ∨ (t.cl = false ∧ t.n = lng a.n ∧ (b.fr = false → t.f = true ∧ t.c = true) ∧ (wtt d0 d1 d2 b.cs < t.n → t.c = true)))) := by
  obtain ⟨fr, ci, co, cs, li⟩ := b
  obtain ⟨h, i, o, g, l, s, j, cl, n, f, c⟩ := a
  unfold tks
  generalize wtt d0 d1 d2 cs = wt
  cases fr
  · dsimp only
    right
    unfold tk3
    simp
  · unfold ax1 pr1
    simp only [if_true]
    unfold stx stp
    generalize wrg h i o g ci co = r
    generalize (j || decide (way l li = 2)) = q
    have e1 : ahd (ci % 256) (co % 256) = ahd ci co := by rw [ahd_mod_left, ahd_mod_right]
    have e2 : li % 4 % 4 = li % 4 := by omega
    have ea : ∃ r2, ax2 ⟨true, ci % 256, co % 256, r⟩ rs = ⟨true, ci % 256, co % 256, r2⟩ := by cases rs <;> exact ⟨_, rfl⟩
    have ep : ∀ s2, ∃ q2, pr2 ⟨li % 4, s2, q⟩ rs = ⟨li % 4, s2, q2⟩ := by intro s2; cases rs <;> exact ⟨_, rfl⟩
    obtain ⟨r2, ea⟩ := ea
    obtain ⟨q2, ep⟩ := ep (bump (way l li) s)
    dsimp only
    rw [ea, ep]
    unfold tk3 clr
    simp only [e1, e2]
    by_cases ha : ahd ci co = 0
    · by_cases hb : li % 4 = 0
      · cases r2 <;> cases q2 <;> simp [ha, hb]
      · cases r2 <;> cases q2 <;> simp [hb]
    · cases r2 <;> cases q2 <;> simp [ha]
theorem safe_eq (h : Bool) (i o : Int) (g : Bool) (l s : Int) (j cl : Bool) (n : Int) (f c : Bool) (fr : Bool) (ci co cs li : Int) (d0 d1 d2 : Int) (rs : Bool) (hs : PosR s) (h0 : 0 ≤ n) (h1 : n ≤ 200) : ∃ (h' : Bool) (i' o' : Int) (g' : Bool) (l' s' : Int) (j' cl' : Bool) (n' : Int) (f' c' : Bool),
    tks ⟨h, i, o, g, l, s, j, cl, n, f, c⟩ ⟨fr, ci, co, cs, li⟩ d0 d1 d2 rs = ⟨h', i', o', g', l', s', j', cl', n', f', c'⟩ ∧ PosR s'
    ∧ ((cl' = true ∧ fr = true ∧ ahd ci co = 0 ∧ li % 4 = 0 ∧ f' = false ∧ c' = false ∧ n' = 0)
      ∨ (cl' = false ∧ n' = n + 1 ∧ (fr = false → f' = true ∧ c' = true) ∧ (wtt d0 d1 d2 cs < n' → c' = true))) := by
  have e : lng n = n + 1 := by unfold lng; omega
  have k := safe_tk ⟨h, i, o, g, l, s, j, cl, n, f, c⟩ ⟨fr, ci, co, cs, li⟩ d0 d1 d2 rs
  dsimp only at k
  rw [e] at k
  exact ⟨_, _, _, _, _, _, _, _, _, _, _, rfl, tks_posR (t := ⟨h, i, o, g, l, s, j, cl, n, f, c⟩) ⟨fr, ci, co, cs, li⟩ d0 d1 d2 rs hs, k⟩
set_option maxHeartbeats 4000000 in
set_option maxRecDepth 10000 in
theorem safe_out (v u : Value) (ls : List Ct) (d0 d1 d2 : Int) (w : World) (hv : Els RCt 5 w v ls) (hl : 200 < ls.length) : Calls Try.prog 3 #[v, .agg #[.int .i64 d0, .int .i64 d1, .int .i64 d2], u] w fun e w' => e = .returned (.bool true) ∧ Below w.heap.size w w' := by
  have HB0 := Lib.hid (below_alloc (Below.refl _ w) (.cells #[.int .i64 d0, .int .i64 d1, .int .i64 d2] 23))
  obtain ⟨a, c, ev⟩ := hv.len
  obtain ⟨n, hn⟩ : ∃ n, n = ls.length := ⟨_, rfl⟩
  rw [← hn] at ev hl
  subst ev
  have hlI : (200 : Int) < (n : Int) := by omega
  clear hv hn hl
  go_enter Try.func3, Try.ntmps3
  go_wp2_with fail
  (with_reducible refine (small_true _).mono ?_)
  rintro e w1 ⟨rfl, hb⟩
  have HB1 := Lib.hid (below_call HB0.out hb)
  clear hb
  go_wp2_with fail
  go_ret
  exact ⟨rfl, HB1.out⟩
set_option maxHeartbeats 8000000 in
set_option maxRecDepth 10000 in
theorem safe_main (v u : Value) (ls : List Ct) (bs : List Bool) (d0 d1 d2 : Int) (w : World) (hv : Els RCt 5 w v ls) (hu : Els RBo 1 w u bs) (hl : ls.length ≤ 200) : Calls Try.prog 3 #[v, .agg #[.int .i64 d0, .int .i64 d1, .int .i64 d2], u] w fun e w' => e = .returned (.bool true) ∧ Below w.heap.size w w' := by
  obtain ⟨a, c, ev⟩ := hv.len
  obtain ⟨K, hn⟩ : ∃ n, n = ls.length := ⟨_, rfl⟩
  rw [← hn] at ev hl
  subst ev
  obtain ⟨a2, c2, eu⟩ := hu.len
  obtain ⟨M, hm⟩ : ∃ n, n = bs.length := ⟨_, rfl⟩
  rw [← hm] at eu
  subst eu
  have HV := Lib.hid hv
  have HU := Lib.hid hu
  have HN := Lib.hid hn
  have HM := Lib.hid hm
  have HL := Lib.hid hl
  have hlI : ¬ (200 : Int) < (K : Int) := by omega
  have HD0 := Lib.hid (blk_new w #[.int .i64 d0, .int .i64 d1, .int .i64 d2] 23)
  have HB0 := Lib.hid (below_alloc (Below.refl _ w) (.cells #[.int .i64 d0, .int .i64 d1, .int .i64 d2] 23))
  clear hv hn hu hm hl
  go_enter Try.func3, Try.ntmps3
  go_wp2_with fail
  (with_reducible refine (small_true _).mono ?_)
  rintro e w1 ⟨rfl, hb⟩
  have HB := Lib.hid (below_call HB0.out hb)
  have HD := Lib.hid (HD0.out.below hb)
  clear hb HB0 HD0
  go_upto_region 5 with fail
  have HS := Lib.hid (TrW.mk (below_call HB.out (below_alloc (Below.refl _ w1) (.cells #[.bool false, .int .i64 0, .int .i64 0, .bool false, .int .i64 0, .int .i64 0, .bool false, .bool false, .int .i64 0, .bool false, .bool false] 31))) (HD.out.below (below_alloc (Below.refl _ w1) (.cells #[.bool false, .int .i64 0, .int .i64 0, .bool false, .int .i64 0, .int .i64 0, .bool false, .bool false, .int .i64 0, .bool false, .bool false] 31))) (blk_new w1 #[.bool false, .int .i64 0, .int .i64 0, .bool false, .int .i64 0, .int .i64 0, .bool false, .bool false, .int .i64 0, .bool false, .bool false] 31) HD.out.lt)
  clear HB HD
  generalize w1.alloc (.cells #[.bool false, .int .i64 0, .int .i64 0, .bool false, .int .i64 0, .int .i64 0, .bool false, .bool false, .int .i64 0, .bool false, .bool false] 31) = w3 at *
  generalize w1.heap.size = gx at *
  go_upto_region 7 with fail
  go_loopw [9, 10] (fun z y wr => ∃ (k : Nat) (h : Bool) (i o : Int) (g : Bool) (l s : Int) (j cl : Bool) (n : Int) (f c : Bool), k ≤ K ∧ z = .int .i64 n ∧ y = .int .i64 (k : Int) ∧ Hid (0 ≤ n ∧ n ≤ (k : Int) ∧ PosR s) ∧ Hid (TrW w wr #[.int .i64 d0, .int .i64 d1, .int .i64 d2] gx #[.bool h, .int .i64 i, .int .i64 o, .bool g, .int .i64 l, .int .i64 s, .bool j, .bool cl, .int .i64 n, .bool f, .bool c])) (fun _ y _ => K - (intOf y).toNat)
  case atStart => exact ⟨0, false, 0, 0, false, 0, 0, false, false, 0, false, false, by omega, rfl, rfl, Lib.hid ⟨by omega, by omega, by unfold PosR; omega⟩, HS⟩
  case round =>
    obtain ⟨k, h, i, o, g, l, s, j, cl, n, f, c, hk, rfl, rfl, HI, HS'⟩ := hrel
    clear HS
    by_cases hlt : k < K
    · have hltI : (k : Int) < (K : Int) := by omega
      obtain ⟨y, hy⟩ : ∃ y, ls[k]? = some y := ⟨_, List.getElem?_eq_getElem (by rw [← HN.out]; exact hlt)⟩
      obtain ⟨g2, o2, ea, hr⟩ := HV.out.at_ hy
      subst ea
      obtain ⟨fr, ci, co, cs, li⟩ := y
      have HR := Lib.hid (hr.below HS'.out.bel)
      have HG2 := Lib.hid (Nat.lt_trans (lt_of_cell hr.1) HS'.out.lt)
      clear hy hr
      go_upto_region 9 with fail
      go_cut [] (fun wx => ∃ (h' : Bool) (i' o' : Int) (g' : Bool) (l' s' : Int) (j' cl' : Bool) (n' : Int) (f' c' : Bool), Hid (TrW w wx #[.int .i64 d0, .int .i64 d1, .int .i64 d2] gx #[.bool h', .int .i64 i', .int .i64 o', .bool g', .int .i64 l', .int .i64 s', .bool j', .bool cl', .int .i64 n', .bool f', .bool c']) ∧ Hid (RCt wx g2 (o2 + k * 5) ⟨fr, ci, co, cs, li⟩) ∧ Hid (PosR s') ∧ Hid ((cl' = true ∧ fr = true ∧ ahd ci co = 0 ∧ li % 4 = 0 ∧ f' = false ∧ c' = false ∧ n' = 0)
        ∨ (cl' = false ∧ n' = n + 1 ∧ (fr = false → f' = true ∧ c' = true) ∧ (wtt d0 d1 d2 cs < n' → c' = true))))
      case first =>
        by_cases hr : k < M
        · obtain ⟨rb, hy⟩ : ∃ y, bs[k]? = some y := ⟨_, List.getElem?_eq_getElem (by rw [← HM.out]; exact hr)⟩
          obtain ⟨g3, o3, ea, hb⟩ := HU.out.at_ hy
          subst ea
          have hb2 : w.cell? ⟨g3, o3 + k, none⟩ = some (.bool rb) := by simpa [RBo] using hb
          have hrI : (k : Int) < (M : Int) := by omega
          have r5 := below_cell HS'.out.bel hb2
          clear hy hb hb2
          obtain ⟨h', i', o', g', l', s', j', cl', n', f', c', e1, e2, e3⟩ := safe_eq h i o g l s j cl n f c fr ci co cs li d0 d1 d2 rb HI.out.2.2 HI.out.1 (by have := HI.out.2.1; have := HL.out; omega)
          have HST := Lib.hid (tstep_to h i o g l s j cl n f c fr ci co cs li d0 d1 d2 rb h' i' o' g' l' s' j' cl' n' f' c' e1 HI.out.2.2)
          have HP := Lib.hid e2
          have HO := Lib.hid e3
          clear e1 e2 e3
          have HSd := Lib.hid (HS'.out.call (bel_drew wr))
          have HRd := Lib.hid (HR.out.below (bel_drew wr))
          obtain ⟨t0, t1, t2, t3, t4, t5, t6, t7, t8, t9, t10⟩ := HS'.out.t.c11
          obtain ⟨y0, y1, y2⟩ := HS'.out.d.three
          obtain ⟨r0, r1, r2, r3, r4⟩ := HR.out
          dsimp only at r0 r1 r2 r3 r4
          go_wp2_with fail
          go_still_tail 16, (by kernel_rfl)
          change wpList _ _ _ _ _ wr.drew
          generalize wr.drew = w4 at *
          clear t0 t1 t2 t3 t4 t5 t6 t7 t8 t9 t10 y0 y1 y2 r0 r1 r2 r3 r4 HS' HR
          go_wp2_with fail
          (with_reducible refine (HST.out _).mono ?_)
          rintro e w5 ⟨rfl, hb⟩
          have HS5 := Lib.hid (HSd.out.call hb)
          have HR5 := Lib.hid (HRd.out.below hb)
          clear hb HSd HRd HST
          obtain ⟨t0, t1, t2, t3, t4, t5, t6, t7, t8, t9, t10⟩ := HS5.out.t.c11
          obtain ⟨f0, f1, f2, f3, f4, f5, f6, f7, f8, f9, f10⟩ := HS5.out.t.f11
          go_wp2_with fail
          go_meet
          exact ⟨h', i', o', g', l', s', j', cl', n', f', c', Lib.hid (HS5.out.put (.bool h') (.int .i64 i') (.int .i64 o') (.bool g') (.int .i64 l') (.int .i64 s') (.bool j') (.bool cl') (.int .i64 n') (.bool f') (.bool c')), Lib.hid (HR5.out.keep (keep_putT w5 gx (.bool h') (.int .i64 i') (.int .i64 o') (.bool g') (.int .i64 l') (.int .i64 s') (.bool j') (.bool cl') (.int .i64 n') (.bool f') (.bool c')) (Nat.ne_of_lt HG2.out)), HP, HO⟩
        · have hrI : ¬ (k : Int) < (M : Int) := by omega
          obtain ⟨h', i', o', g', l', s', j', cl', n', f', c', e1, e2, e3⟩ := safe_eq h i o g l s j cl n f c fr ci co cs li d0 d1 d2 false HI.out.2.2 HI.out.1 (by have := HI.out.2.1; have := HL.out; omega)
          have HST := Lib.hid (tstep_to h i o g l s j cl n f c fr ci co cs li d0 d1 d2 false h' i' o' g' l' s' j' cl' n' f' c' e1 HI.out.2.2)
          have HP := Lib.hid e2
          have HO := Lib.hid e3
          clear e1 e2 e3
          have HSd := Lib.hid (HS'.out.call (bel_drew wr))
          have HRd := Lib.hid (HR.out.below (bel_drew wr))
          obtain ⟨t0, t1, t2, t3, t4, t5, t6, t7, t8, t9, t10⟩ := HS'.out.t.c11
          obtain ⟨y0, y1, y2⟩ := HS'.out.d.three
          obtain ⟨r0, r1, r2, r3, r4⟩ := HR.out
          dsimp only at r0 r1 r2 r3 r4
          go_wp2_with fail
          go_still_tail 16, (by kernel_rfl)
          change wpList _ _ _ _ _ wr.drew
          generalize wr.drew = w4 at *
          clear t0 t1 t2 t3 t4 t5 t6 t7 t8 t9 t10 y0 y1 y2 r0 r1 r2 r3 r4 HS' HR
          go_wp2_with fail
          (with_reducible refine (HST.out _).mono ?_)
          rintro e w5 ⟨rfl, hb⟩
          have HS5 := Lib.hid (HSd.out.call hb)
          have HR5 := Lib.hid (HRd.out.below hb)
          clear hb HSd HRd HST
          obtain ⟨t0, t1, t2, t3, t4, t5, t6, t7, t8, t9, t10⟩ := HS5.out.t.c11
          obtain ⟨f0, f1, f2, f3, f4, f5, f6, f7, f8, f9, f10⟩ := HS5.out.t.f11
          go_wp2_with fail
          go_meet
          exact ⟨h', i', o', g', l', s', j', cl', n', f', c', Lib.hid (HS5.out.put (.bool h') (.int .i64 i') (.int .i64 o') (.bool g') (.int .i64 l') (.int .i64 s') (.bool j') (.bool cl') (.int .i64 n') (.bool f') (.bool c')), Lib.hid (HR5.out.keep (keep_putT w5 gx (.bool h') (.int .i64 i') (.int .i64 o') (.bool g') (.int .i64 l') (.int .i64 s') (.bool j') (.bool cl') (.int .i64 n') (.bool f') (.bool c')) (Nat.ne_of_lt HG2.out)), HP, HO⟩
      case rest =>
        obtain ⟨h', i', o', g', l', s', j', cl', n', f', c', HS2, HR2, HP, HO⟩ := hcut
        clear HS' HR
        obtain ⟨z, hz, ha⟩ := ahd_and ci co
        have a3 := and3 li
        obtain ⟨n0, hn0⟩ : ∃ m, ahd ci co = m := ⟨_, rfl⟩
        obtain ⟨q0, hq0⟩ : ∃ m, li % 4 = m := ⟨_, rfl⟩
        rw [hn0] at ha
        rw [hq0] at a3
        have HO1 := HO.out
        rw [hn0, hq0] at HO1
        replace HO := Lib.hid HO1
        have HZ := Lib.hid (And.intro hz (And.intro ha a3))
        clear hz ha a3 hn0 hq0 HO1
        go_upto_region 10 with fail
        go_cut [11] (fun z wx => ∃ on : Bool, z = .bool on ∧ Hid ((fr = false ∧ on = true) ∨ (fr = true ∧ ((¬ n0 = 0 ∧ on = true) ∨ (n0 = 0 ∧ ¬ q0 = 0 ∧ on = true) ∨ (n0 = 0 ∧ q0 = 0 ∧ on = false)))) ∧ Hid (TrW w wx #[.int .i64 d0, .int .i64 d1, .int .i64 d2] gx #[.bool h', .int .i64 i', .int .i64 o', .bool g', .int .i64 l', .int .i64 s', .bool j', .bool cl', .int .i64 n', .bool f', .bool c']) ∧ Hid (RCt wx g2 (o2 + k * 5) ⟨fr, ci, co, cs, li⟩))
        case first =>
          obtain ⟨r0, r1, r2, r3, r4⟩ := HR2.out
          dsimp only at r0 r1 r2 r3 r4
          obtain ⟨hz, ha, a3⟩ := HZ.out
          clear HO
          cases fr
          · as_aux_lemma =>
              go_quiet (fail)
              go_wp2_with fail
              go_meet
              exact ⟨true, rfl, Lib.hid (by simp), Lib.hid (HS2.out.call (bel_drewN _ _)), Lib.hid (HR2.out.below (bel_drewN _ _))⟩
          · by_cases hn : n0 = 0
            · subst hn
              by_cases hq : q0 = 0
              · subst hq
                as_aux_lemma =>
                  go_quiet (fail)
                  go_wp2_with fail
                  go_meet
                  exact ⟨false, rfl, Lib.hid (by simp), Lib.hid (HS2.out.call (bel_drewN _ _)), Lib.hid (HR2.out.below (bel_drewN _ _))⟩
              · have b2 : (q0 != 0) = true := by simpa using hq
                have HQ := Lib.hid hq
                clear hq
                as_aux_lemma =>
                  go_quiet (fail)
                  go_wp2_with fail
                  go_meet
                  exact ⟨true, rfl, Lib.hid (by simp [HQ.out]), Lib.hid (HS2.out.call (bel_drewN _ _)), Lib.hid (HR2.out.below (bel_drewN _ _))⟩
            · have b1 : (n0 != 0) = true := by simpa using hn
              have HQ := Lib.hid hn
              clear hn
              as_aux_lemma =>
                go_quiet (fail)
                go_wp2_with fail
                go_meet
                exact ⟨true, rfl, Lib.hid (by simp [HQ.out]), Lib.hid (HS2.out.call (bel_drewN _ _)), Lib.hid (HR2.out.below (bel_drewN _ _))⟩
        case rest =>
          obtain ⟨on, rfl, HON, HS3, HR3⟩ := hcut
          clear HS2 HR2 HZ
          go_upto_region 11 with fail
          go_cut [113] (fun z wx => z = .bool false ∧ Hid (TrW w wx #[.int .i64 d0, .int .i64 d1, .int .i64 d2] gx #[.bool h', .int .i64 i', .int .i64 o', .bool g', .int .i64 l', .int .i64 s', .bool j', .bool cl', .int .i64 n', .bool f', .bool c']) ∧ Hid (RCt wx g2 (o2 + k * 5) ⟨fr, ci, co, cs, li⟩))
          case first =>
            obtain ⟨t0, t1, t2, t3, t4, t5, t6, t7, t8, t9, t10⟩ := HS3.out.t.c11
            obtain ⟨r0, r1, r2, r3, r4⟩ := HR3.out
            dsimp only at r0 r1 r2 r3 r4
            rcases HON.out with ⟨rfl, rfl⟩ | ⟨rfl, hon⟩
            · rcases HO.out with ⟨_, h, _⟩ | ⟨rfl, _, h, _⟩
              · cases h
              · obtain ⟨rfl, rfl⟩ := h rfl
                clear h HO HON
                as_aux_lemma =>
                  go_wp2_with fail
                  go_meet
                  exact ⟨rfl, HS3, HR3⟩
            · rcases HO.out with ⟨rfl, _, h1, h2, rfl, rfl, _⟩ | ⟨rfl, _, _, _⟩
              · obtain rfl : on = false := by
                  rcases hon with ⟨h, _⟩ | ⟨_, h, _⟩ | ⟨_, _, h⟩
                  · exact absurd h1 h
                  · exact absurd h2 h
                  · exact h
                clear hon h1 h2 HO HON
                as_aux_lemma =>
                  go_wp2_with fail
                  go_meet
                  exact ⟨rfl, HS3, HR3⟩
              · clear hon HO HON
                cases on
                · as_aux_lemma =>
                    go_wp2_with fail
                    go_meet
                    exact ⟨rfl, HS3, HR3⟩
                · as_aux_lemma =>
                    go_wp2_with fail
                    go_meet
                    exact ⟨rfl, HS3, HR3⟩
          case rest =>
            obtain ⟨rfl, HS4, HR4⟩ := hcut
            clear HS3 HR3 HON
            obtain ⟨t0, t1, t2, t3, t4, t5, t6, t7, t8, t9, t10⟩ := HS4.out.t.c11
            obtain ⟨y0, y1, y2⟩ := HS4.out.d.three
            obtain ⟨r0, r1, r2, r3, r4⟩ := HR4.out
            dsimp only at r0 r1 r2 r3 r4
            rcases HO.out with ⟨rfl, rfl, _, _, rfl, rfl, rfl⟩ | ⟨rfl, hn', _, hcall⟩
            · have HNN := Lib.hid True.intro
              clear HO
              as_aux_lemma =>
                go_wp2_with fail
                go_roundw
                case rel => exact ⟨k + 1, _, _, _, _, _, _, _, _, _, _, _, by omega, rfl, by go_num, Lib.hid ⟨by have := HI.out; have := HNN.out; omega, by have := HI.out; have := HNN.out; omega, HP.out⟩, HS4⟩
                case measure => simp [intOf]; omega
            · have HNN := Lib.hid hn'
              have e9 : IntKind.i64.wrap (n + 1) = n' := by rw [IntKind.wrap_i64]; have := HI.out; have := HL.out; omega
              have q1 : (n' != n') = false := by simp
              clear HO hn'
              rcases (show cs < 0 ∨ 2 < cs ∨ cs = 0 ∨ cs = 1 ∨ cs = 2 by omega) with hc | hc | rfl | rfl | rfl
              · have b1 : decide ((0 : Int) ≤ cs) = false := by simpa using hc
                clear hcall hc
                as_aux_lemma =>
                  go_wp2_with fail
                  go_roundw
                  case rel => exact ⟨k + 1, _, _, _, _, _, _, _, _, _, _, _, by omega, rfl, by go_num, Lib.hid ⟨by have := HI.out; have := HNN.out; omega, by have := HI.out; have := HNN.out; omega, HP.out⟩, HS4⟩
                  case measure => simp [intOf]; omega
              · have b1 : decide ((0 : Int) ≤ cs) = true := by simp; omega
                have b2 : decide (cs ≤ (2 : Int)) = false := by simpa using hc
                clear hcall hc
                as_aux_lemma =>
                  go_wp2_with fail
                  go_roundw
                  case rel => exact ⟨k + 1, _, _, _, _, _, _, _, _, _, _, _, by omega, rfl, by go_num, Lib.hid ⟨by have := HI.out; have := HNN.out; omega, by have := HI.out; have := HNN.out; omega, HP.out⟩, HS4⟩
                  case measure => simp [intOf]; omega
              · have hw : wtt d0 d1 d2 0 = d0 := by unfold wtt; simp
                rw [hw] at hcall
                by_cases hd : d0 < n'
                · obtain rfl := hcall hd
                  have b3 : decide (d0 < n') = true := by simpa using hd
                  clear hcall hd hw
                  as_aux_lemma =>
                    go_wp2_with fail
                    go_roundw
                    case rel => exact ⟨k + 1, _, _, _, _, _, _, _, _, _, _, _, by omega, rfl, by go_num, Lib.hid ⟨by have := HI.out; have := HNN.out; omega, by have := HI.out; have := HNN.out; omega, HP.out⟩, HS4⟩
                    case measure => simp [intOf]; omega
                · have b3 : decide (d0 < n') = false := by simpa using hd
                  clear hcall hd hw
                  as_aux_lemma =>
                    go_wp2_with fail
                    go_roundw
                    case rel => exact ⟨k + 1, _, _, _, _, _, _, _, _, _, _, _, by omega, rfl, by go_num, Lib.hid ⟨by have := HI.out; have := HNN.out; omega, by have := HI.out; have := HNN.out; omega, HP.out⟩, HS4⟩
                    case measure => simp [intOf]; omega
              · have hw : wtt d0 d1 d2 1 = d1 := by unfold wtt; simp
                rw [hw] at hcall
                by_cases hd : d1 < n'
                · obtain rfl := hcall hd
                  have b3 : decide (d1 < n') = true := by simpa using hd
                  clear hcall hd hw
                  as_aux_lemma =>
                    go_wp2_with fail
                    go_roundw
                    case rel => exact ⟨k + 1, _, _, _, _, _, _, _, _, _, _, _, by omega, rfl, by go_num, Lib.hid ⟨by have := HI.out; have := HNN.out; omega, by have := HI.out; have := HNN.out; omega, HP.out⟩, HS4⟩
                    case measure => simp [intOf]; omega
                · have b3 : decide (d1 < n') = false := by simpa using hd
                  clear hcall hd hw
                  as_aux_lemma =>
                    go_wp2_with fail
                    go_roundw
                    case rel => exact ⟨k + 1, _, _, _, _, _, _, _, _, _, _, _, by omega, rfl, by go_num, Lib.hid ⟨by have := HI.out; have := HNN.out; omega, by have := HI.out; have := HNN.out; omega, HP.out⟩, HS4⟩
                    case measure => simp [intOf]; omega
              · have hw : wtt d0 d1 d2 2 = d2 := by unfold wtt; simp
                rw [hw] at hcall
                by_cases hd : d2 < n'
                · obtain rfl := hcall hd
                  have b3 : decide (d2 < n') = true := by simpa using hd
                  clear hcall hd hw
                  as_aux_lemma =>
                    go_wp2_with fail
                    go_roundw
                    case rel => exact ⟨k + 1, _, _, _, _, _, _, _, _, _, _, _, by omega, rfl, by go_num, Lib.hid ⟨by have := HI.out; have := HNN.out; omega, by have := HI.out; have := HNN.out; omega, HP.out⟩, HS4⟩
                    case measure => simp [intOf]; omega
                · have b3 : decide (d2 < n') = false := by simpa using hd
                  clear hcall hd hw
                  as_aux_lemma =>
                    go_wp2_with fail
                    go_roundw
                    case rel => exact ⟨k + 1, _, _, _, _, _, _, _, _, _, _, _, by omega, rfl, by go_num, Lib.hid ⟨by have := HI.out; have := HNN.out; omega, by have := HI.out; have := HNN.out; omega, HP.out⟩, HS4⟩
                    case measure => simp [intOf]; omega
    · have hltI : ¬ (k : Int) < (K : Int) := by omega
      go_wp2_with fail
      go_ret
      exact ⟨rfl, HS'.out.bel⟩
theorem safe_any (v u : Value) (ls : List Ct) (bs : List Bool) (d0 d1 d2 : Int) (w : World) (hv : Els RCt 5 w v ls) (hu : Els RBo 1 w u bs) : Calls Try.prog 3 #[v, .agg #[.int .i64 d0, .int .i64 d1, .int .i64 d2], u] w fun e w' => e = .returned (.bool true) ∧ Below w.heap.size w w' := by
  by_cases hl : ls.length ≤ 200
  · exact safe_main v u ls bs d0 d1 d2 w hv hu hl
  · exact safe_out v u ls d0 d1 d2 w hv (by omega)
end Go.Proofs.Yteknfjnfaedebaa

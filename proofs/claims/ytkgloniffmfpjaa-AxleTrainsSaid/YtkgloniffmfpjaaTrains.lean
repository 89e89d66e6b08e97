/-
  The walk of crossbucklaw11.AxleTrains: true, whatever it is given.
-/
import Derived.Test.YtkgloniffmfpjaaSmall
import Derived.Test.YtkgloniffmfpjaaSlices
import Derived.StillTailTactics
import Derived.Lib.QuietBelow
import Derived.BigQuiet
namespace Go.Proofs.Ytkgloniffmfpjaa
open Go.RowKit

theorem trains_out (s : Int) (v : Value) (xs : List Int) (w : World) (hv : Sl (Value.int .i64) w v xs) (hl : 200 < xs.length) : Calls Try.prog 8 #[.int .i64 s, v] w fun e w' => e = .returned (.bool true) ∧ Below w.heap.size w w' := by
  obtain ⟨a, c, ev⟩ := hv.len
  obtain ⟨n, hn⟩ : ∃ n, n = xs.length := ⟨_, rfl⟩
  rw [← hn] at ev hl
  subst ev
  have hlI : (200 : Int) < (n : Int) := by omega
  clear hv hn hl
  go_enter Try.func8, Try.ntmps8
  go_wp2_with fail
  (with_reducible refine (small_true _).mono ?_)
  rintro e w1 ⟨rfl, hb⟩
  have HB1 := Lib.hid hb
  clear hb
  go_wp2_with fail
  go_ret
  exact ⟨rfl, HB1.out⟩
theorem Blk.put4 {w : World} {g : Nat} {c0 c1 c2 c3 : Value} {T : TypeId} (h : Blk w g #[c0, c1, c2, c3] T) (u0 u1 u2 u3 : Value) : Blk ((((w.setCell ⟨g, 0, none⟩ u0).setCell ⟨g, 1, none⟩ u1).setCell ⟨g, 2, none⟩ u2).setCell ⟨g, 3, none⟩ u3) g #[u0, u1, u2, u3] T := (((h.set_ 0 u0).set_ 1 u1).set_ 2 u2).set_ 3 u3
theorem keep_put4 (w : World) (b : Nat) (u0 u1 u2 u3 : Value) : Keep (fun x => x = b) w ((((w.setCell ⟨b, 0, none⟩ u0).setCell ⟨b, 1, none⟩ u1).setCell ⟨b, 2, none⟩ u2).setCell ⟨b, 3, none⟩ u3) := ((((Keep.refl (fun x => x = b) w).store b 0 u0 rfl).store b 1 u1 rfl).store b 2 u2 rfl).store b 3 u3 rfl
/-- What comes of one train. -/
theorem train_facts (t x : Int) (h0 : ¬ x < 1) (h1 : ¬ 64 < x) : ∃ u t' u', IntKind.i64.wrap (t + x) = u ∧ t % 256 = t' ∧ u % 256 = u'
    ∧ wrg true t' t' false u t = false ∧ clr true u' t' false = false ∧ ahd u' t' = x ∧ wrg true u' t' false u u = false ∧ clr true u' u' false = true := by
  refine ⟨_, _, _, rfl, rfl, rfl, ?_⟩
  have e1 := wrap_256 (t + x)
  generalize IntKind.i64.wrap (t + x) = u at *
  have a1 : ahd u t = x := by unfold ahd; omega
  have b1 : ahd u (t % 256) = x := by rw [ahd_mod_right, a1]
  have b2 : ahd t (t % 256) = 0 := by rw [ahd_mod_right, ahd_self]
  have b3 : ahd u (u % 256) = 0 := by rw [ahd_mod_right, ahd_self]
  have c2 : ahd (u % 256) (t % 256) = x := by rw [ahd_mod_left, b1]
  refine ⟨?_, ?_, c2, ?_, ?_⟩
  · unfold wrg; rw [b1, b2, a1]; simp; omega
  · unfold clr; rw [c2]; simp; omega
  · unfold wrg; rw [b3, b1, ahd_self]; simp; omega
  · unfold clr; rw [ahd_self]; simp
theorem clr_self (x : Int) : clr true x x false = true := by unfold clr; rw [ahd_self]; simp
set_option maxHeartbeats 8000000 in
set_option maxRecDepth 10000 in
theorem trains_main (s : Int) (v : Value) (xs : List Int) (w : World) (hv : Sl (Value.int .i64) w v xs) (hl : xs.length ≤ 200) : Calls Try.prog 8 #[.int .i64 s, v] w fun e w' => e = .returned (.bool true) ∧ Below w.heap.size w w' := by
  obtain ⟨a, c, ev⟩ := hv.len
  obtain ⟨n, hn⟩ : ∃ n, n = xs.length := ⟨_, rfl⟩
  rw [← hn] at ev hl
  subst ev
  have HV := Lib.hid hv
  have HN := Lib.hid hn
  have hlI : ¬ (200 : Int) < (n : Int) := by omega
  obtain ⟨s', hs⟩ : ∃ n, s % 256 = n := ⟨_, rfl⟩
  have H1 := Lib.hid (step_ax false 0 0 false s s s' s' false hs hs (by unfold wrg; rw [ahd_self s]; simp))
  have HS := Lib.hid hs
  clear hv hn hs
  go_enter Try.func8, Try.ntmps8
  go_wp2_with fail
  (with_reducible refine (small_true _).mono ?_)
  rintro e w1 ⟨rfl, hb⟩
  have HB1 := Lib.hid hb
  clear hb
  go_wp2_with fail
  (with_reducible refine (H1.out _).mono ?_)
  rintro e w2 ⟨rfl, hb⟩
  replace HB1 := Lib.hid (below_call HB1.out hb)
  have HG := Lib.hid HB1.out.size
  replace HB1 := Lib.hid (below_alloc HB1.out (.cells #[.bool true, .int .i64 s', .int .i64 s', .bool false] 23))
  have HX1 := Lib.hid (box4 w2 true s' s' false)
  obtain ⟨g, hg⟩ : ∃ g, g = w2.heap.size := ⟨_, rfl⟩
  rw [← hg] at HX1 HG
  clear hb
  go_wp2_with fail
  rw [← hg]
  generalize w2.alloc (.cells #[.bool true, .int .i64 s', .int .i64 s', .bool false] 23) = w3 at *
  clear hg
  go_loopw [6, 8] (fun z j wr => ∃ (k : Nat) (t t' : Int), k ≤ n ∧ z = .int .i64 t ∧ j = .int .i64 (k : Int) ∧ Hid (t % 256 = t') ∧ Hid (Below w.heap.size w wr) ∧ Hid (Blk wr g #[.bool true, .int .i64 t', .int .i64 t', .bool false] 23)) (fun _ j _ => n - (intOf j).toNat)
  case atStart => exact ⟨0, s, s', by omega, rfl, rfl, HS, HB1, HX1⟩
  case round =>
    obtain ⟨k, t, t', hk, rfl, rfl, HT, HB, HX⟩ := hrel
    clear HB1 HX1 HS
    by_cases hlt : k < n
    · have hltI : (k : Int) < (n : Int) := by omega
      obtain ⟨g2, o2, cap, x, ev, _, hg2, hm, hc⟩ := HV.out.at_ k (by rw [← HN.out]; exact hlt)
      simp only [Value.slice.injEq] at ev
      obtain ⟨rfl, en, rfl⟩ := ev
      have hc := below_cell HB.out hc
      have HNE := Lib.hid (show g2 ≠ g by have := HG.out; omega)
      clear hm hg2 en
      rcases (show x < 1 ∨ (¬ x < 1 ∧ 64 < x) ∨ (¬ x < 1 ∧ ¬ 64 < x) by omega) with h1 | ⟨h1, h2⟩ | ⟨h1, h2⟩
      · go_wp2_with fail
        go_ret
        exact ⟨rfl, HB.out⟩
      · go_wp2_with fail
        go_ret
        exact ⟨rfl, HB.out⟩
      · obtain ⟨u, t2, u', hu, ht2, hu', f1, f2, f3, f4, f5⟩ := train_facts t x h1 h2
        obtain rfl : t2 = t' := by rw [← ht2, HT.out]
        have HS1 := Lib.hid (step_ax true t2 t2 false u t u' t2 false hu' ht2 f1)
        have HC1 := Lib.hid (clear_to true u' t2 false false f2)
        have HO1 := Lib.hid (on_to true u' t2 false x f3)
        have HS2 := Lib.hid (step_ax true u' t2 false u u u' u' false hu' hu' f4)
        have HC2 := Lib.hid (clear_to true u' u' false true f5)
        have HU := Lib.hid hu'
        have HC := Lib.hid hc
        have q1 : (x != x) = false := by simp
        clear ht2 hu' f1 f2 f3 f4 f5
        obtain ⟨c0, c1, c2, c3⟩ := HX.out.four
        have HBd := Lib.hid (below_call HB.out (bel_drew wr))
        have HXd := Lib.hid (HX.out.below (bel_drew wr))
        have HCd := Lib.hid (below_cell (bel_drew wr) HC.out)
        go_wp2_with fail
        go_still_tail 8, (by kernel_rfl)
        change wpList _ _ _ _ _ wr.drew
        generalize wr.drew = w4 at *
        clear c0 c1 c2 c3 hc HB HX HC
        go_wp2_with fail
        (with_reducible refine (HS1.out _).mono ?_)
        rintro e w5 ⟨rfl, hb⟩
        replace HBd := Lib.hid (below_call HBd.out hb)
        replace HXd := Lib.hid (HXd.out.below hb)
        replace HCd := Lib.hid (below_cell hb HCd.out)
        obtain ⟨c0, c1, c2, c3⟩ := HXd.out.four
        obtain ⟨d0, d1, d2, d3⟩ := HXd.out.frz4
        clear hb
        go_wp2_with fail
        replace HBd := Lib.hid (bel_set4 HBd.out HG.out (.bool true) (.int .i64 u') (.int .i64 t2) (.bool false))
        replace HXd := Lib.hid (HXd.out.put4 (.bool true) (.int .i64 u') (.int .i64 t2) (.bool false))
        replace HCd := Lib.hid ((keep_put4 w5 g (.bool true) (.int .i64 u') (.int .i64 t2) (.bool false)).cell HCd.out HNE.out)
        clear c0 c1 c2 c3 d0 d1 d2 d3
        generalize (((w5.setCell ⟨g, 0, none⟩ (.bool true)).setCell ⟨g, 1, none⟩ (.int .i64 u')).setCell ⟨g, 2, none⟩ (.int .i64 t2)).setCell ⟨g, 3, none⟩ (.bool false) = w6 at *
        obtain ⟨c0, c1, c2, c3⟩ := HXd.out.four
        have c4 := HCd.out
        replace c0 := cell_regrown c0
        replace c1 := cell_regrown c1
        replace c2 := cell_regrown c2
        replace c3 := cell_regrown c3
        replace c4 := cell_regrown c4
        refine wp_region_quiet_below (by kernel_rfl) (by kernel_rfl) ?_
        repeat (go_big_quiet_step (first | (with_reducible exact Calls.regrown_of (HC1.out _)) | (with_reducible exact Calls.regrown_of (HO1.out _))))
        refine wpQuiet_nil ?_
        intro _ hw'
        obtain ⟨⟨dq, osq⟩, hw''⟩ := hw'
        subst hw''
        replace HBd := Lib.hid (below_call HBd.out (below_regrown _ dq osq))
        replace HXd := Lib.hid (HXd.out.below (below_regrown _ dq osq))
        replace HCd := Lib.hid (below_cell (below_regrown _ dq osq) HCd.out)
        clear c0 c1 c2 c3 c4
        generalize Go.Sort.grow (redrawn w6 dq) osq = w7 at *
        obtain ⟨c0, c1, c2, c3⟩ := HXd.out.four
        have c4 := HCd.out
        go_wp2_with fail
        (with_reducible refine (HS2.out _).mono ?_)
        rintro e w8 ⟨rfl, hb⟩
        replace HBd := Lib.hid (below_call HBd.out hb)
        replace HXd := Lib.hid (HXd.out.below hb)
        clear hb c0 c1 c2 c3 c4
        obtain ⟨c0, c1, c2, c3⟩ := HXd.out.four
        obtain ⟨d0, d1, d2, d3⟩ := HXd.out.frz4
        go_wp2_with fail
        replace HBd := Lib.hid (bel_set4 HBd.out HG.out (.bool true) (.int .i64 u') (.int .i64 u') (.bool false))
        replace HXd := Lib.hid (HXd.out.put4 (.bool true) (.int .i64 u') (.int .i64 u') (.bool false))
        clear c0 c1 c2 c3 d0 d1 d2 d3
        generalize (((w8.setCell ⟨g, 0, none⟩ (.bool true)).setCell ⟨g, 1, none⟩ (.int .i64 u')).setCell ⟨g, 2, none⟩ (.int .i64 u')).setCell ⟨g, 3, none⟩ (.bool false) = w9 at *
        (with_reducible refine (HC2.out _).mono ?_)
        rintro e w10 ⟨rfl, hb⟩
        replace HBd := Lib.hid (below_call HBd.out hb)
        replace HXd := Lib.hid (HXd.out.below hb)
        clear hb
        go_wp2_with fail
        go_roundw
        case rel => exact ⟨k + 1, u, u', by omega, rfl, by go_num, HU, HBd, HXd⟩
        case measure => simp [intOf]; omega
    · have hltI : ¬ (k : Int) < (n : Int) := by omega
      have HC := Lib.hid (clear_to true t' t' false true (clr_self t'))
      obtain ⟨c0, c1, c2, c3⟩ := HX.out.four
      go_wp2_with fail
      (with_reducible refine (HC.out _).mono ?_)
      rintro e w4 ⟨rfl, hb⟩
      replace HB := Lib.hid (below_call HB.out hb)
      clear hb
      go_wp2_with fail
      go_ret
      exact ⟨rfl, HB.out⟩
theorem trains_any (s : Int) (v : Value) (xs : List Int) (w : World) (hv : Sl (Value.int .i64) w v xs) : Calls Try.prog 8 #[.int .i64 s, v] w fun e w' => e = .returned (.bool true) ∧ Below w.heap.size w w' := by
  by_cases hl : xs.length ≤ 200
  · exact trains_main s v xs w hv hl
  · exact trains_out s v xs w hv (by omega)
end Go.Proofs.Ytkgloniffmfpjaa

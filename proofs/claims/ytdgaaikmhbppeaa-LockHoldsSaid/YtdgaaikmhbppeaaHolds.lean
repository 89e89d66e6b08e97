/-
  The walk of crossbucklaw22.LockHolds: true, whatever it is given.
-/
import Derived.Test.YtdgaaikmhbppeaaRow
import Derived.Lib.QuietBelow
import Derived.StillTailTactics
namespace Go.Proofs.Ytdgaaikmhbppeaa
open Go.RowKit

theorem holds_out (v : Value) (ls : List Bool) (hold : Int) (w : World) (hv : Els RBo 1 w v ls) (h : ¬ (ls.length ≤ 400 ∧ 1 ≤ hold ∧ hold ≤ 400)) : Calls Try.prog 4 #[v, .int .i64 hold] w fun e w' => e = .returned (.bool true) ∧ Below w.heap.size w w' := by
  obtain ⟨a, c, rfl⟩ := hv.len
  obtain ⟨K, hn⟩ : ∃ n, n = ls.length := ⟨_, rfl⟩
  rw [← hn] at h ⊢
  clear hn hv
  rcases (show 400 < (K : Int) ∨ (¬ 400 < (K : Int) ∧ hold < 1) ∨ (¬ 400 < (K : Int) ∧ ¬ hold < 1 ∧ 400 < hold) by omega) with h1 | ⟨h1, h2⟩ | ⟨h1, h2, h3⟩
  all_goals
    clear h
    go_enter Try.func4, Try.ntmps4
    go_wp2_with fail
    (with_reducible refine (small_true _).mono ?_)
    rintro e w1 ⟨rfl, hb⟩
    have HB1 := Lib.hid hb
    clear hb
    go_wp2_with fail
    go_ret
    exact ⟨rfl, HB1.out⟩
set_option maxHeartbeats 4000000 in
set_option maxRecDepth 10000 in
theorem holds_main (v : Value) (ls : List Bool) (hold : Int) (w : World) (hv : Els RBo 1 w v ls) (hK : ls.length ≤ 400) (h1 : 1 ≤ hold) (h2 : hold ≤ 400) : Calls Try.prog 4 #[v, .int .i64 hold] w fun e w' => e = .returned (.bool true) ∧ Below w.heap.size w w' := by
  obtain ⟨a, c, ev⟩ := hv.len
  obtain ⟨K, hn⟩ : ∃ n, n = ls.length := ⟨_, rfl⟩
  rw [← hn] at ev hK
  subst ev
  have HV := Lib.hid hv
  have HN := Lib.hid hn
  have p0 : ¬ 400 < (K : Int) := by omega
  have p1 : ¬ hold < 1 := by omega
  have p2 : ¬ 400 < hold := by omega
  have pw : wrap64 (-1 - hold) = -1 - hold := IntWalk.wrap64_in _ (by omega)
  have HA := Lib.hid h1
  have HM := Lib.hid h2
  have HK := Lib.hid hK
  clear hv hn h1 h2 hK
  go_enter Try.func4, Try.ntmps4
  go_wp2_with fail
  (with_reducible refine (small_true _).mono ?_)
  rintro e w1 ⟨rfl, hb⟩
  have HB := Lib.hid (below_alloc hb (.cells #[.bool false, .int .i64 0] 27))
  have HX := Lib.hid (lobox w1 false 0)
  have HG := Lib.hid hb.size
  clear hb
  go_wp2_with fail
  generalize w1.alloc (.cells #[.bool false, .int .i64 0] 27) = w2 at *
  generalize w1.heap.size = g at *
  go_loopw [7, 8] (fun x z wr => ∃ k : Nat, k ≤ K ∧ x = .int .i64 (lolast (sais ls) hold k) ∧ z = .int .i64 (k : Int) ∧ Hid (Blk wr g #[.bool (lorun (sais ls) hold k).c, .int .i64 (lorun (sais ls) hold k).h] 27) ∧ Hid (Below w.heap.size w wr)) (fun _ z _ => K - (intOf z).toNat)
  case atStart => exact ⟨0, by omega, rfl, rfl, HX, HB⟩
  case round =>
    obtain ⟨k, hk, rfl, rfl, HX2, HB2⟩ := hrel
    clear HB HX
    by_cases hlt : k < K
    · have hltI : (k : Int) < (K : Int) := by omega
      obtain ⟨y, hy⟩ : ∃ y, ls[k]? = some y := ⟨_, List.getElem?_eq_getElem (by rw [← HN.out]; exact hlt)⟩
      obtain ⟨g2, o2, ea, hr⟩ := HV.out.at_ hy
      subst ea
      have HD := Lib.hid (sais_at hy)
      unfold RBo at hr
      rw [Nat.mul_one] at hr
      have HR := Lib.hid hr
      clear hy hr
      obtain ⟨c, h, h', L, e1, e2, e3, e4, e5, e6, e7, e8⟩ := lorun_tick (sais ls) hold HA.out k y HD.out
      rw [e1] at HX2
      dsimp only at HX2
      have H1 := Lib.hid (lostep_to c h y hold y h' e3 (by unfold LoR; have := HM.out; omega))
      have HKD := Lib.hid (lokd_to y h' _ e7)
      have HE := Lib.hid (And.intro e2 e5)
      have HXd := Lib.hid (HX2.out.below (bel_drew wr))
      have HBd := Lib.hid (below_call HB2.out (bel_drew wr))
      obtain ⟨m, hm⟩ : ∃ m, (k : Int) - L = m := ⟨_, rfl⟩
      have hmw : wrap64 ((k : Int) - L) = m := by rw [hm]; exact IntWalk.wrap64_in _ (by have := HK.out; have := HM.out; omega)
      have hkw : wrap64 ((k : Int) + 1) = (k : Int) + 1 := IntWalk.wrap64_in _ (by have := HK.out; omega)
      rw [hm] at HKD
      have hcs : (y = true ∧ L = (k : Int) ∧ m = 0) ∨ (y = false ∧ lolast (sais ls) hold k = L ∧ m < hold) ∨ (y = false ∧ lolast (sais ls) hold k = L ∧ ¬ m < hold) := by
        rcases e8 with ⟨rfl, h2⟩ | ⟨rfl, h2⟩
        · exact .inl ⟨rfl, h2, by omega⟩
        · by_cases h3 : m < hold
          · exact .inr (.inl ⟨rfl, h2, h3⟩)
          · exact .inr (.inr ⟨rfl, h2, h3⟩)
      have HCS := Lib.hid hcs
      clear e1 e2 e3 e4 e5 e6 e7 e8 hm HD hcs
      have hr0 := below_cell HB2.out HR.out
      obtain ⟨x0, x1⟩ := box2 HX2.out
      go_wp2_with fail
      go_still_tail 6, (by kernel_rfl)
      change wpList _ _ _ _ _ wr.drew
      generalize wr.drew = w3 at *
      clear x0 x1 hr0 HX2 HB2
      go_wp2_with fail
      (with_reducible refine (H1.out _).mono ?_)
      rintro e w4 ⟨rfl, hb⟩
      have HB4 := Lib.hid (below_call HBd.out hb)
      have HX4 := Lib.hid (HXd.out.below hb)
      clear hb HBd HXd H1
      obtain ⟨x0, x1⟩ := box2 HX4.out
      have x2 := HX4.out.frz 0
      have x3 := HX4.out.frz 1
      have HX5 := Lib.hid ((HX4.out.set_ 0 (.bool y)).set_ 1 (.int .i64 h'))
      have HB5 := Lib.hid (bel_set (bel_set HB4.out HG.out 0 (.bool y)) HG.out 1 (.int .i64 h'))
      have r5 := below_cell HB5.out HR.out
      rcases HCS.out with ⟨rfl, rfl, rfl⟩ | ⟨rfl, hL, hlm⟩ | ⟨rfl, hL, hlm⟩
      · have hm0 : (0 : Int) < hold := by have := HA.out; omega
        have HKE := Lib.hid (show _ from (decide_eq_true hm0) ▸ HKD.out)
        have q1 : (true != true) = false := rfl
        clear HKD HCS
        go_wp2_with fail
        clear x0 x1 x2 x3 r5
        generalize (w4.setCell ⟨g, 0, none⟩ (.bool true)).setCell ⟨g, 1, none⟩ (.int .i64 h') = w5 at *
        obtain ⟨x0, x1⟩ := box2 HX5.out
        have r5 := cell_regrown (below_cell HB5.out HR.out)
        replace x0 := cell_regrown x0
        replace x1 := cell_regrown x1
        refine wp_region_quiet_below (by kernel_rfl) (by kernel_rfl) ?_
        repeat (go_big_quiet_step (with_reducible exact Calls.regrown_of (HKE.out _)))
        refine wpQuiet_nil ?_
        intro _ hw'
        obtain ⟨⟨dq, osq⟩, hw''⟩ := hw'
        subst hw''
        clear x0 x1 r5
        have HB6 := Lib.hid (below_call HB5.out (below_regrown _ dq osq))
        have HX6 := Lib.hid (HX5.out.below (below_regrown _ dq osq))
        go_wp2_with fail
        go_roundw
        case rel => exact ⟨k + 1, by omega, by rw [HE.out.2], by go_num, by rw [HE.out.1]; exact HX6, HB6⟩
        case measure => clear hkw; simp [intOf]; omega
      · have HKE := Lib.hid (show _ from (decide_eq_true hlm) ▸ HKD.out)
        have q1 : (false != false) = false := rfl
        have q2 : (true != true) = false := rfl
        clear HKD HCS
        rw [hL]
        clear hL
        go_wp2_with fail
        clear x0 x1 x2 x3 r5
        generalize (w4.setCell ⟨g, 0, none⟩ (.bool false)).setCell ⟨g, 1, none⟩ (.int .i64 h') = w5 at *
        obtain ⟨x0, x1⟩ := box2 HX5.out
        have r5 := cell_regrown (below_cell HB5.out HR.out)
        replace x0 := cell_regrown x0
        replace x1 := cell_regrown x1
        refine wp_region_quiet_below (by kernel_rfl) (by kernel_rfl) ?_
        repeat (go_big_quiet_step (with_reducible exact Calls.regrown_of (HKE.out _)))
        refine wpQuiet_nil ?_
        intro _ hw'
        obtain ⟨⟨dq, osq⟩, hw''⟩ := hw'
        subst hw''
        clear x0 x1 r5
        have HB6 := Lib.hid (below_call HB5.out (below_regrown _ dq osq))
        have HX6 := Lib.hid (HX5.out.below (below_regrown _ dq osq))
        go_wp2_with fail
        go_roundw
        case rel => exact ⟨k + 1, by omega, by rw [HE.out.2], by go_num, by rw [HE.out.1]; exact HX6, HB6⟩
        case measure => clear hkw; simp [intOf]; omega
      · have HKE := Lib.hid (show _ from (decide_eq_false (show ¬ m < hold by omega)) ▸ HKD.out)
        have q1 : (false != false) = false := rfl
        clear HKD HCS
        rw [hL]
        clear hL
        go_wp2_with fail
        clear x0 x1 x2 x3 r5
        generalize (w4.setCell ⟨g, 0, none⟩ (.bool false)).setCell ⟨g, 1, none⟩ (.int .i64 h') = w5 at *
        obtain ⟨x0, x1⟩ := box2 HX5.out
        have r5 := cell_regrown (below_cell HB5.out HR.out)
        replace x0 := cell_regrown x0
        replace x1 := cell_regrown x1
        refine wp_region_quiet_below (by kernel_rfl) (by kernel_rfl) ?_
        repeat (go_big_quiet_step (with_reducible exact Calls.regrown_of (HKE.out _)))
        refine wpQuiet_nil ?_
        intro _ hw'
        obtain ⟨⟨dq, osq⟩, hw''⟩ := hw'
        subst hw''
        clear x0 x1 r5
        have HB6 := Lib.hid (below_call HB5.out (below_regrown _ dq osq))
        have HX6 := Lib.hid (HX5.out.below (below_regrown _ dq osq))
        go_wp2_with fail
        go_roundw
        case rel => exact ⟨k + 1, by omega, by rw [HE.out.2], by go_num, by rw [HE.out.1]; exact HX6, HB6⟩
        case measure => clear hkw; simp [intOf]; omega
    · have hltI : ¬ (k : Int) < (K : Int) := by omega
      go_wp2_with fail
      go_ret
      exact ⟨rfl, HB2.out⟩
theorem holds_any (v : Value) (ls : List Bool) (hold : Int) (w : World) (hv : Els RBo 1 w v ls) : Calls Try.prog 4 #[v, .int .i64 hold] w fun e w' => e = .returned (.bool true) ∧ Below w.heap.size w w' := by
  by_cases h : ls.length ≤ 400 ∧ 1 ≤ hold ∧ hold ≤ 400
  · exact holds_main v ls hold w hv h.1 h.2.1 h.2.2
  · exact holds_out v ls hold w hv h
end Go.Proofs.Ytdgaaikmhbppeaa

/-
  The walk of crossbucklaw22.LockSteps: true, whatever it is given.
-/
import Derived.Test.YtdgaaikmhbppeaaSmall
import Derived.Test.YtdgaaikmhbppeaaLoRef
import Derived.Test.YtdgaaikmhbppeaaLoRhold
import Derived.Test.YtdgaaikmhbppeaaTsOpen
import Derived.Lib.QuietBelow
import Derived.BigQuiet
namespace Go.Proofs.Ytdgaaikmhbppeaa
open Go.RowKit

theorem steps_out (a0 : Option Addr) (K c0 : Nat) (may : Bool) (hold : Int) (T : PhT) (w : World) (h : 100 < K) : Calls Try.prog 3 #[.slice a0 K c0, .bool may, .int .i64 hold, .agg #[.int .i64 T.am, .int .i64 T.re, .int .i64 T.en, .int .i64 T.tr, .int .i64 T.pr, .int .i64 T.op, .int .i64 T.ov, .int .i64 T.fr, .int .i64 T.ap, .int .i64 T.wa]] w fun e w' => e = .returned (.bool true) ∧ Below w.heap.size w w' := by
  have HB0 := Lib.hid (below_alloc (Below.refl _ w) (.cells #[.int .i64 T.am, .int .i64 T.re, .int .i64 T.en, .int .i64 T.tr, .int .i64 T.pr, .int .i64 T.op, .int .i64 T.ov, .int .i64 T.fr, .int .i64 T.ap, .int .i64 T.wa] 24))
  have h1 : 100 < (K : Int) := by omega
  clear h
  go_enter Try.func3, Try.ntmps3
  go_wp2_with fail
  (with_reducible refine (small_true _).mono ?_)
  rintro e w1 ⟨rfl, hb⟩
  have HB1 := Lib.hid (below_call HB0.out hb)
  clear hb
  go_wp2_with fail
  go_ret
  exact ⟨rfl, HB1.out⟩
set_option maxHeartbeats 8000000 in
set_option maxRecDepth 10000 in
theorem steps_main (v : Value) (ls : List Lo) (may : Bool) (hold : Int) (T : PhT) (w : World) (hv : Els RLo 2 w v ls) (hK : ls.length ≤ 100) (hT : TsR T) : Calls Try.prog 3 #[v, .bool may, .int .i64 hold, .agg #[.int .i64 T.am, .int .i64 T.re, .int .i64 T.en, .int .i64 T.tr, .int .i64 T.pr, .int .i64 T.op, .int .i64 T.ov, .int .i64 T.fr, .int .i64 T.ap, .int .i64 T.wa]] w fun e w' => e = .returned (.bool true) ∧ Below w.heap.size w w' := by
  have hap : T.ap ≤ 9223372036854775807 := by unfold TsR at hT; omega
  have hfr : T.fr ≤ 9223372036854775807 := by unfold TsR at hT; omega
  have HM := Lib.hid (show ls.length ≤ maxLen by unfold maxLen; omega)
  have HV := Lib.hid hv
  obtain ⟨a, c0, ev⟩ := hv.len
  obtain ⟨K, hn⟩ : ∃ n, n = ls.length := ⟨_, rfl⟩
  rw [← hn] at ev hK
  subst ev
  have HN := Lib.hid hn
  have p0 : ¬ 100 < (K : Int) := by omega
  have HK := Lib.hid hK
  have HTR := Lib.hid (And.intro hap hfr)
  have HB0 := Lib.hid (below_alloc (Below.refl _ w) (.cells #[.int .i64 T.am, .int .i64 T.re, .int .i64 T.en, .int .i64 T.tr, .int .i64 T.pr, .int .i64 T.op, .int .i64 T.ov, .int .i64 T.fr, .int .i64 T.ap, .int .i64 T.wa] 24))
  have HX0 := Lib.hid (blk_new w #[.int .i64 T.am, .int .i64 T.re, .int .i64 T.en, .int .i64 T.tr, .int .i64 T.pr, .int .i64 T.op, .int .i64 T.ov, .int .i64 T.fr, .int .i64 T.ap, .int .i64 T.wa] 24)
  clear hv hn hK hT hap hfr
  go_enter Try.func3, Try.ntmps3
  go_wp2_with fail
  (with_reducible refine (small_true _).mono ?_)
  rintro e w1 ⟨rfl, hb⟩
  have HB := Lib.hid (below_call HB0.out hb)
  have HX := Lib.hid (HX0.out.below hb)
  clear hb HB0 HX0
  go_wp2_with fail
  go_loopw [10] (fun z wr => ∃ k : Nat, k ≤ K ∧ z = .int .i64 (k : Int) ∧ Hid (Below w1.heap.size w1 wr)) (fun z _ => K - (intOf z).toNat)
  case atStart => exact ⟨0, by omega, rfl, Lib.hid (Below.refl _ w1)⟩
  case round =>
    obtain ⟨k, hk, rfl, HR⟩ := hrel
    have HBr := Lib.hid (below_call HB.out HR.out)
    by_cases hlt : k < K
    · have hltI : (k : Int) < (K : Int) := by omega
      obtain ⟨y, hy⟩ : ∃ y, ls[k]? = some y := ⟨_, List.getElem?_eq_getElem (by rw [← HN.out]; exact hlt)⟩
      obtain ⟨g2, o2, ea, hr⟩ := HV.out.at_ hy
      subst ea
      obtain ⟨c, h⟩ := y
      obtain ⟨r0, r1, hlo⟩ := hr.below HBr.out
      dsimp only at r0 r1 hlo
      clear hy hr
      obtain ⟨c', hc'⟩ : ∃ c', (losc ⟨c, h⟩ may hold).c = c' := ⟨_, rfl⟩
      obtain ⟨h', hh'⟩ : ∃ h', (losc ⟨c, h⟩ may hold).h = h' := ⟨_, rfl⟩
      obtain ⟨q, hq⟩ : ∃ q, lokd ⟨c, h⟩ = q := ⟨_, rfl⟩
      have hs : losc ⟨c, h⟩ may hold = ⟨c', h'⟩ := by rw [← hc', ← hh']
      have H1 := Lib.hid (lostep_to c h may hold c' h' hs hlo)
      have H2 := Lib.hid (lorstep_to c h may hold c' h' hs hlo)
      have H3 := Lib.hid (lokd_to c h q hq)
      have H4 := Lib.hid (lorkd_to c h q hq)
      have E1 := neq_los c' h'
      have q1 : (q != q) = false := by simp
      have hkw : wrap64 ((k : Int) + 1) = (k : Int) + 1 := IntWalk.wrap64_in _ (by have := HK.out; omega)
      clear hs hc' hh' hq hlo
      replace r0 := cell_regrown r0
      replace r1 := cell_regrown r1
      go_wp2_with fail
      refine wp_region_quiet_below (by kernel_rfl) (by kernel_rfl) ?_
      repeat (go_big_quiet_step (first | (with_reducible exact Calls.regrown_of (H1.out _)) | (with_reducible exact Calls.regrown_of (H2.out _)) | (with_reducible exact Calls.regrown_of (H3.out _)) | (with_reducible exact Calls.regrown_of (H4.out _))))
      refine wpQuiet_nil ?_
      intro _ hw'
      obtain ⟨⟨dq, osq⟩, hw''⟩ := hw'
      subst hw''
      clear r0 r1 H1 H2 H3 H4
      have HR2 := Lib.hid (below_call HR.out (below_regrown _ dq osq))
      go_wp2_with fail
      go_roundw
      case rel => exact ⟨k + 1, by omega, by go_num, HR2⟩
      case measure => clear hkw; simp [intOf]; omega
    · have hltI : ¬ (k : Int) < (K : Int) := by omega
      have HXr := Lib.hid (HX.out.below HR.out)
      have HVr := Lib.hid (HV.out.below (fun _ _ _ h => h.below HBr.out))
      clear HX HV HB HR
      obtain ⟨q, hq⟩ : ∃ q, loany ls = q := ⟨_, rfl⟩
      have H1 := Lib.hid (fun W (hW : Below wr.heap.size wr W) => loany_to _ ls W (HVr.out.below (fun _ _ _ h => h.below hW)) HM.out q hq)
      have H2 := Lib.hid (fun W (hW : Below wr.heap.size wr W) => lorany_to _ ls W (HVr.out.below (fun _ _ _ h => h.below hW)) HM.out q hq)
      have q1 : (q == q) = true := by simp
      clear hq
      obtain ⟨am, re, en, tr, pr, op, ov, fr, ap, wa⟩ := T
      dsimp only at HXr HTR ⊢
      have HO5 := Lib.hid (fun h0 h1 n hn => lohold_to ⟨am, re, en, tr, pr, op, ov, fr, ap, wa⟩ ⟨h0, HTR.out.1⟩ ⟨h1, HTR.out.2⟩ n hn)
      have HO6 := Lib.hid (fun h0 h1 n hn => lorhold_to ⟨am, re, en, tr, pr, op, ov, fr, ap, wa⟩ ⟨h0, HTR.out.1⟩ ⟨h1, HTR.out.2⟩ n hn)
      obtain ⟨t0, t1, t2, t3, t4, t5, t6, t7, t8, t9⟩ := box10 HXr.out
      replace t0 := cell_regrown t0
      replace t1 := cell_regrown t1
      replace t2 := cell_regrown t2
      replace t3 := cell_regrown t3
      replace t4 := cell_regrown t4
      replace t5 := cell_regrown t5
      replace t6 := cell_regrown t6
      replace t7 := cell_regrown t7
      replace t8 := cell_regrown t8
      replace t9 := cell_regrown t9
      clear HXr HVr HTR
      rcases (show ap < 0 ∨ (¬ ap < 0 ∧ fr < 0) ∨ (0 ≤ ap ∧ 0 ≤ fr) by omega) with h0 | ⟨h0, h1⟩ | ⟨h0, h1⟩
      · clear HO5 HO6
        go_wp2_with fail
        refine wp_region_quiet_below (by kernel_rfl) (by kernel_rfl) ?_
        repeat (go_big_quiet_step (first | (with_reducible exact Calls.regrown_of (H1.out _ (below_regrown _ _ _))) | (with_reducible exact Calls.regrown_of (H2.out _ (below_regrown _ _ _)))))
        refine wpQuiet_nil ?_
        intro _ hw'
        obtain ⟨⟨dq, osq⟩, hw''⟩ := hw'
        subst hw''
        have HF := Lib.hid (below_call HBr.out (below_regrown _ dq osq))
        go_wp2_with fail
        go_ret
        exact ⟨rfl, HF.out⟩
      · have d0 : decide (ap < 0) = false := decide_eq_false (by omega)
        clear HO5 HO6
        go_wp2_with fail
        refine wp_region_quiet_below (by kernel_rfl) (by kernel_rfl) ?_
        repeat (go_big_quiet_step (first | (with_reducible exact Calls.regrown_of (H1.out _ (below_regrown _ _ _))) | (with_reducible exact Calls.regrown_of (H2.out _ (below_regrown _ _ _)))))
        refine wpQuiet_nil ?_
        intro _ hw'
        obtain ⟨⟨dq, osq⟩, hw''⟩ := hw'
        subst hw''
        have HF := Lib.hid (below_call HBr.out (below_regrown _ dq osq))
        go_wp2_with fail
        go_ret
        exact ⟨rfl, HF.out⟩
      · have h2 : ¬ ap < 0 := by omega
        have h3 : ¬ fr < 0 := by omega
        have d0 : decide (ap < 0) = false := decide_eq_false h2
        have d1 : decide (fr < 0) = false := decide_eq_false h3
        obtain ⟨n, hn⟩ : ∃ n, lohold ap fr = n := ⟨_, rfl⟩
        have H5 := Lib.hid (HO5.out h0 h1 n hn)
        have H6 := Lib.hid (HO6.out h0 h1 n hn)
        have q2 : (n == n) = true := by simp
        clear HO5 HO6 hn h0 h1
        dsimp only at H5 H6
        go_wp2_with fail
        refine wp_region_quiet_below (by kernel_rfl) (by kernel_rfl) ?_
        repeat (go_big_quiet_step (first | (with_reducible exact Calls.regrown_of (H1.out _ (below_regrown _ _ _))) | (with_reducible exact Calls.regrown_of (H2.out _ (below_regrown _ _ _))) | (with_reducible exact Calls.regrown_of (H5.out _)) | (with_reducible exact Calls.regrown_of (H6.out _))))
        refine wpQuiet_nil ?_
        intro _ hw'
        obtain ⟨⟨dq, osq⟩, hw''⟩ := hw'
        subst hw''
        have HF := Lib.hid (below_call HBr.out (below_regrown _ dq osq))
        go_wp2_with fail
        go_ret
        exact ⟨rfl, HF.out⟩
theorem steps_any (v : Value) (ls : List Lo) (may : Bool) (hold : Int) (T : PhT) (w : World) (hv : Els RLo 2 w v ls) (hT : TsR T) : Calls Try.prog 3 #[v, .bool may, .int .i64 hold, .agg #[.int .i64 T.am, .int .i64 T.re, .int .i64 T.en, .int .i64 T.tr, .int .i64 T.pr, .int .i64 T.op, .int .i64 T.ov, .int .i64 T.fr, .int .i64 T.ap, .int .i64 T.wa]] w fun e w' => e = .returned (.bool true) ∧ Below w.heap.size w w' := by
  by_cases h : ls.length ≤ 100
  · exact steps_main v ls may hold T w hv h hT
  · obtain ⟨a, c, rfl⟩ := hv.len
    exact steps_out a _ c may hold T w (by omega)
end Go.Proofs.Ytdgaaikmhbppeaa

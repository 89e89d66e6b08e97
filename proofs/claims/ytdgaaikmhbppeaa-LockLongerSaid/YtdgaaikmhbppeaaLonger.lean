/-
  The walk of crossbucklaw22.LockLonger: true, whatever it is given.
-/
import Derived.Test.YtdgaaikmhbppeaaRow
import Derived.Lib.QuietBelow
import Derived.StillTailTactics
namespace Go.Proofs.Ytdgaaikmhbppeaa
open Go.RowKit

theorem longer_out (v : Value) (ls : List Bool) (hold more : Int) (w : World) (hv : Els RBo 1 w v ls) (h : ¬ (ls.length ≤ 400 ∧ hold ≤ more)) : Calls Try.prog 7 #[v, .int .i64 hold, .int .i64 more] w fun e w' => e = .returned (.bool true) ∧ Below w.heap.size w w' := by
  obtain ⟨a, c, rfl⟩ := hv.len
  obtain ⟨K, hn⟩ : ∃ n, n = ls.length := ⟨_, rfl⟩
  rw [← hn] at h ⊢
  clear hn hv
  rcases (show 400 < (K : Int) ∨ (¬ 400 < (K : Int) ∧ more < hold) by omega) with h1 | ⟨h1, h2⟩
  all_goals
    clear h
    go_enter Try.func7, Try.ntmps7
    go_wp2_with fail
    (with_reducible refine (small_true _).mono ?_)
    rintro e w1 ⟨rfl, hb⟩
    have HB1 := Lib.hid hb
    clear hb
    go_wp2_with fail
    go_ret
    exact ⟨rfl, HB1.out⟩
theorem two_locks (w : World) : Blk ((w.alloc (.cells #[.bool false, .int .i64 0] 27)).alloc (.cells #[.bool false, .int .i64 0] 27)) w.heap.size #[.bool false, .int .i64 0] 27 ∧ Blk ((w.alloc (.cells #[.bool false, .int .i64 0] 27)).alloc (.cells #[.bool false, .int .i64 0] 27)) (w.heap.size + 1) #[.bool false, .int .i64 0] 27 := ⟨(loboxes w false 0).1, (loboxes w false 0).2.1⟩
set_option maxHeartbeats 4000000 in
set_option maxRecDepth 10000 in
theorem longer_main (v : Value) (ls : List Bool) (hold more : Int) (w : World) (hv : Els RBo 1 w v ls) (hK : ls.length ≤ 400) (h1 : hold ≤ more) (h2 : LoR hold) (h3 : LoR more) : Calls Try.prog 7 #[v, .int .i64 hold, .int .i64 more] w fun e w' => e = .returned (.bool true) ∧ Below w.heap.size w w' := by
  obtain ⟨a, c0, ev⟩ := hv.len
  obtain ⟨K, hn⟩ : ∃ n, n = ls.length := ⟨_, rfl⟩
  rw [← hn] at ev hK
  subst ev
  have HV := Lib.hid hv
  have HN := Lib.hid hn
  have p0 : ¬ 400 < (K : Int) := by omega
  have p1 : ¬ more < hold := by omega
  have HA := Lib.hid h1
  have HK := Lib.hid hK
  have HM1 := Lib.hid h2
  have HM2 := Lib.hid h3
  clear hv hn h1 h2 h3 hK
  go_enter Try.func7, Try.ntmps7
  go_wp2_with fail
  (with_reducible refine (small_true _).mono ?_)
  rintro e w1 ⟨rfl, hb⟩
  have HB := Lib.hid (below_alloc (below_alloc hb (.cells #[.bool false, .int .i64 0] 27)) (.cells #[.bool false, .int .i64 0] 27))
  have HX := Lib.hid (two_locks w1).1
  have HY := Lib.hid (two_locks w1).2
  have HG := Lib.hid hb.size
  clear hb
  go_wp2_with fail
  generalize (w1.alloc (.cells #[.bool false, .int .i64 0] 27)).alloc (.cells #[.bool false, .int .i64 0] 27) = w2 at *
  generalize w1.heap.size = g at *
  go_loopw [10] (fun z wr => ∃ k : Nat, k ≤ K ∧ z = .int .i64 (k : Int) ∧ Hid (Blk wr g #[.bool (lorun (sais ls) hold k).c, .int .i64 (lorun (sais ls) hold k).h] 27) ∧ Hid (Blk wr (g + 1) #[.bool (lorun (sais ls) more k).c, .int .i64 (lorun (sais ls) more k).h] 27) ∧ Hid (Below w.heap.size w wr)) (fun z _ => K - (intOf z).toNat)
  case atStart => exact ⟨0, by omega, rfl, HX, HY, HB⟩
  case round =>
    obtain ⟨k, hk, rfl, HX2, HY2, HB2⟩ := hrel
    clear HB HX HY
    by_cases hlt : k < K
    · have hltI : (k : Int) < (K : Int) := by omega
      obtain ⟨y, hy⟩ : ∃ y, ls[k]? = some y := ⟨_, List.getElem?_eq_getElem (by rw [← HN.out]; exact hlt)⟩
      obtain ⟨g2, o2, ea, hr⟩ := HV.out.at_ hy
      subst ea
      have HD := Lib.hid (sais_at hy)
      unfold RBo at hr
      rw [Nat.mul_one] at hr
      have HR := Lib.hid hr
      clear hy hr
      obtain ⟨c, h, c2, h2, h', h2', e1, e2, e3, e4, e5, e6, e7, e8, e9⟩ := lorun_both (sais ls) HA.out k y HD.out
      rw [e1] at HX2
      rw [e2] at HY2
      dsimp only at HX2 HY2
      have H1 := Lib.hid (lostep_to c h y hold y h' e5 (by have := HM1.out; unfold LoR at this ⊢; omega))
      have H2 := Lib.hid (lostep_to c2 h2 y more y h2' e6 (by have := HM2.out; unfold LoR at this ⊢; omega))
      have HE := Lib.hid (And.intro e3 e4)
      have HKM := Lib.hid e9
      have hkw : wrap64 ((k : Int) + 1) = (k : Int) + 1 := IntWalk.wrap64_in _ (by have := HK.out; omega)
      clear e1 e2 e3 e4 e5 e6 e7 e8 e9 HD
      have HXd := Lib.hid (HX2.out.below (bel_drew wr))
      have HYd := Lib.hid (HY2.out.below (bel_drew wr))
      have HBd := Lib.hid (below_call HB2.out (bel_drew wr))
      have hr0 := below_cell HB2.out HR.out
      obtain ⟨x0, x1⟩ := box2 HX2.out
      go_wp2_with fail
      go_still_tail 6, (by kernel_rfl)
      change wpList _ _ _ _ _ wr.drew
      generalize wr.drew = w3 at *
      clear x0 x1 hr0 HX2 HY2 HB2
      go_wp2_with fail
      (with_reducible refine (H1.out _).mono ?_)
      rintro e w4 ⟨rfl, hb⟩
      have HB4 := Lib.hid (below_call HBd.out hb)
      have HX4 := Lib.hid (HXd.out.below hb)
      have HY4 := Lib.hid (HYd.out.below hb)
      clear hb HBd HXd HYd H1
      obtain ⟨x0, x1⟩ := box2 HX4.out
      have x2 := HX4.out.frz 0
      have x3 := HX4.out.frz 1
      have HX5 := Lib.hid ((HX4.out.set_ 0 (.bool y)).set_ 1 (.int .i64 h'))
      have HY5 := Lib.hid ((HY4.out.far g 0 (.bool y) (by omega)).far g 1 (.int .i64 h') (by omega))
      have HB5 := Lib.hid (bel_set (bel_set HB4.out HG.out 0 (.bool y)) HG.out 1 (.int .i64 h'))
      go_wp2_with fail
      clear x0 x1 x2 x3
      generalize (w4.setCell ⟨g, 0, none⟩ (.bool y)).setCell ⟨g, 1, none⟩ (.int .i64 h') = w5 at *
      have HXd := Lib.hid (HX5.out.below (bel_drew w5))
      have HYd := Lib.hid (HY5.out.below (bel_drew w5))
      have HBd := Lib.hid (below_call HB5.out (bel_drew w5))
      have hr0 := below_cell HB5.out HR.out
      obtain ⟨x0, x1⟩ := box2 HY5.out
      go_still_tail 6, (by kernel_rfl)
      change wpList _ _ _ _ _ w5.drew
      generalize w5.drew = w6 at *
      clear x0 x1 hr0 HX5 HY5 HB5
      go_wp2_with fail
      (with_reducible refine (H2.out _).mono ?_)
      rintro e w7 ⟨rfl, hb⟩
      have HB7 := Lib.hid (below_call HBd.out hb)
      have HX7 := Lib.hid (HXd.out.below hb)
      have HY7 := Lib.hid (HYd.out.below hb)
      clear hb HBd HXd HYd H2
      obtain ⟨x0, x1⟩ := box2 HY7.out
      have x2 := HY7.out.frz 0
      have x3 := HY7.out.frz 1
      have HY8 := Lib.hid ((HY7.out.set_ 0 (.bool y)).set_ 1 (.int .i64 h2'))
      have HX8 := Lib.hid ((HX7.out.far (g + 1) 0 (.bool y) (by omega)).far (g + 1) 1 (.int .i64 h2') (by omega))
      have HB8 := Lib.hid (bel_set (bel_set HB7.out (by have := HG.out; omega) 0 (.bool y)) (by have := HG.out; omega) 1 (.int .i64 h2') : Below w.heap.size w ((w7.setCell ⟨g + 1, 0, none⟩ (.bool y)).setCell ⟨g + 1, 1, none⟩ (.int .i64 h2')))
      obtain ⟨z0, z1⟩ := box2 HX8.out
      obtain ⟨y0, y1⟩ := box2 HY8.out
      have q0 : (y != y) = false := by simp
      rcases (show lokd ⟨y, h'⟩ = false ∨ (lokd ⟨y, h'⟩ = true ∧ lokd ⟨y, h2'⟩ = true) by
        have := HKM.out
        cases hq : lokd ⟨y, h'⟩
        · exact .inl rfl
        · exact .inr ⟨rfl, this hq⟩) with hq | ⟨hq, hq2⟩
      · have HL1 := Lib.hid (lokd_to y h' false hq)
        clear hq
        go_wp2_with fail
        (with_reducible refine (HL1.out _).mono ?_)
        rintro e w8 ⟨rfl, hb⟩
        clear x0 x1 x2 x3 y0 y1 z0 z1
        have HX9 := Lib.hid (HX8.out.below hb)
        have HY9 := Lib.hid (HY8.out.below hb)
        have HB9 := Lib.hid (below_call HB8.out hb)
        clear hb HX8 HY8 HB8 HX7 HY7 HB7
        obtain ⟨z0, z1⟩ := box2 HX9.out
        obtain ⟨y0, y1⟩ := box2 HY9.out
        go_wp2_with fail
        go_roundw
        case rel => exact ⟨k + 1, by omega, by go_num, by rw [HE.out.1]; exact HX9, by rw [HE.out.2]; exact HY9, HB9⟩
        case measure => clear hkw; simp [intOf]; omega
      · have HL1 := Lib.hid (lokd_to y h' true hq)
        have HL2 := Lib.hid (lokd_to y h2' true hq2)
        clear hq hq2
        go_wp2_with fail
        (with_reducible refine (HL1.out _).mono ?_)
        rintro e w8 ⟨rfl, hb⟩
        clear x0 x1 x2 x3 y0 y1 z0 z1
        have HX9 := Lib.hid (HX8.out.below hb)
        have HY9 := Lib.hid (HY8.out.below hb)
        have HB9 := Lib.hid (below_call HB8.out hb)
        clear hb HX8 HY8 HB8 HX7 HY7 HB7
        obtain ⟨y0, y1⟩ := box2 HY9.out
        go_wp2_with fail
        (with_reducible refine (HL2.out _).mono ?_)
        rintro e w10 ⟨rfl, hb⟩
        clear y0 y1
        have HXa := Lib.hid (HX9.out.below hb)
        have HYa := Lib.hid (HY9.out.below hb)
        have HBa := Lib.hid (below_call HB9.out hb)
        clear hb HX9 HY9 HB9
        obtain ⟨z0, z1⟩ := box2 HXa.out
        obtain ⟨y0, y1⟩ := box2 HYa.out
        go_wp2_with fail
        go_roundw
        case rel => exact ⟨k + 1, by omega, by go_num, by rw [HE.out.1]; exact HXa, by rw [HE.out.2]; exact HYa, HBa⟩
        case measure => clear hkw; simp [intOf]; omega
    · have hltI : ¬ (k : Int) < (K : Int) := by omega
      go_wp2_with fail
      go_ret
      exact ⟨rfl, HB2.out⟩
theorem longer_any (v : Value) (ls : List Bool) (hold more : Int) (w : World) (hv : Els RBo 1 w v ls) (h2 : LoR hold) (h3 : LoR more) : Calls Try.prog 7 #[v, .int .i64 hold, .int .i64 more] w fun e w' => e = .returned (.bool true) ∧ Below w.heap.size w w' := by
  by_cases h : ls.length ≤ 400 ∧ hold ≤ more
  · exact longer_main v ls hold more w hv h.1 h.2 h2 h3
  · exact longer_out v ls hold more w hv h
end Go.Proofs.Ytdgaaikmhbppeaa

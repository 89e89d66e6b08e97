/-
  The calls of lock by contracts: Step, Locked, Any, Hold.
-/
import Derived.Test.YtdgaaikmhbppeaaLoOpen
import Derived.Test.YtdgaaikmhbppeaaBlk
namespace Go.Proofs.Ytdgaaikmhbppeaa
open Go.RowKit

theorem lobox (w : World) (c : Bool) (h : Int) : Blk (w.alloc (.cells #[.bool c, .int .i64 h] 27)) w.heap.size #[.bool c, .int .i64 h] 27 := blk_new w _ _
theorem loboxes (w : World) (c : Bool) (h : Int) : Blk ((w.alloc (.cells #[.bool c, .int .i64 h] 27)).alloc (.cells #[.bool false, .int .i64 0] 27)) w.heap.size #[.bool c, .int .i64 h] 27 ∧ Blk ((w.alloc (.cells #[.bool c, .int .i64 h] 27)).alloc (.cells #[.bool false, .int .i64 0] 27)) (w.heap.size + 1) #[.bool false, .int .i64 0] 27 ∧ Below w.heap.size w ((w.alloc (.cells #[.bool c, .int .i64 h] 27)).alloc (.cells #[.bool false, .int .i64 0] 27)) := by
  have b2 := blk_new (w.alloc (.cells #[.bool c, .int .i64 h] 27)) #[.bool false, .int .i64 0] 27
  simp only [World.size_alloc] at b2
  exact ⟨(lobox w c h).below (below_alloc (Below.refl _ _) _), b2, below_alloc (below_alloc (Below.refl _ w) _) _⟩
set_option maxHeartbeats 1000000 in
theorem lostep_to (c : Bool) (h : Int) (may : Bool) (hold : Int) (c' : Bool) (h' : Int) (hs : losc ⟨c, h⟩ may hold = ⟨c', h'⟩) (hr : LoR h) (w : World) : Calls Try.prog 9 #[.agg #[.bool c, .int .i64 h], .bool may, .int .i64 hold] w fun e w' => e = .returned (.agg #[.bool c', .int .i64 h']) ∧ Below w.heap.size w w' := by
  obtain ⟨X0, X1, _⟩ := loboxes w c h
  obtain ⟨x0, x1⟩ := box2 X0
  obtain ⟨z0, z1⟩ := box2 X1
  have z2 := X1.frz 0
  have z3 := X1.frz 1
  clear X0 X1
  cases may
  · rw [losc_no] at hs
    injection hs with hs1 hs2
    subst hs1
    dsimp only at hs2
    unfold LoR at hr
    rcases (show (h < 1 ∧ h' = 0) ∨ (¬ h < 1 ∧ 1 ≤ h ∧ h - 1 = h') by omega) with ⟨h1, rfl⟩ | ⟨h1, h2, h3⟩
    · clear hs2 hr
      go_enter Try.func9, Try.ntmps9
      go_wp2_with fail
      (try simp only [Exit.inBlock, Exit.then])
      refine bodyPost_ret ?_ rfl ⟨rfl, below_alloc (below_alloc (Below.refl _ w) _) _⟩
      rw [results_cell1 rfl]
      go_simp
    · have hv : wrap64 (h - 1) = h' := by rw [h3]; exact IntWalk.wrap64_in _ (by omega)
      clear hs2 hr h3
      go_enter Try.func9, Try.ntmps9
      go_wp2_with fail
      (try simp only [Exit.inBlock, Exit.then])
      refine bodyPost_ret ?_ rfl ⟨rfl, below_alloc (below_alloc (Below.refl _ w) _) _⟩
      rw [results_cell1 rfl]
      go_simp
  · rw [losc_yes] at hs
    injection hs with hs1 hs2
    subst hs1
    rcases (show (hold < 0 ∧ h' = 0) ∨ (¬ hold < 0 ∧ 0 ≤ hold ∧ h' = hold) by omega) with ⟨h1, rfl⟩ | ⟨h1, h2, rfl⟩
    all_goals
      clear hs2 hr
      go_enter Try.func9, Try.ntmps9
      go_wp2_with fail
      (try simp only [Exit.inBlock, Exit.then])
      refine bodyPost_ret ?_ rfl ⟨rfl, below_alloc (below_alloc (Below.refl _ w) _) _⟩
      rw [results_cell1 rfl]
      go_simp
theorem lokd_to (c : Bool) (h : Int) (r : Bool) (hr : lokd ⟨c, h⟩ = r) (w : World) : Calls Try.prog 11 #[.agg #[.bool c, .int .i64 h]] w fun e w' => e = .returned (.bool r) ∧ Below w.heap.size w w' := by
  have HB := Lib.hid (below_alloc (Below.refl _ w) (.cells #[.bool c, .int .i64 h] 27))
  obtain ⟨x0, x1⟩ := box2 (lobox w c h)
  unfold lokd at hr
  dsimp only at hr
  cases c
  · rw [Bool.false_or] at hr
    subst hr
    by_cases h0 : 0 < h
    all_goals
      go_enter Try.func11, Try.ntmps11
      go_wp2_with fail
      go_ret
      exact ⟨by simp [h0], HB.out⟩
  · rw [Bool.true_or] at hr
    subst hr
    go_enter Try.func11, Try.ntmps11
    go_wp2_with fail
    go_ret
    exact ⟨rfl, HB.out⟩
theorem loany_idx (v : Value) (ls : List Lo) (w : World) (hv : Els RLo 2 w v ls) (hm : ls.length ≤ maxLen) : Calls Try.prog 19 #[v, .func (.func 11) #[] #[]] w fun e w' => ∃ r : Int, e = .returned (.int .i64 r) ∧ ((r = -1 ∧ loany ls = false) ∨ (0 ≤ r ∧ loany ls = true)) ∧ Below w.heap.size w w' := by
  obtain ⟨a, cc, ev⟩ := hv.len
  obtain ⟨K, hn⟩ : ∃ n, n = ls.length := ⟨_, rfl⟩
  rw [← hn] at ev hm
  subst ev
  have HV := Lib.hid hv
  have HN := Lib.hid hn
  have HM := Lib.hid hm
  clear hv hn hm
  go_enter Try.func19, Try.ntmps19
  go_wp2_with fail
  go_loopw [8] (fun s8 wr => ∃ k : Nat, k ≤ K ∧ s8 = .int .i64 (k : Int) ∧ Hid (loany (ls.take k) = false) ∧ Hid (Below w.heap.size w wr)) (fun s8 _ => K - (intOf s8).toNat)
  case atStart => exact ⟨0, by omega, rfl, Lib.hid (loany_nil _), Lib.hid (Below.refl _ w)⟩
  case round =>
    obtain ⟨k, hk, rfl, HA, HB⟩ := hrel
    by_cases hlt : k < K
    · have hltI : (k : Int) < (K : Int) := by omega
      obtain ⟨y, hy⟩ : ∃ y, ls[k]? = some y := ⟨_, List.getElem?_eq_getElem (by rw [← HN.out]; exact hlt)⟩
      obtain ⟨g2, o2, ea, hr⟩ := HV.out.at_ hy
      subst ea
      have hx := loany_take ls k y hy
      rw [HA.out, Bool.false_or] at hx
      obtain ⟨b, hb⟩ : ∃ b, lokd y = b := ⟨_, rfl⟩
      rw [hb] at hx
      have HX := Lib.hid hx
      have HY := Lib.hid (fun h : lokd y = true => loany_hit hy h)
      have HQ := Lib.hid hb
      obtain ⟨c, h⟩ := y
      obtain ⟨r0, r1, _⟩ := hr.below HB.out
      dsimp only at r0 r1
      clear hy hr hx
      have HC := Lib.hid (fun W => lokd_to c h b hb W)
      clear hb
      have hkw : wrap64 ((k : Int) + 1) = (k : Int) + 1 := IntWalk.wrap64_in _ (by have := HM.out; unfold maxLen at this; omega)
      go_wp2_with fail
      (with_reducible refine (HC.out _).mono ?_)
      rintro e w1 ⟨rfl, hb⟩
      have HB1 := Lib.hid (below_call HB.out hb)
      clear hb HC r0 r1
      cases b
      · go_wp2_with fail
        go_roundw
        case rel => exact ⟨k + 1, by omega, by go_num, HX, HB1⟩
        case measure => rw [hkw]; clear hkw; simp [intOf]; omega
      · go_wp2_with fail
        go_ret
        exact ⟨_, rfl, .inr ⟨by omega, HY.out HQ.out⟩, HB1.out⟩
    · have hltI : ¬ (k : Int) < (K : Int) := by omega
      have hkK : k = K := by omega
      have hx := HA.out
      rw [hkK, HN.out, List.take_length] at hx
      have HX := Lib.hid hx
      clear hx hkK
      go_wp2_with fail
      go_ret
      exact ⟨_, rfl, .inl ⟨rfl, HX.out⟩, HB.out⟩
theorem loany_con (v : Value) (ls : List Lo) (w : World) (hv : Els RLo 2 w v ls) (hm : ls.length ≤ maxLen) (r : Bool) (hr : loany ls = r) : Calls Try.prog 17 #[v, .func (.func 11) #[] #[]] w fun e w' => e = .returned (.bool r) ∧ Below w.heap.size w w' := by
  have HC := Lib.hid (loany_idx v ls w hv hm)
  obtain ⟨a, cc, ev⟩ := hv.len
  subst ev
  have HR := Lib.hid hr
  clear hv hm hr
  go_enter Try.func17, Try.ntmps17
  go_wp2_with fail
  (with_reducible refine (HC.out).mono ?_)
  rintro e w1 ⟨q, rfl, hq, hb⟩
  have HB := Lib.hid hb
  rcases hq with ⟨rfl, h1⟩ | ⟨h0, h1⟩
  · have HH := Lib.hid (h1.symm.trans HR.out)
    clear hb h1
    go_wp2_with fail
    go_ret
    exact ⟨by rw [← HH.out]; rfl, HB.out⟩
  · have HH := Lib.hid (h1.symm.trans HR.out)
    clear hb h1
    go_wp2_with fail
    go_ret
    exact ⟨by rw [← HH.out]; rfl, HB.out⟩
theorem loany_to (v : Value) (ls : List Lo) (w : World) (hv : Els RLo 2 w v ls) (hm : ls.length ≤ maxLen) (r : Bool) (hr : loany ls = r) : Calls Try.prog 13 #[v] w fun e w' => e = .returned (.bool r) ∧ Below w.heap.size w w' := by
  have HC := Lib.hid (loany_con v ls w hv hm r hr)
  obtain ⟨a, cc, ev⟩ := hv.len
  subst ev
  clear hv hm hr
  go_enter Try.func13, Try.ntmps13
  go_wp2_with fail
  (with_reducible refine (HC.out).mono ?_)
  rintro e w1 ⟨rfl, hb⟩
  have HB := Lib.hid hb
  clear hb
  go_wp2_with fail
  go_ret
  exact ⟨rfl, HB.out⟩
end Go.Proofs.Ytdgaaikmhbppeaa

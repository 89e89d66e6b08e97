/-
  The document's Step and Axles of pairs, by contracts.
-/
import Derived.Test.YtemomgbgfelooaaPrStep
namespace Go.Proofs.Ytemomgbgfelooaa
open Go.RowKit

theorem rquarter_any (x : Int) (w : World) : Calls Try.prog 17 #[.int .i64 x] w fun e w' => e = .returned (.int .i64 (qr x)) ∧ w' = w := by
  have h3 := and3 x
  rcases qr_cases x with ⟨h, e⟩ | ⟨h, e⟩ | ⟨h, e⟩ | ⟨h, e⟩
  all_goals
    rw [h] at h3
    rw [e]
    clear h e
    go_enter Try.func17, Try.ntmps17
    go_wp2_with fail
    go_ret
    exact ⟨rfl, rfl⟩
theorem floor4 (s : Int) : s / 4 = if s.tmod 4 < 0 then s.tdiv 4 - 1 else s.tdiv 4 := by
  have h := Int.mul_tdiv_add_tmod s 4
  have h1 : (s.tmod 4).natAbs < 4 := by rw [Int.natAbs_tmod]; exact Nat.mod_lt _ (by decide)
  have h2 : 0 ≤ s → 0 ≤ s.tmod 4 := fun h => Int.tmod_nonneg 4 h
  have h3 : s ≤ 0 → s.tmod 4 ≤ 0 := fun h => by have := Int.tmod_nonneg 4 (show 0 ≤ -s by omega); rw [Int.neg_tmod] at this; omega
  split <;> omega
theorem raxles_any (l s : Int) (j : Bool) (w : World) (hs : PosR s) : Calls Try.prog 13 #[.agg #[.int .i64 l, .int .i64 s, .bool j]] w fun e w' => e = .returned (.int .i64 (s / 4)) ∧ Below w.heap.size w w' := by
  have HB := Lib.hid (below_alloc (Below.refl _ w) (.cells #[.int .i64 l, .int .i64 s, .bool j] 23))
  obtain ⟨x0, x1, x2⟩ := ((blk_new w #[.int .i64 l, .int .i64 s, .bool j] 23)).three
  have hf := floor4 s
  obtain ⟨s0, s1⟩ := hs
  have hq : -2305843009213693952 ≤ s.tdiv 4 ∧ s.tdiv 4 ≤ 2305843009213693952 := by
    split at hf <;> omega
  obtain ⟨q, hq'⟩ : ∃ q, q = s.tdiv 4 := ⟨_, rfl⟩
  obtain ⟨r, hr'⟩ : ∃ r, r = s.tmod 4 := ⟨_, rfl⟩
  have hw : wrap64 q = q := IntWalk.wrap64_in _ ⟨by omega, by omega⟩
  rw [← hq', ← hr'] at hf
  rw [hf]
  have HQ := Lib.hid hq
  have h1 := hq'.symm
  have h2 := hr'.symm
  rw [h1] at HQ
  obtain ⟨q0, q1⟩ := HQ.out
  clear hf hq hq' hr'
  by_cases hr : r < 0
  · rw [if_pos hr]
    go_enter Try.func13, Try.ntmps13
    go_wp2_with fail
    go_ret
    exact ⟨rfl, HB.out⟩
  · rw [if_neg hr]
    go_enter Try.func13, Try.ntmps13
    go_wp2_with fail
    go_ret
    exact ⟨rfl, HB.out⟩

set_option maxHeartbeats 8000000 in
theorem rstep_any (l s : Int) (j : Bool) (m : Int) (w : World) (hs : PosR s) : Calls Try.prog 11 #[.agg #[.int .i64 l, .int .i64 s, .bool j], .int .i64 m] w fun e w' => e = .returned (.agg (prv (stp ⟨l, s, j⟩ m))) ∧ Below w.heap.size w w' := by
  obtain ⟨s0, s1⟩ := hs
  have hX := blk_new (w.alloc (.cells #[.int .i64 l, .int .i64 s, .bool j] 23)) pr0 23
  rw [show (w.alloc (.cells #[.int .i64 l, .int .i64 s, .bool j] 23)).heap.size = w.heap.size + 1 by simp] at hX
  have hL := (blk_new w #[.int .i64 l, .int .i64 s, .bool j] 23).below (below_alloc (Below.refl _ (w.alloc (.cells #[.int .i64 l, .int .i64 s, .bool j] 23))) (.cells pr0 23))
  have HB := Lib.hid (below_alloc (below_alloc (Below.refl _ w) (.cells #[.int .i64 l, .int .i64 s, .bool j] 23)) (.cells pr0 23))
  obtain ⟨x0, x1, x2⟩ := hX.three
  have x3 := hX.frz 0
  have x4 := hX.frz 1
  have x5 := hX.frz 2
  obtain ⟨y0, y1, y2⟩ := hL.three
  have y3 := hL.frz 0
  have y4 := hL.frz 1
  have y5 := hL.frz 2
  clear hX hL
  have HP := Lib.hid rquarter_any
  have ha := and3 m
  have hk : (qr m - qr l + 4).tmod 4 = (qr m - qr l) % 4 := by have := qr_range m; have := qr_range l; rw [Int.tmod_eq_emod_of_nonneg (by omega)]; omega
  have hq := qr_range m
  have hr := qr_range l
  have HSTP := Lib.hid (show stp ⟨l, s, j⟩ m = ⟨m % 4, bump ((qr m - qr l) % 4) s, j || decide ((qr m - qr l) % 4 = 2)⟩ from rfl)
  have hkr : 0 ≤ (qr m - qr l) % 4 ∧ (qr m - qr l) % 4 ≤ 3 := by omega
  obtain ⟨k, hk'⟩ : ∃ k, k = (qr m - qr l) % 4 := ⟨_, rfl⟩
  rw [← hk'] at hk hkr HSTP
  obtain ⟨a, ha'⟩ : ∃ a, a = m % 4 := ⟨_, rfl⟩
  rw [← ha'] at ha HSTP
  have hw : IntKind.i64.wrap (qr m - qr l) = qr m - qr l := by rw [IntWalk.i64_left]; exact IntWalk.wrap64_in _ ⟨by omega, by omega⟩
  have hw4 : IntKind.i64.wrap (qr m - qr l + 4) = qr m - qr l + 4 := by rw [IntWalk.i64_left]; exact IntWalk.wrap64_in _ ⟨by omega, by omega⟩
  clear hk' ha' hq hr
  rw [HSTP.out]
  clear HSTP
  go_enter Try.func11, Try.ntmps11
  go_wp2_with fail
  go_quiet ((go_at_call 17; (with_reducible refine Calls.quiet_of_same (HP.out _ _))))
  obtain ⟨k0, k3⟩ := hkr
  have HK := Lib.hid hk
  clear hk hw hw4 HP
  have hcs : ((k = 0 ∨ k = 2) ∨ (k = 1 ∧ s ≤ 9223372036854775806) ∨ (k = 1 ∧ s = 9223372036854775807)) ∨ (k = 3 ∧ -9223372036854775807 ≤ s) ∨ (k = 3 ∧ s = -9223372036854775808) := by omega
  clear k0 k3
  rcases hcs with ((rfl | rfl) | ⟨rfl, h⟩ | ⟨rfl, rfl⟩) | ⟨rfl, h⟩ | ⟨rfl, rfl⟩
  · clear HK
    cases j
    · go_wp2_with fail
      (try simp only [Exit.inBlock, Exit.then])
      refine bodyPost_ret (v := .agg #[.int .i64 a, .int .i64 (s), .bool false]) ?_ rfl ⟨by rfl, ?_⟩
      · rw [results_cell1 rfl]
        go_simp
      · exact bel_set (bel_set (bel_set (bel_set (bel_set ((HB.out.trans (bel_drewN _ nq |>.mono HB.out.size))) (by omega) 2 _) (by omega) 0 _) (by omega) 0 _) (by omega) 1 _) (by omega) 2 _
    · go_wp2_with fail
      (try simp only [Exit.inBlock, Exit.then])
      refine bodyPost_ret (v := .agg #[.int .i64 a, .int .i64 (s), .bool true]) ?_ rfl ⟨by rfl, ?_⟩
      · rw [results_cell1 rfl]
        go_simp
      · exact bel_set (bel_set (bel_set (bel_set (bel_set ((HB.out.trans (bel_drewN _ nq |>.mono HB.out.size))) (by omega) 2 _) (by omega) 0 _) (by omega) 0 _) (by omega) 1 _) (by omega) 2 _
  · clear HK
    cases j
    · go_wp2_with fail
      (try simp only [Exit.inBlock, Exit.then])
      refine bodyPost_ret (v := .agg #[.int .i64 a, .int .i64 (s), .bool true]) ?_ rfl ⟨by rfl, ?_⟩
      · rw [results_cell1 rfl]
        go_simp
      · exact bel_set (bel_set (bel_set (bel_set (bel_set ((HB.out.trans (bel_drewN _ nq |>.mono HB.out.size))) (by omega) 2 _) (by omega) 0 _) (by omega) 0 _) (by omega) 1 _) (by omega) 2 _
    · go_wp2_with fail
      (try simp only [Exit.inBlock, Exit.then])
      refine bodyPost_ret (v := .agg #[.int .i64 a, .int .i64 (s), .bool true]) ?_ rfl ⟨by rfl, ?_⟩
      · rw [results_cell1 rfl]
        go_simp
      · exact bel_set (bel_set (bel_set (bel_set (bel_set ((HB.out.trans (bel_drewN _ nq |>.mono HB.out.size))) (by omega) 2 _) (by omega) 0 _) (by omega) 0 _) (by omega) 1 _) (by omega) 2 _
  · clear HK
    cases j
    · go_wp2_with fail
      (try simp only [Exit.inBlock, Exit.then])
      refine bodyPost_ret (v := .agg #[.int .i64 a, .int .i64 (s + 1), .bool false]) ?_ rfl ⟨by rw [bump_one (s := s) (by omega)]; rfl, ?_⟩
      · rw [results_cell1 rfl]
        go_simp
      · exact bel_set (bel_set (bel_set (bel_set (bel_set (bel_set ((HB.out.trans (bel_drewN _ nq |>.mono HB.out.size))) (by omega) 1 _) (by omega) 2 _) (by omega) 0 _) (by omega) 0 _) (by omega) 1 _) (by omega) 2 _
    · go_wp2_with fail
      (try simp only [Exit.inBlock, Exit.then])
      refine bodyPost_ret (v := .agg #[.int .i64 a, .int .i64 (s + 1), .bool true]) ?_ rfl ⟨by rw [bump_one (s := s) (by omega)]; rfl, ?_⟩
      · rw [results_cell1 rfl]
        go_simp
      · exact bel_set (bel_set (bel_set (bel_set (bel_set (bel_set ((HB.out.trans (bel_drewN _ nq |>.mono HB.out.size))) (by omega) 1 _) (by omega) 2 _) (by omega) 0 _) (by omega) 0 _) (by omega) 1 _) (by omega) 2 _
  · clear HK
    cases j
    · go_wp2_with fail
      (try simp only [Exit.inBlock, Exit.then])
      refine bodyPost_ret (v := .agg #[.int .i64 a, .int .i64 (9223372036854775807), .bool false]) ?_ rfl ⟨by rfl, ?_⟩
      · rw [results_cell1 rfl]
        go_simp
      · exact bel_set (bel_set (bel_set (bel_set (bel_set ((HB.out.trans (bel_drewN _ nq |>.mono HB.out.size))) (by omega) 2 _) (by omega) 0 _) (by omega) 0 _) (by omega) 1 _) (by omega) 2 _
    · go_wp2_with fail
      (try simp only [Exit.inBlock, Exit.then])
      refine bodyPost_ret (v := .agg #[.int .i64 a, .int .i64 (9223372036854775807), .bool true]) ?_ rfl ⟨by rfl, ?_⟩
      · rw [results_cell1 rfl]
        go_simp
      · exact bel_set (bel_set (bel_set (bel_set (bel_set ((HB.out.trans (bel_drewN _ nq |>.mono HB.out.size))) (by omega) 2 _) (by omega) 0 _) (by omega) 0 _) (by omega) 1 _) (by omega) 2 _
  · clear HK
    cases j
    · go_wp2_with fail
      (try simp only [Exit.inBlock, Exit.then])
      refine bodyPost_ret (v := .agg #[.int .i64 a, .int .i64 (s - 1), .bool false]) ?_ rfl ⟨by rw [bump_three (s := s) (by omega)]; rfl, ?_⟩
      · rw [results_cell1 rfl]
        go_simp
      · exact bel_set (bel_set (bel_set (bel_set (bel_set (bel_set ((HB.out.trans (bel_drewN _ nq |>.mono HB.out.size))) (by omega) 1 _) (by omega) 2 _) (by omega) 0 _) (by omega) 0 _) (by omega) 1 _) (by omega) 2 _
    · go_wp2_with fail
      (try simp only [Exit.inBlock, Exit.then])
      refine bodyPost_ret (v := .agg #[.int .i64 a, .int .i64 (s - 1), .bool true]) ?_ rfl ⟨by rw [bump_three (s := s) (by omega)]; rfl, ?_⟩
      · rw [results_cell1 rfl]
        go_simp
      · exact bel_set (bel_set (bel_set (bel_set (bel_set (bel_set ((HB.out.trans (bel_drewN _ nq |>.mono HB.out.size))) (by omega) 1 _) (by omega) 2 _) (by omega) 0 _) (by omega) 0 _) (by omega) 1 _) (by omega) 2 _
  · clear HK
    cases j
    · go_wp2_with fail
      (try simp only [Exit.inBlock, Exit.then])
      refine bodyPost_ret (v := .agg #[.int .i64 a, .int .i64 (-9223372036854775808), .bool false]) ?_ rfl ⟨by rfl, ?_⟩
      · rw [results_cell1 rfl]
        go_simp
      · exact bel_set (bel_set (bel_set (bel_set (bel_set ((HB.out.trans (bel_drewN _ nq |>.mono HB.out.size))) (by omega) 2 _) (by omega) 0 _) (by omega) 0 _) (by omega) 1 _) (by omega) 2 _
    · go_wp2_with fail
      (try simp only [Exit.inBlock, Exit.then])
      refine bodyPost_ret (v := .agg #[.int .i64 a, .int .i64 (-9223372036854775808), .bool true]) ?_ rfl ⟨by rfl, ?_⟩
      · rw [results_cell1 rfl]
        go_simp
      · exact bel_set (bel_set (bel_set (bel_set (bel_set ((HB.out.trans (bel_drewN _ nq |>.mono HB.out.size))) (by omega) 2 _) (by omega) 0 _) (by omega) 0 _) (by omega) 1 _) (by omega) 2 _
end Go.Proofs.Ytemomgbgfelooaa

/-
  The calls of pair by contracts: Step, Axles, Rest.
-/
import Derived.Test.YteknfjnfaedebaaPrMath
import Derived.Test.YteknfjnfaedebaaBlk
import Derived.Deep.QuietTactic
import Derived.BigQuiet
namespace Go.Proofs.Yteknfjnfaedebaa
open Go.RowKit

theorem place_any (x : Int) (w : World) : Calls Try.prog 19 #[.int .i64 x] w fun e w' => e = .returned (.int .i64 (qr x)) ∧ w' = w := by
  have h3 := and3 x
  have hx := xor_half x
  have hr : 0 ≤ x % 4 ∧ x % 4 ≤ 3 := by omega
  obtain ⟨y, hy⟩ : ∃ y, y = x % 4 := ⟨_, rfl⟩
  rw [← hy] at h3 hx hr
  clear hy
  obtain ⟨hr0, hr1⟩ := hr
  go_enter Try.func19, Try.ntmps19
  go_wp2_with fail
  go_ret
  exact ⟨by simp [hx], rfl⟩

abbrev pr0 : Array Value := #[.int .i64 0, .int .i64 0, .bool false]
set_option maxHeartbeats 1000000 in
theorem step_any (l s : Int) (j : Bool) (m : Int) (w : World) (hs : PosR s) : Calls Try.prog 11 #[.agg #[.int .i64 l, .int .i64 s, .bool j], .int .i64 m] w fun e w' => e = .returned (.agg (prv (stp ⟨l, s, j⟩ m))) ∧ Below w.heap.size w w' := by
  obtain ⟨s0, s1⟩ := hs
  have hX := blk_new (w.alloc (.cells #[.int .i64 l, .int .i64 s, .bool j] 29)) pr0 29
  rw [show (w.alloc (.cells #[.int .i64 l, .int .i64 s, .bool j] 29)).heap.size = w.heap.size + 1 by simp] at hX
  have hL := (blk_new w #[.int .i64 l, .int .i64 s, .bool j] 29).below (below_alloc (Below.refl _ (w.alloc (.cells #[.int .i64 l, .int .i64 s, .bool j] 29))) (.cells pr0 29))
  have HB := Lib.hid (below_alloc (below_alloc (Below.refl _ w) (.cells #[.int .i64 l, .int .i64 s, .bool j] 29)) (.cells pr0 29))
  obtain ⟨x0, x1, x2⟩ := hX.three
  have x3 := hX.frz 0
  have x4 := hX.frz 1
  have x5 := hX.frz 2
  obtain ⟨y0, y1, y2⟩ := hL.three
  have y3 := hL.frz 0
  have y4 := hL.frz 1
  have y5 := hL.frz 2
  clear hX hL
  have HP := Lib.hid place_any
  have ha := and3 m
  have hk := and3 (qr m - qr l)
  have hq := qr_range m
  have hr := qr_range l
  have HSTP := Lib.hid (show stp ⟨l, s, j⟩ m = ⟨m % 4, bump ((qr m - qr l) % 4) s, j || decide ((qr m - qr l) % 4 = 2)⟩ from rfl)
  have hkr : 0 ≤ (qr m - qr l) % 4 ∧ (qr m - qr l) % 4 ≤ 3 := by omega
  obtain ⟨k, hk'⟩ : ∃ k, k = (qr m - qr l) % 4 := ⟨_, rfl⟩
  rw [← hk'] at hk hkr HSTP
  obtain ⟨a, ha'⟩ : ∃ a, a = m % 4 := ⟨_, rfl⟩
  rw [← ha'] at ha HSTP
  have hw : IntKind.i64.wrap (qr m - qr l) = qr m - qr l := by rw [IntWalk.i64_left]; exact IntWalk.wrap64_in _ ⟨by omega, by omega⟩
  clear hk' ha' hq hr
  rw [HSTP.out]
  clear HSTP
  go_enter Try.func11, Try.ntmps11
  go_wp2_with fail
  go_quiet ((go_at_call 19; (with_reducible refine Calls.quiet_of_same (HP.out _ _))))
  obtain ⟨k0, k3⟩ := hkr
  have HK := Lib.hid hk
  clear hk hw HP
  have hcs : ((k = 0 ∨ k = 2) ∨ (k = 1 ∧ s ≤ 9223372036854775806) ∨ (k = 1 ∧ s = 9223372036854775807)) ∨ (k = 3 ∧ -9223372036854775807 ≤ s) ∨ (k = 3 ∧ s = -9223372036854775808) := by omega
  clear k0 k3
  rcases hcs with ((rfl | rfl) | ⟨rfl, h⟩ | ⟨rfl, rfl⟩) | ⟨rfl, h⟩ | ⟨rfl, rfl⟩
  · clear HK
    go_wp2_with fail
    (try simp only [Exit.inBlock, Exit.then])
    refine bodyPost_ret (v := .agg #[.int .i64 a, .int .i64 (s), .bool j]) ?_ rfl ⟨by rw [show bump 0 s = s from rfl, show (j || decide ((0 : Int) = 2)) = j by simp], ?_⟩
    · rw [results_cell1 rfl]
      go_simp
    · exact bel_set (bel_set (bel_set (bel_set ((HB.out.trans (bel_drewN _ nq |>.mono HB.out.size))) (by omega) 0 _) (by omega) 0 _) (by omega) 1 _) (by omega) 2 _
  · clear HK
    go_wp2_with fail
    (try simp only [Exit.inBlock, Exit.then])
    refine bodyPost_ret (v := .agg #[.int .i64 a, .int .i64 (s), .bool true]) ?_ rfl ⟨by rw [show bump 2 s = s from rfl], ?_⟩
    · rw [results_cell1 rfl]
      go_simp
    · exact bel_set (bel_set (bel_set (bel_set (bel_set ((HB.out.trans (bel_drewN _ nq |>.mono HB.out.size))) (by omega) 0 _) (by omega) 2 _) (by omega) 0 _) (by omega) 1 _) (by omega) 2 _
  · clear HK
    go_wp2_with fail
    (try simp only [Exit.inBlock, Exit.then])
    refine bodyPost_ret (v := .agg #[.int .i64 a, .int .i64 (s + 1), .bool j]) ?_ rfl ⟨by rw [bump_one (s := s) (by omega), show (j || decide ((1 : Int) = 2)) = j by simp], ?_⟩
    · rw [results_cell1 rfl]
      go_simp
    · exact bel_set (bel_set (bel_set (bel_set (bel_set ((HB.out.trans (bel_drewN _ nq |>.mono HB.out.size))) (by omega) 0 _) (by omega) 1 _) (by omega) 0 _) (by omega) 1 _) (by omega) 2 _
  · clear HK
    go_wp2_with fail
    (try simp only [Exit.inBlock, Exit.then])
    refine bodyPost_ret (v := .agg #[.int .i64 a, .int .i64 (9223372036854775807), .bool j]) ?_ rfl ⟨by rw [show bump 1 9223372036854775807 = 9223372036854775807 from rfl, show (j || decide ((1 : Int) = 2)) = j by simp], ?_⟩
    · rw [results_cell1 rfl]
      go_simp
    · exact bel_set (bel_set (bel_set (bel_set (bel_set ((HB.out.trans (bel_drewN _ nq |>.mono HB.out.size))) (by omega) 0 _) (by omega) 1 _) (by omega) 0 _) (by omega) 1 _) (by omega) 2 _
  · clear HK
    go_wp2_with fail
    (try simp only [Exit.inBlock, Exit.then])
    refine bodyPost_ret (v := .agg #[.int .i64 a, .int .i64 (s - 1), .bool j]) ?_ rfl ⟨by rw [bump_three (s := s) (by omega), show (j || decide ((3 : Int) = 2)) = j by simp], ?_⟩
    · rw [results_cell1 rfl]
      go_simp
    · exact bel_set (bel_set (bel_set (bel_set (bel_set ((HB.out.trans (bel_drewN _ nq |>.mono HB.out.size))) (by omega) 0 _) (by omega) 1 _) (by omega) 0 _) (by omega) 1 _) (by omega) 2 _
  · clear HK
    go_wp2_with fail
    (try simp only [Exit.inBlock, Exit.then])
    refine bodyPost_ret (v := .agg #[.int .i64 a, .int .i64 (-9223372036854775808), .bool j]) ?_ rfl ⟨by rw [show bump 3 (-9223372036854775808) = -9223372036854775808 from rfl, show (j || decide ((3 : Int) = 2)) = j by simp], ?_⟩
    · rw [results_cell1 rfl]
      go_simp
    · exact bel_set (bel_set (bel_set (bel_set (bel_set ((HB.out.trans (bel_drewN _ nq |>.mono HB.out.size))) (by omega) 0 _) (by omega) 1 _) (by omega) 0 _) (by omega) 1 _) (by omega) 2 _
end Go.Proofs.Yteknfjnfaedebaa

/-
  Hold of lock by a contract.
-/
import Derived.Test.YtdgaaikmhbppeaaLoCalls
import Derived.Test.YtdgaaikmhbppeaaPhMath
import Derived.BigQuiet
namespace Go.Proofs.Ytdgaaikmhbppeaa
open Go.RowKit

set_option maxHeartbeats 2000000 in
theorem lohold_to (T : PhT) (ha : 0 ≤ T.ap ∧ T.ap ≤ 9223372036854775807) (hf : 0 ≤ T.fr ∧ T.fr ≤ 9223372036854775807) (n : Int) (hn : lohold T.ap T.fr = n) (w : World) : Calls Try.prog 15 #[.agg #[.int .i64 T.am, .int .i64 T.re, .int .i64 T.en, .int .i64 T.tr, .int .i64 T.pr, .int .i64 T.op, .int .i64 T.ov, .int .i64 T.fr, .int .i64 T.ap, .int .i64 T.wa]] w fun e w' => e = .returned (.int .i64 n) ∧ Below w.heap.size w w' := by
  have X0 := blk_new w #[.int .i64 T.am, .int .i64 T.re, .int .i64 T.en, .int .i64 T.tr, .int .i64 T.pr, .int .i64 T.op, .int .i64 T.ov, .int .i64 T.fr, .int .i64 T.ap, .int .i64 T.wa] 24
  have HB := Lib.hid (below_alloc (Below.refl _ w) (.cells #[.int .i64 T.am, .int .i64 T.re, .int .i64 T.en, .int .i64 T.tr, .int .i64 T.pr, .int .i64 T.op, .int .i64 T.ov, .int .i64 T.fr, .int .i64 T.ap, .int .i64 T.wa] 24))
  obtain ⟨am, re, en, tr, pr, op, ov, fr, ap, wa⟩ := T
  dsimp only at ha hf hn HB X0 ⊢
  unfold lohold at hn
  obtain ⟨t0, t1, t2, t3, t4, t5, t6, t7, t8, t9⟩ := box10 X0
  clear X0
  have q0 : (9223372036854775807 - 2 : Int) = 9223372036854775805 := by decide
  rcases (show ap < fr ∨ fr < ap ∨ fr = ap by omega) with hc | hc | rfl
  · have hw : wrap64 (9223372036854775805 - fr) = 9223372036854775805 - fr := IntWalk.wrap64_in _ (by omega)
    have h1 : 0 < fr := by omega
    by_cases h2 : 9223372036854775805 - fr < ap
    · obtain rfl : n = 9223372036854775807 := by omega
      clear hn ha hf
      go_enter Try.func15, Try.ntmps15
      go_wp2_with fail
      go_quiet (fail)
      go_wp2_with fail
      go_ret
      exact ⟨rfl, below_call HB.out (bel_drewN _ _)⟩
    · obtain ⟨s, hs⟩ : ∃ s, ap + fr = s := ⟨_, rfl⟩
      have hv : wrap64 (ap + fr) = s := by rw [hs]; exact IntWalk.wrap64_in _ (by omega)
      have hx : wrap64 (s + 2) = n := by rw [show s + 2 = n by omega]; exact IntWalk.wrap64_in _ (by omega)
      have h3 : ¬ fr < 0 := by omega
      clear hn ha hf hs
      go_enter Try.func15, Try.ntmps15
      go_wp2_with fail
      go_quiet (fail)
      go_wp2_with fail
      go_ret
      exact ⟨rfl, below_call HB.out (bel_drewN _ _)⟩
  · have hw : wrap64 (9223372036854775805 - ap) = 9223372036854775805 - ap := IntWalk.wrap64_in _ (by omega)
    rcases (show (0 < ap ∧ 9223372036854775805 - ap < fr ∧ n = 9223372036854775807) ∨ (0 < ap ∧ ¬ 9223372036854775805 - ap < fr ∧ fr + ap + 2 = n) by omega) with ⟨h1, h2, rfl⟩ | ⟨h1, h2, h3⟩
    · clear hn ha hf
      go_enter Try.func15, Try.ntmps15
      go_wp2_with fail
      go_quiet (fail)
      go_wp2_with fail
      go_ret
      exact ⟨rfl, below_call HB.out (bel_drewN _ _)⟩
    all_goals
      obtain ⟨s, hs⟩ : ∃ s, fr + ap = s := ⟨_, rfl⟩
      have hv : wrap64 (fr + ap) = s := by rw [hs]; exact IntWalk.wrap64_in _ (by omega)
      have hx : wrap64 (s + 2) = n := by rw [show s + 2 = n by omega]; exact IntWalk.wrap64_in _ (by omega)
      have h4 : ¬ ap < 0 := by omega
      clear hn ha hf hs h3
      go_enter Try.func15, Try.ntmps15
      go_wp2_with fail
      go_quiet (fail)
      go_wp2_with fail
      go_ret
      exact ⟨rfl, below_call HB.out (bel_drewN _ _)⟩
  · have hw : wrap64 (9223372036854775805 - fr) = 9223372036854775805 - fr := IntWalk.wrap64_in _ (by omega)
    rcases (show (0 < fr ∧ 9223372036854775805 - fr < fr ∧ n = 9223372036854775807) ∨ (0 < fr ∧ ¬ 9223372036854775805 - fr < fr ∧ fr + fr + 2 = n) ∨ (¬ 0 < fr ∧ fr + fr + 2 = n) by omega) with ⟨h1, h2, rfl⟩ | ⟨h1, h2, h3⟩ | ⟨h1, h3⟩
    · clear hn ha hf
      go_enter Try.func15, Try.ntmps15
      go_wp2_with fail
      go_quiet (fail)
      go_wp2_with fail
      go_ret
      exact ⟨rfl, below_call HB.out (bel_drewN _ _)⟩
    all_goals
      obtain ⟨s, hs⟩ : ∃ s, fr + fr = s := ⟨_, rfl⟩
      have hv : wrap64 (fr + fr) = s := by rw [hs]; exact IntWalk.wrap64_in _ (by omega)
      have hx : wrap64 (s + 2) = n := by rw [show s + 2 = n by omega]; exact IntWalk.wrap64_in _ (by omega)
      have h4 : ¬ fr < 0 := by omega
      have HS := Lib.hid h3
      clear hn ha hf hs h3
      go_enter Try.func15, Try.ntmps15
      go_wp2_with fail
      go_quiet (fail)
      go_wp2_with fail
      go_ret
      exact ⟨by first | rfl | exact congrArg (fun x => Ending.returned (.int .i64 x)) HS.out, below_call HB.out (bel_drewN _ _)⟩
end Go.Proofs.Ytdgaaikmhbppeaa

/-
  The document's Hold by a contract, of times from 0 on.
-/
import Derived.Test.YtdgaaikmhbppeaaLoHold
namespace Go.Proofs.Ytdgaaikmhbppeaa
open Go.RowKit

theorem lorsum_to (a b n : Int) (ha : 0 ≤ a ∧ a ≤ 9223372036854775807) (hb : 0 ≤ b ∧ b ≤ 9223372036854775807) (hn : min (a + b) 9223372036854775807 = n) (w : World) : Calls Try.prog 18 #[.int .i64 a, .int .i64 b] w fun e w' => e = .returned (.int .i64 n) ∧ w' = w := by
  have hw : wrap64 (9223372036854775807 - b) = 9223372036854775807 - b := IntWalk.wrap64_in _ (by omega)
  rcases (show (0 < b ∧ 9223372036854775807 - b < a ∧ n = 9223372036854775807) ∨ (0 < b ∧ ¬ 9223372036854775807 - b < a ∧ a + b = n) ∨ (¬ 0 < b ∧ a + b = n) by omega) with ⟨h1, h2, rfl⟩ | ⟨h1, h2, h3⟩ | ⟨h1, h3⟩
  · clear hn ha hb
    go_enter Try.func18, Try.ntmps18
    go_wp2_with fail
    go_ret
    exact ⟨rfl, rfl⟩
  all_goals
    have hv : wrap64 (a + b) = n := by rw [h3]; exact IntWalk.wrap64_in _ (by omega)
    clear hn ha hb h3
    go_enter Try.func18, Try.ntmps18
    go_wp2_with fail
    go_ret
    exact ⟨by simp, rfl⟩
set_option maxHeartbeats 2000000 in
theorem lorhold_to (T : PhT) (ha : 0 ≤ T.ap ∧ T.ap ≤ 9223372036854775807) (hf : 0 ≤ T.fr ∧ T.fr ≤ 9223372036854775807) (n : Int) (hn : lohold T.ap T.fr = n) (w : World) : Calls Try.prog 16 #[.agg #[.int .i64 T.am, .int .i64 T.re, .int .i64 T.en, .int .i64 T.tr, .int .i64 T.pr, .int .i64 T.op, .int .i64 T.ov, .int .i64 T.fr, .int .i64 T.ap, .int .i64 T.wa]] w fun e w' => e = .returned (.int .i64 n) ∧ Below w.heap.size w w' := by
  have X0 := blk_new w #[.int .i64 T.am, .int .i64 T.re, .int .i64 T.en, .int .i64 T.tr, .int .i64 T.pr, .int .i64 T.op, .int .i64 T.ov, .int .i64 T.fr, .int .i64 T.ap, .int .i64 T.wa] 24
  have HB := Lib.hid (below_alloc (Below.refl _ w) (.cells #[.int .i64 T.am, .int .i64 T.re, .int .i64 T.en, .int .i64 T.tr, .int .i64 T.pr, .int .i64 T.op, .int .i64 T.ov, .int .i64 T.fr, .int .i64 T.ap, .int .i64 T.wa] 24))
  obtain ⟨am, re, en, tr, pr, op, ov, fr, ap, wa⟩ := T
  dsimp only at ha hf hn HB X0 ⊢
  unfold lohold at hn
  obtain ⟨t0, t1, t2, t3, t4, t5, t6, t7, t8, t9⟩ := box10 X0
  obtain ⟨m, hm⟩ : ∃ m, min (ap + fr) 9223372036854775807 = m := ⟨_, rfl⟩
  have H1 := Lib.hid (lorsum_to ap fr m ha hf hm)
  have H2 := Lib.hid (lorsum_to m 2 n (by omega) (by decide) (by omega))
  clear X0 hn hm ha hf
  go_enter Try.func16, Try.ntmps16
  go_wp2_with fail
  (with_reducible refine (H1.out _).mono ?_)
  rintro e w1 ⟨rfl, rfl⟩
  go_wp2_with fail
  (with_reducible refine (H2.out _).mono ?_)
  rintro e w1 ⟨rfl, rfl⟩
  go_wp2_with fail
  go_ret
  exact ⟨rfl, HB.out⟩
end Go.Proofs.Ytdgaaikmhbppeaa

/-
  The small calls of track by contracts: how long, which delay, what is forgotten.
-/
import Derived.Test.YteknfjnfaedebaaTkMath
import Derived.Test.YteknfjnfaedebaaPrRest
namespace Go.Proofs.Yteknfjnfaedebaa
open Go.RowKit

theorem longer_to (n m : Int) (h : lng n = m) (w : World) : Calls Try.prog 16 #[.int .i64 n] w fun e w' => e = .returned (.int .i64 m) ∧ w' = w := by
  unfold lng at h
  go_enter Try.func16, Try.ntmps16
  go_wp2_with fail
  all_goals (go_ret; exact ⟨by simp; omega, rfl⟩)
set_option maxHeartbeats 1000000 in
theorem wait_to (a b c k m : Int) (h : wtt a b c k = m) (w : World) : Calls Try.prog 17 #[.agg #[.int .i64 a, .int .i64 b, .int .i64 c], .int .i64 k] w fun e w' => e = .returned (.int .i64 m) ∧ Below w.heap.size w w' := by
  have HB := Lib.hid (below_alloc (Below.refl _ w) (.cells #[.int .i64 a, .int .i64 b, .int .i64 c] 23))
  have HX := blk_new w #[.int .i64 a, .int .i64 b, .int .i64 c] 23
  obtain ⟨x0, x1, x2⟩ := HX.three
  clear HX
  subst h
  rcases (show k < 0 ∨ 3 ≤ k ∨ k = 0 ∨ k = 1 ∨ k = 2 by omega) with h | h | rfl | rfl | rfl
  · have e : wtt a b c k = 0 := by unfold wtt; rw [if_neg (by omega), if_neg (by omega), if_neg (by omega)]
    rw [e]
    clear e
    go_enter Try.func17, Try.ntmps17
    go_wp2_with fail
    go_ret
    exact ⟨rfl, HB.out⟩
  · have e : wtt a b c k = 0 := by unfold wtt; rw [if_neg (by omega), if_neg (by omega), if_neg (by omega)]
    rw [e]
    clear e
    have h0 : ¬ k < 0 := by omega
    go_enter Try.func17, Try.ntmps17
    go_wp2_with fail
    go_ret
    exact ⟨rfl, HB.out⟩
  · go_enter Try.func17, Try.ntmps17
    go_wp2_with fail
    go_ret
    exact ⟨rfl, HB.out⟩
  · go_enter Try.func17, Try.ntmps17
    go_wp2_with fail
    go_ret
    exact ⟨rfl, HB.out⟩
  · go_enter Try.func17, Try.ntmps17
    go_wp2_with fail
    go_ret
    exact ⟨rfl, HB.out⟩
set_option maxHeartbeats 1000000 in
theorem forget_to (l s : Int) (j : Bool) (r : Bool) (h : (j && !decide (l % 4 = 0)) = r) (w : World) : Calls Try.prog 13 #[.agg #[.int .i64 l, .int .i64 s, .bool j]] w fun e w' => e = .returned (.agg #[.int .i64 l, .int .i64 s, .bool r]) ∧ Below w.heap.size w w' := by
  have hX := blk_new (w.alloc (.cells #[.int .i64 l, .int .i64 s, .bool j] 29)) pr0 29
  rw [show (w.alloc (.cells #[.int .i64 l, .int .i64 s, .bool j] 29)).heap.size = w.heap.size + 1 by simp] at hX
  have hL := (blk_new w #[.int .i64 l, .int .i64 s, .bool j] 29).below (below_alloc (Below.refl _ (w.alloc (.cells #[.int .i64 l, .int .i64 s, .bool j] 29))) (.cells pr0 29))
  have HB := Lib.hid (below_alloc (below_alloc (below_alloc (Below.refl _ w) (.cells #[.int .i64 l, .int .i64 s, .bool j] 29)) (.cells pr0 29)) (.cells #[.int .i64 l, .int .i64 s, .bool false] 29))
  have HC := Lib.hid (blk_new ((w.alloc (.cells #[.int .i64 l, .int .i64 s, .bool j] 29)).alloc (.cells pr0 29)) #[.int .i64 l, .int .i64 s, .bool false] 29)
  rw [show ((w.alloc (.cells #[.int .i64 l, .int .i64 s, .bool j] 29)).alloc (.cells pr0 29)).heap.size = w.heap.size + 1 + 1 by simp] at HC
  have hA := below_alloc (Below.refl _ ((w.alloc (.cells #[.int .i64 l, .int .i64 s, .bool j] 29)).alloc (.cells pr0 29))) (.cells #[.int .i64 l, .int .i64 s, .bool false] 29)
  have HX := Lib.hid (hX.below hA)
  have HL := Lib.hid (hL.below hA)
  obtain ⟨y0, y1, y2⟩ := hL.three
  clear hX hL hA
  by_cases h0 : l % 4 = 0
  · have HR := Lib.hid (rest_to l s false true (by simp [h0]))
    obtain rfl : r = false := by rw [← h]; simp [h0]
    clear h h0
    go_enter Try.func13, Try.ntmps13
    go_wp2_with fail
    (with_reducible refine (HR.out _).mono ?_)
    rintro e w1 ⟨rfl, hb⟩
    replace HB := Lib.hid (below_call HB.out hb)
    obtain ⟨c0, c1, c2⟩ := (HC.out.below hb).three
    obtain ⟨x0, x1, x2⟩ := (HX.out.below hb).three
    have f0 := (HX.out.below hb).frz 0
    have f1 := (HX.out.below hb).frz 1
    have f2 := (HX.out.below hb).frz 2
    clear hb HX HL HC y0 y1 y2
    go_wp2_with fail
    (try simp only [Exit.inBlock, Exit.then])
    refine bodyPost_ret (v := .agg #[.int .i64 l, .int .i64 s, .bool false]) ?_ rfl ⟨rfl, ?_⟩
    · rw [results_cell1 rfl]
      go_simp
    · exact bel_put3 HB.out (by omega) _ _ _
  · have HR := Lib.hid (rest_to l s false false (by simp [h0]))
    obtain rfl : r = j := by rw [← h]; simp [h0]
    clear h h0
    go_enter Try.func13, Try.ntmps13
    go_wp2_with fail
    (with_reducible refine (HR.out _).mono ?_)
    rintro e w1 ⟨rfl, hb⟩
    replace HB := Lib.hid (below_call HB.out hb)
    obtain ⟨c0, c1, c2⟩ := (HL.out.below hb).three
    obtain ⟨x0, x1, x2⟩ := (HX.out.below hb).three
    have f0 := (HX.out.below hb).frz 0
    have f1 := (HX.out.below hb).frz 1
    have f2 := (HX.out.below hb).frz 2
    clear hb HX HL HC y0 y1 y2
    go_wp2_with fail
    (try simp only [Exit.inBlock, Exit.then])
    refine bodyPost_ret (v := .agg #[.int .i64 l, .int .i64 s, .bool r]) ?_ rfl ⟨rfl, ?_⟩
    · rw [results_cell1 rfl]
      go_simp
    · exact bel_put3 HB.out (by omega) _ _ _
end Go.Proofs.Yteknfjnfaedebaa

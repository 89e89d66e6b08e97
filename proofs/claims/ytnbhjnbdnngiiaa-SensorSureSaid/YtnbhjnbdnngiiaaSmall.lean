/-
  The walk of crossbucklaw13.small: true.
-/
import Derived.Test.YtnbhjnbdnngiiaaSnPrB
import Derived.Test.YtnbhjnbdnngiiaaTxt
namespace Go.Proofs.Ytnbhjnbdnngiiaa
open Go.RowKit

theorem zero_byts (w : World) : Byts w (.slice none 0 0) [] := byts_nil w
theorem txt_two : ((txt [byteOf 2]).toList == [2]) = true := by
  have h : txt [byteOf 2] = { data := #[2] } := by rfl
  rw [h]
  simp [go_sem]
theorem bar_nine : barIs 9 true false false true := by unfold barIs; decide
theorem bar_three : barIs 3 false false false false := by unfold barIs; decide
theorem cnt_yes : cntOf true [byteOf 4, byteOf 2, byteOf 1, byteOf 3] = ⟨true, 4, 2, 1, 3⟩ := by simp [cntOf, byteOf]
theorem cnt_no : cntOf true [byteOf 4, byteOf 2, byteOf 3, byteOf 0] = ⟨false, 0, 0, 0, 0⟩ := by simp [cntOf, byteOf]
set_option maxHeartbeats 8000000 in
set_option maxRecDepth 10000 in
theorem small_true (w : World) : Calls Try.prog 8 #[] w fun e w' => e = .returned (.bool true) ∧ Below w.heap.size w w' := by
  have HB := Lib.hid (Below.refl w.heap.size w)
  have e1 := eql_bar true false false true true false false true true (by decide)
  have e2 := eql_bar false false false false false false false false true (by decide)
  have e3 := eql_cnt true 4 2 1 3 true 4 2 1 3 true (by decide)
  have e4 := eql_cnt false 0 0 0 0 false 0 0 0 0 true (by decide)
  go_enter Try.func8, Try.ntmps8
  go_wp2_with fail
  (with_reducible refine (power_to true [byteOf 1] _ 1 (by decide) _ true false (by decide) (by decide) (byte_at w (by omega) (by omega) _ (by simp))).mono ?_)
  rintro e V0 ⟨rfl, rfl⟩
  replace HB := Lib.hid (below_alloc HB.out (.cells #[.int .u8 1] 5))
  generalize w.alloc (.cells #[.int .u8 1] 5) = W1 at *
  go_wp2_with fail
  (with_reducible refine (counts_to true [byteOf 4, byteOf 2, byteOf 1, byteOf 3] _ _ cnt_yes _ (four_at W1 (by omega) (by omega) (by omega) (by omega) _ (by simp))).mono ?_)
  rintro e V1 ⟨rfl, hb⟩
  replace HB := Lib.hid (below_alloc HB.out (.cells #[.int .u8 4, .int .u8 2, .int .u8 1, .int .u8 3] 5))
  replace HB := Lib.hid (below_call HB.out hb)
  clear hb
  replace HB := Lib.hid (below_alloc HB.out (.cells #[.bool true, .int .i64 4, .int .i64 2, .int .i64 1, .int .i64 3] 33))
  have HC := Lib.hid (blk_new V1 #[.bool true, .int .i64 4, .int .i64 2, .int .i64 1, .int .i64 3] 33)
  go_wp2_with fail
  (with_reducible refine (mode_to true [] _ (-1) (by decide) _ 1 (by decide) (zero_byts _)).mono ?_)
  rintro e V4 ⟨rfl, rfl⟩
  generalize V1.alloc (.cells #[.bool true, .int .i64 4, .int .i64 2, .int .i64 1, .int .i64 3] 33) = W4 at *
  go_wp2_with fail
  (with_reducible refine (mode_to true [byteOf 2] _ 2 (by decide) _ 2 (by decide) (byte_at W4 (by omega) (by omega) _ (by simp))).mono ?_)
  rintro e V4 ⟨rfl, rfl⟩
  replace HB := Lib.hid (below_alloc HB.out (.cells #[.int .u8 2] 5))
  replace HC := Lib.hid (HC.out.below (below_alloc (Below.refl _ W4) (.cells #[.int .u8 2] 5)))
  generalize W4.alloc (.cells #[.int .u8 2] 5) = W5 at *
  go_wp2_with fail
  (with_reducible refine (obst_to false [] _ (-1) (by decide) _ true (by decide) (zero_byts _)).mono ?_)
  rintro e V6 ⟨rfl, rfl⟩
  go_wp2_with fail
  (with_reducible refine (obst_to true [byteOf 0] _ 0 (by decide) _ false (by decide) (byte_at V6 (by omega) (by omega) _ (by simp))).mono ?_)
  rintro e V6 ⟨rfl, rfl⟩
  replace HB := Lib.hid (below_alloc HB.out (.cells #[.int .u8 0] 5))
  replace HC := Lib.hid (HC.out.below (below_alloc (Below.refl _ V6) (.cells #[.int .u8 0] 5)))
  generalize V6.alloc (.cells #[.int .u8 0] 5) = W7 at *
  go_wp2_with fail
  (with_reducible refine (lamps_to true [byteOf 1] _ 1 (by decide) _ true (by decide) (byte_at W7 (by omega) (by omega) _ (by simp))).mono ?_)
  rintro e V7 ⟨rfl, rfl⟩
  replace HB := Lib.hid (below_alloc HB.out (.cells #[.int .u8 1] 5))
  replace HC := Lib.hid (HC.out.below (below_alloc (Below.refl _ W7) (.cells #[.int .u8 1] 5)))
  generalize W7.alloc (.cells #[.int .u8 1] 5) = W8 at *
  go_wp2_with fail
  (with_reducible refine (lamps_to false [byteOf 1] _ (-1) (by decide) _ false (by decide) (byte_at W8 (by omega) (by omega) _ (by simp))).mono ?_)
  rintro e V8 ⟨rfl, rfl⟩
  replace HB := Lib.hid (below_alloc HB.out (.cells #[.int .u8 1] 5))
  replace HC := Lib.hid (HC.out.below (below_alloc (Below.refl _ W8) (.cells #[.int .u8 1] 5)))
  generalize W8.alloc (.cells #[.int .u8 1] 5) = W9 at *
  go_wp2_with fail
  (with_reducible refine (barrier_to true [byteOf 9] _ 9 (by decide) true false false true bar_nine _ (byte_at W9 (by omega) (by omega) _ (by simp))).mono ?_)
  rintro e V9 ⟨rfl, hb⟩
  replace HB := Lib.hid (below_alloc HB.out (.cells #[.int .u8 9] 5))
  replace HC := Lib.hid (HC.out.below (below_alloc (Below.refl _ W9) (.cells #[.int .u8 9] 5)))
  replace HB := Lib.hid (below_call HB.out hb)
  replace HC := Lib.hid (HC.out.below hb)
  clear hb
  go_wp2_with fail
  (with_reducible refine (barrier_to true [byteOf 3] _ 3 (by decide) false false false false bar_three _ (byte_at V9 (by omega) (by omega) _ (by simp))).mono ?_)
  rintro e V10 ⟨rfl, hb⟩
  replace HB := Lib.hid (below_alloc HB.out (.cells #[.int .u8 3] 5))
  replace HC := Lib.hid (HC.out.below (below_alloc (Below.refl _ V9) (.cells #[.int .u8 3] 5)))
  replace HB := Lib.hid (below_call HB.out hb)
  replace HC := Lib.hid (HC.out.below hb)
  clear hb
  go_wp2_with fail
  (with_reducible refine (routes_to true [byteOf 3] _ 3 (by decide) _ 2 4 3 (by decide) (by decide) (byte_at V10 (by omega) (by omega) _ (by simp))).mono ?_)
  rintro e V11 ⟨rfl, rfl⟩
  replace HB := Lib.hid (below_alloc HB.out (.cells #[.int .u8 3] 5))
  replace HC := Lib.hid (HC.out.below (below_alloc (Below.refl _ V10) (.cells #[.int .u8 3] 5)))
  generalize V10.alloc (.cells #[.int .u8 3] 5) = W12 at *
  go_wp2_with fail
  (with_reducible refine (routes_to true [byteOf 4] _ 4 (by decide) _ 2 4 0 (by decide) (by decide) (byte_at W12 (by omega) (by omega) _ (by simp))).mono ?_)
  rintro e V12 ⟨rfl, rfl⟩
  replace HB := Lib.hid (below_alloc HB.out (.cells #[.int .u8 4] 5))
  replace HC := Lib.hid (HC.out.below (below_alloc (Below.refl _ W12) (.cells #[.int .u8 4] 5)))
  generalize W12.alloc (.cells #[.int .u8 4] 5) = W13 at *
  obtain ⟨c0, c1, c2, c3, c4⟩ := blk_five HC.out
  go_wp2_with fail
  (with_reducible refine (counts_to true [byteOf 4, byteOf 2, byteOf 3, byteOf 0] _ _ cnt_no _ (four_at W13 (by omega) (by omega) (by omega) (by omega) _ (by simp))).mono ?_)
  rintro e V13 ⟨rfl, hb⟩
  replace HB := Lib.hid (below_alloc HB.out (.cells #[.int .u8 4, .int .u8 2, .int .u8 3, .int .u8 0] 5))
  replace HC := Lib.hid (HC.out.below (below_alloc (Below.refl _ W13) (.cells #[.int .u8 4, .int .u8 2, .int .u8 3, .int .u8 0] 5)))
  replace HB := Lib.hid (below_call HB.out hb)
  replace HC := Lib.hid (HC.out.below hb)
  clear hb
  clear c0 c1 c2 c3 c4 HC
  go_wp2_with fail
  (with_reducible refine (print_mode_yes _ _ _ _ _ _ _ 2 _ _ _ _ _ (by omega)).mono ?_)
  rintro e w9 ⟨g9, rfl, hy, hg, hb⟩
  have ht := txt_run _ _ _ hy
  have hs := txt_two
  replace HB := Lib.hid (below_call HB.out hb)
  clear hy hg hb
  go_wp2_with fail
  go_ret
  exact ⟨rfl, HB.out⟩
end Go.Proofs.Ytnbhjnbdnngiiaa

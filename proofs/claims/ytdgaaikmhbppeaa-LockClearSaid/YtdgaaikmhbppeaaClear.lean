/-
  The walk of crossbucklaw22.LockClear: true, whatever it is given.
-/
import Derived.Test.YtdgaaikmhbppeaaSmall
import Derived.Lib.QuietBelow
import Derived.BigQuiet
namespace Go.Proofs.Ytdgaaikmhbppeaa
open Go.RowKit

set_option maxHeartbeats 2000000 in
set_option maxRecDepth 10000 in
theorem clear_any (c : Bool) (h : Int) (may : Bool) (hold : Int) (w : World) (hr : LoR h) : Calls Try.prog 6 #[.agg #[.bool c, .int .i64 h], .bool may, .int .i64 hold] w fun e w' => e = .returned (.bool true) ∧ Below w.heap.size w w' := by
  obtain ⟨h', hh⟩ : ∃ h', losc ⟨c, h⟩ may hold = ⟨may, h'⟩ := by cases may <;> exact ⟨_, rfl⟩
  have h0 : 0 ≤ h' := by have := losc_h ⟨c, h⟩ may hold; rw [hh] at this; exact this
  have H1 := Lib.hid (lostep_to c h may hold may h' hh hr)
  have HB0 := Lib.hid (below_alloc (Below.refl _ w) (.cells #[.bool c, .int .i64 h] 27))
  have HX0 := Lib.hid (lobox w c h)
  have hcs : (may = true ∧ losc ⟨false, 0⟩ true hold = ⟨true, h'⟩) ∨ (may = false ∧ h < 1 ∧ h' = 0 ∧ ¬ 1 < h) ∨ (may = false ∧ h = 1 ∧ h' = 0) ∨ (may = false ∧ ¬ h < 1 ∧ h' < h ∧ 0 < h' ∧ 1 < h) := by
    cases may
    · rw [losc_no] at hh
      injection hh with _ hh
      dsimp only at hh
      simp only [Bool.false_eq_true, false_and, true_and, false_or]
      omega
    · exact .inl ⟨rfl, hh⟩
  clear hh hr
  rcases hcs with ⟨rfl, h1⟩ | ⟨rfl, h1, rfl, h2⟩ | ⟨rfl, rfl, rfl⟩ | ⟨rfl, h1, h2, h3, h4⟩
  · have H2 := Lib.hid (lostep_to false 0 true hold true h' h1 (by unfold LoR; decide))
    have H3 := Lib.hid (lokd_to true h' true rfl)
    have E1 := eql_los true h'
    have q1 : (true == true) = true := rfl
    clear h1
    go_enter Try.func6, Try.ntmps6
    go_wp2_with fail
    (with_reducible refine (small_true _).mono ?_)
    rintro e w1 ⟨rfl, hb⟩
    have HB1 := Lib.hid (below_call HB0.out hb)
    have HX1 := Lib.hid (HX0.out.below hb)
    clear hb HB0 HX0
    obtain ⟨x0, x1⟩ := box2 HX1.out
    go_wp2_with fail
    (with_reducible refine (H1.out _).mono ?_)
    rintro e w2 ⟨rfl, hb⟩
    clear x0 x1
    have HX2 := Lib.hid ((HX1.out.below hb).below (below_alloc (Below.refl _ w2) (.cells #[.bool true, .int .i64 h'] 27)))
    have HB2 := Lib.hid (below_alloc (below_call HB1.out hb) (.cells #[.bool true, .int .i64 h'] 27))
    have HY2 := Lib.hid (lobox w2 true h')
    clear hb HX1 HB1
    obtain ⟨x0, x1⟩ := box2 HX2.out
    obtain ⟨y0, y1⟩ := box2 HY2.out
    replace x0 := cell_regrown x0
    replace x1 := cell_regrown x1
    replace y0 := cell_regrown y0
    replace y1 := cell_regrown y1
    go_wp2_with fail
    refine wp_region_quiet_below (by kernel_rfl) (by kernel_rfl) ?_
    repeat (go_big_quiet_step (first | (with_reducible exact Calls.regrown_of (H2.out _)) | (with_reducible exact Calls.regrown_of (H3.out _))))
    refine wpQuiet_nil ?_
    intro _ hw'
    obtain ⟨⟨dq, osq⟩, hw''⟩ := hw'
    subst hw''
    clear x0 x1 y0 y1
    go_wp2_with fail
    go_ret
    exact ⟨rfl, below_call HB2.out (below_regrown _ dq osq)⟩
  · have H3 := Lib.hid (lokd_to false 0 false rfl)
    have HQ := Lib.hid h2
    have q1 : (false == false) = true := rfl
    go_enter Try.func6, Try.ntmps6
    go_wp2_with fail
    (with_reducible refine (small_true _).mono ?_)
    rintro e w1 ⟨rfl, hb⟩
    have HB1 := Lib.hid (below_call HB0.out hb)
    have HX1 := Lib.hid (HX0.out.below hb)
    clear hb HB0 HX0
    obtain ⟨x0, x1⟩ := box2 HX1.out
    go_wp2_with fail
    (with_reducible refine (H1.out _).mono ?_)
    rintro e w2 ⟨rfl, hb⟩
    clear x0 x1
    have HX2 := Lib.hid ((HX1.out.below hb).below (below_alloc (Below.refl _ w2) (.cells #[.bool false, .int .i64 0] 27)))
    have HB2 := Lib.hid (below_alloc (below_call HB1.out hb) (.cells #[.bool false, .int .i64 0] 27))
    have HY2 := Lib.hid (lobox w2 false 0)
    clear hb HX1 HB1
    obtain ⟨x0, x1⟩ := box2 HX2.out
    obtain ⟨y0, y1⟩ := box2 HY2.out
    replace x0 := cell_regrown x0
    replace x1 := cell_regrown x1
    replace y0 := cell_regrown y0
    replace y1 := cell_regrown y1
    go_wp2_with fail
    refine wp_region_quiet_below (by kernel_rfl) (by kernel_rfl) ?_
    repeat (go_big_quiet_step (first | (with_reducible exact Calls.regrown_of (H3.out _))))
    refine wpQuiet_nil ?_
    intro _ hw'
    obtain ⟨⟨dq, osq⟩, hw''⟩ := hw'
    subst hw''
    clear x0 x1 y0 y1
    go_wp2_with fail
    go_ret
    exact ⟨by show Ending.returned (Value.bool (!decide (1 < h))) = _; rw [decide_eq_false (show ¬ 1 < h by have := HQ.out; omega)]; rfl, below_call HB2.out (below_regrown _ dq osq)⟩
  · have H3 := Lib.hid (lokd_to false 0 false rfl)
    have q1 : (false == false) = true := rfl
    go_enter Try.func6, Try.ntmps6
    go_wp2_with fail
    (with_reducible refine (small_true _).mono ?_)
    rintro e w1 ⟨rfl, hb⟩
    have HB1 := Lib.hid (below_call HB0.out hb)
    have HX1 := Lib.hid (HX0.out.below hb)
    clear hb HB0 HX0
    obtain ⟨x0, x1⟩ := box2 HX1.out
    go_wp2_with fail
    (with_reducible refine (H1.out _).mono ?_)
    rintro e w2 ⟨rfl, hb⟩
    clear x0 x1
    have HX2 := Lib.hid ((HX1.out.below hb).below (below_alloc (Below.refl _ w2) (.cells #[.bool false, .int .i64 0] 27)))
    have HB2 := Lib.hid (below_alloc (below_call HB1.out hb) (.cells #[.bool false, .int .i64 0] 27))
    have HY2 := Lib.hid (lobox w2 false 0)
    clear hb HX1 HB1
    obtain ⟨x0, x1⟩ := box2 HX2.out
    obtain ⟨y0, y1⟩ := box2 HY2.out
    replace x0 := cell_regrown x0
    replace x1 := cell_regrown x1
    replace y0 := cell_regrown y0
    replace y1 := cell_regrown y1
    go_wp2_with fail
    refine wp_region_quiet_below (by kernel_rfl) (by kernel_rfl) ?_
    repeat (go_big_quiet_step (first | (with_reducible exact Calls.regrown_of (H3.out _))))
    refine wpQuiet_nil ?_
    intro _ hw'
    obtain ⟨⟨dq, osq⟩, hw''⟩ := hw'
    subst hw''
    clear x0 x1 y0 y1
    go_wp2_with fail
    go_ret
    exact ⟨rfl, below_call HB2.out (below_regrown _ dq osq)⟩
  · have H3 := Lib.hid (lokd_to false h' true (by unfold lokd; simp [h3]))
    have q1 : (true == true) = true := rfl
    have q2 : (false == false) = true := rfl
    go_enter Try.func6, Try.ntmps6
    go_wp2_with fail
    (with_reducible refine (small_true _).mono ?_)
    rintro e w1 ⟨rfl, hb⟩
    have HB1 := Lib.hid (below_call HB0.out hb)
    have HX1 := Lib.hid (HX0.out.below hb)
    clear hb HB0 HX0
    obtain ⟨x0, x1⟩ := box2 HX1.out
    go_wp2_with fail
    (with_reducible refine (H1.out _).mono ?_)
    rintro e w2 ⟨rfl, hb⟩
    clear x0 x1
    have HX2 := Lib.hid ((HX1.out.below hb).below (below_alloc (Below.refl _ w2) (.cells #[.bool false, .int .i64 h'] 27)))
    have HB2 := Lib.hid (below_alloc (below_call HB1.out hb) (.cells #[.bool false, .int .i64 h'] 27))
    have HY2 := Lib.hid (lobox w2 false h')
    clear hb HX1 HB1
    obtain ⟨x0, x1⟩ := box2 HX2.out
    obtain ⟨y0, y1⟩ := box2 HY2.out
    replace x0 := cell_regrown x0
    replace x1 := cell_regrown x1
    replace y0 := cell_regrown y0
    replace y1 := cell_regrown y1
    go_wp2_with fail
    refine wp_region_quiet_below (by kernel_rfl) (by kernel_rfl) ?_
    repeat (go_big_quiet_step (first | (with_reducible exact Calls.regrown_of (H3.out _))))
    refine wpQuiet_nil ?_
    intro _ hw'
    obtain ⟨⟨dq, osq⟩, hw''⟩ := hw'
    subst hw''
    clear x0 x1 y0 y1
    go_wp2_with fail
    go_ret
    exact ⟨rfl, below_call HB2.out (below_regrown _ dq osq)⟩
end Go.Proofs.Ytdgaaikmhbppeaa

/-
  The walk of crossbucklaw18.ProveSteps: true, whatever it is given.
-/
import Derived.Test.YtmljjihjmppcmaaSmall
import Derived.Lib.QuietBelow
import Derived.BigQuiet
namespace Go.Proofs.Ytmljjihjmppcmaa
open Go.RowKit

theorem proved_bel (n l : Int) (r : Bool) (hr : decide (l ≤ n ∧ 1 ≤ n) = r) (w : World) : Calls Try.prog 13 #[.int .i64 n, .int .i64 l] w fun e w' => e = .returned (.bool r) ∧ Below w.heap.size w w' :=
  (proved_to n l r hr w).mono fun _ _ h => ⟨h.1, by rw [h.2]; exact Below.refl _ _⟩
theorem rproved_bel (n l : Int) (r : Bool) (hr : decide (l ≤ n ∧ 1 ≤ n) = r) (w : World) : Calls Try.prog 14 #[.int .i64 n, .int .i64 l] w fun e w' => e = .returned (.bool r) ∧ Below w.heap.size w w' :=
  (rproved_to n l r hr w).mono fun _ _ h => ⟨h.1, by rw [h.2]; exact Below.refl _ _⟩
set_option maxHeartbeats 1000000 in
set_option maxRecDepth 10000 in
theorem steps_any (n : Int) (a b c d : Bool) (l : Int) (w : World) (hl : l ≤ 9223372036854775807) : Calls Try.prog 3 #[.int .i64 n, .agg #[.bool a, .bool b, .bool c, .bool d], .int .i64 l] w fun e w' => e = .returned (.bool true) ∧ Below w.heap.size w w' := by
  obtain ⟨r, hr⟩ : ∃ r, (a && c) = r := ⟨_, rfl⟩
  obtain ⟨m, hm⟩ : ∃ m, pvs n (a && c) l = m := ⟨_, rfl⟩
  obtain ⟨p, hp⟩ : ∃ p, decide (l ≤ n ∧ 1 ≤ n) = p := ⟨_, rfl⟩
  have H1 := Lib.hid (down_to a b c d r hr)
  have H2 := Lib.hid (rdown_to a b c d r hr)
  have H3 := Lib.hid (step_to n a b c d l m hm hl)
  have H4 := Lib.hid (rstep_to n a b c d l m hm hl)
  have H5 := Lib.hid (proved_bel n l p hp)
  have H6 := Lib.hid (rproved_bel n l p hp)
  have q1 : (r == r) = true := by simp
  have q2 : (m == m) = true := by simp
  have q3 : (p == p) = true := by simp
  have HB0 := Lib.hid (below_alloc (Below.refl _ w) (.cells #[.bool a, .bool b, .bool c, .bool d] 23))
  have HX0 := Lib.hid (box4b w a b c d)
  clear hr hm hp hl
  go_enter Try.func3, Try.ntmps3
  go_wp2_with fail
  (with_reducible refine (small_true _).mono ?_)
  rintro e w1 ⟨rfl, hb⟩
  have HB := Lib.hid (below_call HB0.out hb)
  have HX := Lib.hid (HX0.out.below hb)
  clear hb HB0 HX0
  obtain ⟨c0, c1, c2, c3⟩ := HX.out.four
  replace c0 := cell_regrown c0
  replace c1 := cell_regrown c1
  replace c2 := cell_regrown c2
  replace c3 := cell_regrown c3
  go_wp2_with fail
  refine wp_region_quiet_below (by kernel_rfl) (by kernel_rfl) ?_
  repeat (go_big_quiet_step (first | (with_reducible exact Calls.regrown_of (H1.out _)) | (with_reducible exact Calls.regrown_of (H2.out _)) | (with_reducible exact Calls.regrown_of (H3.out _)) | (with_reducible exact Calls.regrown_of (H4.out _)) | (with_reducible exact Calls.regrown_of (H5.out _)) | (with_reducible exact Calls.regrown_of (H6.out _))))
  refine wpQuiet_nil ?_
  intro _ hw'
  obtain ⟨⟨dq, osq⟩, hw''⟩ := hw'
  subst hw''
  clear c0 c1 c2 c3
  go_wp2_with fail
  go_ret
  exact ⟨rfl, below_call HB.out (below_regrown _ dq osq)⟩
end Go.Proofs.Ytmljjihjmppcmaa

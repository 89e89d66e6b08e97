/-
  The walk of crossbucklaw11.AxleSame: true, whatever it is given.
-/
import Derived.Test.YtkgloniffmfpjaaSmall
import Derived.Lib.QuietBelow
import Derived.BigQuiet
namespace Go.Proofs.Ytkgloniffmfpjaa
open Go.RowKit

set_option maxHeartbeats 1000000 in
theorem same_out (h : Bool) (i o : Int) (g : Bool) (x y m : Int) (w : World) (hm : ¬ (-1099511627776 ≤ m ∧ m ≤ 1099511627776)) : Calls Try.prog 7 #[.agg #[.bool h, .int .i64 i, .int .i64 o, .bool g], .int .i64 x, .int .i64 y, .int .i64 m] w fun e w' => e = .returned (.bool true) ∧ Below w.heap.size w w' := by
  have HB0 := Lib.hid (below_alloc (Below.refl _ w) (.cells #[.bool h, .int .i64 i, .int .i64 o, .bool g] 23))
  rcases (show 1099511627776 < m ∨ (¬ 1099511627776 < m ∧ m < -1099511627776) by omega) with h1 | ⟨h1, h2⟩
  all_goals
    clear hm
    go_enter Try.func7, Try.ntmps7
    go_wp2_with fail
    (with_reducible refine (small_true _).mono ?_)
    rintro e w1 ⟨rfl, hb⟩
    have HB1 := Lib.hid (below_call HB0.out hb)
    clear hb
    go_wp2_with fail
    go_ret
    exact ⟨rfl, HB1.out⟩
theorem wrg_mod (h : Bool) (i o : Int) (g : Bool) {x y u v : Int} (hu : u % 256 = x % 256) (hv : v % 256 = y % 256) : wrg h i o g u v = wrg h i o g x y := by
  have h1 : ahd u i = ahd x i := by unfold ahd; omega
  have h2 : ahd v o = ahd y o := by unfold ahd; omega
  have h3 : ahd u v = ahd x y := by unfold ahd; omega
  unfold wrg
  rw [h1, h2, h3]
theorem wrg_again (h : Bool) (i o : Int) (g : Bool) (x y : Int) : wrg true (x % 256) (y % 256) (wrg h i o g x y) x y = wrg h i o g x y := by
  have h1 : ahd x (x % 256) = 0 := by unfold ahd; omega
  have h2 : ahd y (y % 256) = 0 := by unfold ahd; omega
  unfold wrg
  rw [h1, h2]
  cases decide (127 < ahd x y) <;> simp
set_option maxHeartbeats 4000000 in
set_option maxRecDepth 10000 in
theorem same_main (h : Bool) (i o : Int) (g : Bool) (x y m : Int) (w : World) (m0 : -1099511627776 ≤ m) (m1 : m ≤ 1099511627776) : Calls Try.prog 7 #[.agg #[.bool h, .int .i64 i, .int .i64 o, .bool g], .int .i64 x, .int .i64 y, .int .i64 m] w fun e w' => e = .returned (.bool true) ∧ Below w.heap.size w w' := by
  obtain ⟨u, hu⟩ : ∃ u, IntKind.i64.wrap (x + 256 * m) = u := ⟨_, rfl⟩
  obtain ⟨v, hv⟩ : ∃ v, IntKind.i64.wrap (y - 256 * m) = v := ⟨_, rfl⟩
  have eu : u % 256 = x % 256 := by rw [← hu, wrap_256]; omega
  have ev : v % 256 = y % 256 := by rw [← hv, wrap_256]; omega
  obtain ⟨r, hr⟩ : ∃ r, wrg h i o g x y = r := ⟨_, rfl⟩
  have hr2 := wrg_again h i o g x y
  have hr3 := wrg_mod h i o g eu ev
  rw [hr] at hr2 hr3
  obtain ⟨x', hx⟩ : ∃ n, x % 256 = n := ⟨_, rfl⟩
  obtain ⟨y', hy⟩ : ∃ n, y % 256 = n := ⟨_, rfl⟩
  have x0 : 0 ≤ x' := by omega
  have x1 : x' < 256 := by omega
  have y0 : 0 ≤ y' := by omega
  have y1 : y' < 256 := by omega
  rw [hx] at eu hr2
  rw [hy] at ev hr2
  have H1 := Lib.hid (step_ax h i o g x y x' y' r hx hy hr)
  have H2 := Lib.hid (step_ax true x' y' r x y x' y' r hx hy hr2)
  have H3 := Lib.hid (step_ax h i o g u v x' y' r eu ev hr3)
  have q1 := eql_axle true x' y' r
  have HB0 := Lib.hid (below_alloc (Below.refl _ w) (.cells #[.bool h, .int .i64 i, .int .i64 o, .bool g] 23))
  have HX0 := Lib.hid (box4 w h i o g)
  have k0 : ¬ 1099511627776 < m := by omega
  have k1 : ¬ m < -1099511627776 := by omega
  clear hx hy hr hr2 hr3 eu ev
  go_enter Try.func7, Try.ntmps7
  go_wp2_with fail
  (with_reducible refine (small_true _).mono ?_)
  rintro e w1 ⟨rfl, hb⟩
  have HB := Lib.hid (below_call HB0.out hb)
  have HX := Lib.hid (HX0.out.below hb)
  clear hb HB0 HX0
  obtain ⟨c0, c1, c2, c3⟩ := HX.out.four
  go_wp2_with fail
  (with_reducible refine (H1.out _).mono ?_)
  rintro e w2 ⟨rfl, hb⟩
  replace HB := Lib.hid (below_alloc (below_call HB.out hb) (.cells #[.bool true, .int .i64 x', .int .i64 y', .bool r] 23))
  replace HX := Lib.hid ((HX.out.below hb).below (below_alloc (Below.refl _ w2) (.cells #[.bool true, .int .i64 x', .int .i64 y', .bool r] 23)))
  have HY := Lib.hid (box4 w2 true x' y' r)
  clear hb c0 c1 c2 c3
  go_wp2_with fail
  generalize w2.alloc (.cells #[.bool true, .int .i64 x', .int .i64 y', .bool r] 23) = w3 at *
  obtain ⟨b0, b1, b2, b3⟩ := HX.out.four
  obtain ⟨c0, c1, c2, c3⟩ := HY.out.four
  replace b0 := cell_regrown b0
  replace b1 := cell_regrown b1
  replace b2 := cell_regrown b2
  replace b3 := cell_regrown b3
  replace c0 := cell_regrown c0
  replace c1 := cell_regrown c1
  replace c2 := cell_regrown c2
  replace c3 := cell_regrown c3
  refine wp_region_quiet_below (by kernel_rfl) (by kernel_rfl) ?_
  repeat (go_big_quiet_step (first | (with_reducible exact Calls.regrown_of (H2.out _)) | (with_reducible exact Calls.regrown_of (H3.out _))))
  refine wpQuiet_nil ?_
  intro _ hw'
  obtain ⟨⟨dq, osq⟩, hw''⟩ := hw'
  subst hw''
  clear b0 b1 b2 b3 c0 c1 c2 c3
  go_wp2_with fail
  go_ret
  exact ⟨rfl, below_call HB.out (below_regrown _ dq osq)⟩
theorem same_any (h : Bool) (i o : Int) (g : Bool) (x y m : Int) (w : World) : Calls Try.prog 7 #[.agg #[.bool h, .int .i64 i, .int .i64 o, .bool g], .int .i64 x, .int .i64 y, .int .i64 m] w fun e w' => e = .returned (.bool true) ∧ Below w.heap.size w w' := by
  by_cases hm : -1099511627776 ≤ m ∧ m ≤ 1099511627776
  · exact same_main h i o g x y m w hm.1 hm.2
  · exact same_out h i o g x y m w hm
end Go.Proofs.Ytkgloniffmfpjaa

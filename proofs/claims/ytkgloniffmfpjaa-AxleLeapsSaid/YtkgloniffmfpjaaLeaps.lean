/-
  The walk of crossbucklaw11.AxleLeaps: true, whatever it is given.
-/
import Derived.Test.YtkgloniffmfpjaaSmall
import Derived.Lib.QuietBelow
import Derived.BigQuiet
namespace Go.Proofs.Ytkgloniffmfpjaa
open Go.RowKit

set_option maxHeartbeats 4000000 in
set_option maxRecDepth 10000 in
theorem leaps_wrong (x y s : Int) (w : World) (hp : 127 < ahd x y) : Calls Try.prog 6 #[.int .i64 x, .int .i64 y, .int .i64 s] w fun e w' => e = .returned (.bool true) ∧ Below w.heap.size w w' := by
  obtain ⟨n, hn⟩ : ∃ n, ahd x y = n := ⟨_, rfl⟩
  have H1 := Lib.hid (step_ax false 0 0 false x y (x % 256) (y % 256) true rfl rfl (by unfold wrg; simp [hp]))
  have H2 := Lib.hid (on_to true (x % 256) (y % 256) true n (by rw [ahd_mod_left, ahd_mod_right]; exact hn))
  have p : 128 ≤ n := by omega
  obtain ⟨x', hx⟩ : ∃ n, x % 256 = n := ⟨_, rfl⟩
  obtain ⟨y', hy⟩ : ∃ n, y % 256 = n := ⟨_, rfl⟩
  rw [hx, hy] at H1 H2
  clear hn hx hy hp
  go_enter Try.func6, Try.ntmps6
  go_wp2_with fail
  (with_reducible refine (small_true _).mono ?_)
  rintro e w1 ⟨rfl, hb⟩
  have HB := Lib.hid hb
  clear hb
  go_wp2_with fail
  (with_reducible refine (H1.out _).mono ?_)
  rintro e w2 ⟨rfl, hb⟩
  replace HB := Lib.hid (below_alloc (below_call HB.out hb) (.cells #[.bool true, .int .i64 x', .int .i64 y', .bool true] 23))
  obtain ⟨c0, c1, c2, c3⟩ := (box4 w2 true x' y' true).four
  clear hb
  go_wp2_with fail
  (with_reducible refine (H2.out _).mono ?_)
  rintro e w3 ⟨rfl, hb⟩
  replace HB := Lib.hid (below_call HB.out hb)
  clear hb
  go_wp2_with fail
  go_ret
  exact ⟨rfl, HB.out⟩
theorem leap_facts (x y s : Int) : ∃ u v z u' v' x' y' nb nc rb rc, IntKind.i64.wrap (x + s) = u ∧ IntKind.i64.wrap (y + s) = v ∧ bits .and .i64 s 255 = z ∧ u % 256 = u' ∧ v % 256 = v' ∧ x % 256 = x' ∧ y % 256 = y'
    ∧ ahd u' y' = nb ∧ ahd x' v' = nc ∧ wrg true x' y' false u y = rb ∧ wrg true x' y' false x v = rc ∧ rb = (decide (64 < z) || decide (128 ≤ nb)) ∧ rc = (decide (64 < z) || decide (128 ≤ nc)) := by
  refine ⟨_, _, _, _, _, _, _, _, _, _, _, rfl, rfl, rfl, rfl, rfl, rfl, rfl, rfl, rfl, rfl, rfl, ?_, ?_⟩
  · have h1 : ahd (IntKind.i64.wrap (x + s)) (x % 256) = s % 256 := by rw [IntKind.wrap_i64]; unfold ahd; omega
    have h2 : ahd y (y % 256) = 0 := by unfold ahd; omega
    have h3 : decide (127 < ahd (IntKind.i64.wrap (x + s)) y) = decide (128 ≤ ahd (IntKind.i64.wrap (x + s) % 256) (y % 256)) := by rw [ahd_mod_left, ahd_mod_right]; apply decide_eq_decide.2; omega
    unfold wrg
    rw [h1, h2, h3, and255]
    simp
  · have h1 : ahd x (x % 256) = 0 := by unfold ahd; omega
    have h2 : ahd (IntKind.i64.wrap (y + s)) (y % 256) = s % 256 := by rw [IntKind.wrap_i64]; unfold ahd; omega
    have h3 : decide (127 < ahd x (IntKind.i64.wrap (y + s))) = decide (128 ≤ ahd (x % 256) (IntKind.i64.wrap (y + s) % 256)) := by rw [ahd_mod_left, ahd_mod_right]; apply decide_eq_decide.2; omega
    unfold wrg
    rw [h1, h2, h3, and255]
    simp
set_option maxHeartbeats 4000000 in
set_option maxRecDepth 10000 in
theorem leaps_right (x y s : Int) (w : World) (hp : ¬ 127 < ahd x y) : Calls Try.prog 6 #[.int .i64 x, .int .i64 y, .int .i64 s] w fun e w' => e = .returned (.bool true) ∧ Below w.heap.size w w' := by
  obtain ⟨u, v, z, u', v', x', y', nb, nc, rb, rc, hu, hv, hz, hu', hv', hx, hy, hnb, hnc, hrb, hrc, eb, ec⟩ := leap_facts x y s
  have H1 := Lib.hid (step_ax false 0 0 false x y x' y' false hx hy (by unfold wrg; simp [hp]))
  have H2 := Lib.hid (step_ax true x' y' false u y u' y' rb hu' hy hrb)
  have H3 := Lib.hid (step_ax true x' y' false x v x' v' rc hx hv' hrc)
  have H4 := Lib.hid (on_to true u' y' rb nb hnb)
  have H5 := Lib.hid (on_to true x' v' rc nc hnc)
  clear hp hx hy hu' hv' hnb hnc hrb hrc
  have hcs : (decide (64 < z) = true ∧ rb = true ∧ rc = true) ∨ (decide (64 < z) = false ∧ ((decide (128 ≤ nb) = true ∧ rb = true) ∨ (decide (128 ≤ nb) = false ∧ rb = false)) ∧ ((decide (128 ≤ nc) = true ∧ rc = true) ∨ (decide (128 ≤ nc) = false ∧ rc = false))) := by
    rw [eb, ec]
    cases decide (64 < z) <;> cases decide (128 ≤ nb) <;> cases decide (128 ≤ nc) <;> decide
  clear eb ec
  rcases hcs with ⟨p, rfl, rfl⟩ | ⟨p, ⟨pb, rfl⟩ | ⟨pb, rfl⟩, ⟨pc, rfl⟩ | ⟨pc, rfl⟩⟩
  · go_enter Try.func6, Try.ntmps6
    go_wp2_with fail
    (with_reducible refine (small_true _).mono ?_)
    rintro e w1 ⟨rfl, hb⟩
    have HB := Lib.hid hb
    clear hb
    go_wp2_with fail
    (with_reducible refine (H1.out _).mono ?_)
    rintro e w2 ⟨rfl, hb⟩
    replace HB := Lib.hid (below_alloc (below_call HB.out hb) (.cells #[.bool true, .int .i64 x', .int .i64 y', .bool false] 23))
    have HKa := Lib.hid (box4 w2 true x' y' false)
    obtain ⟨c0, c1, c2, c3⟩ := HKa.out.four
    clear hb
    go_wp2_with fail
    (with_reducible refine (H2.out _).mono ?_)
    rintro e w3 ⟨rfl, hb⟩
    replace HB := Lib.hid (below_alloc (below_call HB.out hb) (.cells #[.bool true, .int .i64 u', .int .i64 y', .bool true] 23))
    replace HKa := Lib.hid ((HKa.out.below hb).below (below_alloc (Below.refl _ w3) (.cells #[.bool true, .int .i64 u', .int .i64 y', .bool true] 23)))
    have HKb := Lib.hid (box4 w3 true u' y' true)
    clear hb c0 c1 c2 c3
    obtain ⟨c0, c1, c2, c3⟩ := HKa.out.four
    go_wp2_with fail
    (with_reducible refine (H3.out _).mono ?_)
    rintro e w4 ⟨rfl, hb⟩
    replace HB := Lib.hid (below_alloc (below_call HB.out hb) (.cells #[.bool true, .int .i64 x', .int .i64 v', .bool true] 23))
    replace HKb := Lib.hid ((HKb.out.below hb).below (below_alloc (Below.refl _ w4) (.cells #[.bool true, .int .i64 x', .int .i64 v', .bool true] 23)))
    have HKc := Lib.hid (box4 w4 true x' v' true)
    clear hb c0 c1 c2 c3 HKa
    go_wp2_with fail
    generalize w4.alloc (.cells #[.bool true, .int .i64 x', .int .i64 v', .bool true] 23) = w5 at *
    obtain ⟨b0, b1, b2, b3⟩ := HKb.out.four
    obtain ⟨c0, c1, c2, c3⟩ := HKc.out.four
    replace b0 := cell_regrown b0
    replace b1 := cell_regrown b1
    replace b2 := cell_regrown b2
    replace b3 := cell_regrown b3
    replace c0 := cell_regrown c0
    replace c1 := cell_regrown c1
    replace c2 := cell_regrown c2
    replace c3 := cell_regrown c3
    refine wp_region_quiet_below (by kernel_rfl) (by kernel_rfl) ?_
    repeat (go_big_quiet_step (first | (with_reducible exact Calls.regrown_of (H4.out _)) | (with_reducible exact Calls.regrown_of (H5.out _))))
    refine wpQuiet_nil ?_
    intro _ hw'
    obtain ⟨⟨dq, osq⟩, hw''⟩ := hw'
    subst hw''
    clear b0 b1 b2 b3 c0 c1 c2 c3
    go_wp2_with fail
    go_ret
    exact ⟨rfl, below_call HB.out (below_regrown _ dq osq)⟩
  · go_enter Try.func6, Try.ntmps6
    go_wp2_with fail
    (with_reducible refine (small_true _).mono ?_)
    rintro e w1 ⟨rfl, hb⟩
    have HB := Lib.hid hb
    clear hb
    go_wp2_with fail
    (with_reducible refine (H1.out _).mono ?_)
    rintro e w2 ⟨rfl, hb⟩
    replace HB := Lib.hid (below_alloc (below_call HB.out hb) (.cells #[.bool true, .int .i64 x', .int .i64 y', .bool false] 23))
    have HKa := Lib.hid (box4 w2 true x' y' false)
    obtain ⟨c0, c1, c2, c3⟩ := HKa.out.four
    clear hb
    go_wp2_with fail
    (with_reducible refine (H2.out _).mono ?_)
    rintro e w3 ⟨rfl, hb⟩
    replace HB := Lib.hid (below_alloc (below_call HB.out hb) (.cells #[.bool true, .int .i64 u', .int .i64 y', .bool true] 23))
    replace HKa := Lib.hid ((HKa.out.below hb).below (below_alloc (Below.refl _ w3) (.cells #[.bool true, .int .i64 u', .int .i64 y', .bool true] 23)))
    have HKb := Lib.hid (box4 w3 true u' y' true)
    clear hb c0 c1 c2 c3
    obtain ⟨c0, c1, c2, c3⟩ := HKa.out.four
    go_wp2_with fail
    (with_reducible refine (H3.out _).mono ?_)
    rintro e w4 ⟨rfl, hb⟩
    replace HB := Lib.hid (below_alloc (below_call HB.out hb) (.cells #[.bool true, .int .i64 x', .int .i64 v', .bool true] 23))
    replace HKb := Lib.hid ((HKb.out.below hb).below (below_alloc (Below.refl _ w4) (.cells #[.bool true, .int .i64 x', .int .i64 v', .bool true] 23)))
    have HKc := Lib.hid (box4 w4 true x' v' true)
    clear hb c0 c1 c2 c3 HKa
    go_wp2_with fail
    generalize w4.alloc (.cells #[.bool true, .int .i64 x', .int .i64 v', .bool true] 23) = w5 at *
    obtain ⟨b0, b1, b2, b3⟩ := HKb.out.four
    obtain ⟨c0, c1, c2, c3⟩ := HKc.out.four
    replace b0 := cell_regrown b0
    replace b1 := cell_regrown b1
    replace b2 := cell_regrown b2
    replace b3 := cell_regrown b3
    replace c0 := cell_regrown c0
    replace c1 := cell_regrown c1
    replace c2 := cell_regrown c2
    replace c3 := cell_regrown c3
    refine wp_region_quiet_below (by kernel_rfl) (by kernel_rfl) ?_
    repeat (go_big_quiet_step (first | (with_reducible exact Calls.regrown_of (H4.out _)) | (with_reducible exact Calls.regrown_of (H5.out _))))
    refine wpQuiet_nil ?_
    intro _ hw'
    obtain ⟨⟨dq, osq⟩, hw''⟩ := hw'
    subst hw''
    clear b0 b1 b2 b3 c0 c1 c2 c3
    go_wp2_with fail
    go_ret
    exact ⟨rfl, below_call HB.out (below_regrown _ dq osq)⟩
  · go_enter Try.func6, Try.ntmps6
    go_wp2_with fail
    (with_reducible refine (small_true _).mono ?_)
    rintro e w1 ⟨rfl, hb⟩
    have HB := Lib.hid hb
    clear hb
    go_wp2_with fail
    (with_reducible refine (H1.out _).mono ?_)
    rintro e w2 ⟨rfl, hb⟩
    replace HB := Lib.hid (below_alloc (below_call HB.out hb) (.cells #[.bool true, .int .i64 x', .int .i64 y', .bool false] 23))
    have HKa := Lib.hid (box4 w2 true x' y' false)
    obtain ⟨c0, c1, c2, c3⟩ := HKa.out.four
    clear hb
    go_wp2_with fail
    (with_reducible refine (H2.out _).mono ?_)
    rintro e w3 ⟨rfl, hb⟩
    replace HB := Lib.hid (below_alloc (below_call HB.out hb) (.cells #[.bool true, .int .i64 u', .int .i64 y', .bool true] 23))
    replace HKa := Lib.hid ((HKa.out.below hb).below (below_alloc (Below.refl _ w3) (.cells #[.bool true, .int .i64 u', .int .i64 y', .bool true] 23)))
    have HKb := Lib.hid (box4 w3 true u' y' true)
    clear hb c0 c1 c2 c3
    obtain ⟨c0, c1, c2, c3⟩ := HKa.out.four
    go_wp2_with fail
    (with_reducible refine (H3.out _).mono ?_)
    rintro e w4 ⟨rfl, hb⟩
    replace HB := Lib.hid (below_alloc (below_call HB.out hb) (.cells #[.bool true, .int .i64 x', .int .i64 v', .bool false] 23))
    replace HKb := Lib.hid ((HKb.out.below hb).below (below_alloc (Below.refl _ w4) (.cells #[.bool true, .int .i64 x', .int .i64 v', .bool false] 23)))
    have HKc := Lib.hid (box4 w4 true x' v' false)
    clear hb c0 c1 c2 c3 HKa
    go_wp2_with fail
    generalize w4.alloc (.cells #[.bool true, .int .i64 x', .int .i64 v', .bool false] 23) = w5 at *
    obtain ⟨b0, b1, b2, b3⟩ := HKb.out.four
    obtain ⟨c0, c1, c2, c3⟩ := HKc.out.four
    replace b0 := cell_regrown b0
    replace b1 := cell_regrown b1
    replace b2 := cell_regrown b2
    replace b3 := cell_regrown b3
    replace c0 := cell_regrown c0
    replace c1 := cell_regrown c1
    replace c2 := cell_regrown c2
    replace c3 := cell_regrown c3
    refine wp_region_quiet_below (by kernel_rfl) (by kernel_rfl) ?_
    repeat (go_big_quiet_step (first | (with_reducible exact Calls.regrown_of (H4.out _)) | (with_reducible exact Calls.regrown_of (H5.out _))))
    refine wpQuiet_nil ?_
    intro _ hw'
    obtain ⟨⟨dq, osq⟩, hw''⟩ := hw'
    subst hw''
    clear b0 b1 b2 b3 c0 c1 c2 c3
    go_wp2_with fail
    go_ret
    exact ⟨rfl, below_call HB.out (below_regrown _ dq osq)⟩
  · go_enter Try.func6, Try.ntmps6
    go_wp2_with fail
    (with_reducible refine (small_true _).mono ?_)
    rintro e w1 ⟨rfl, hb⟩
    have HB := Lib.hid hb
    clear hb
    go_wp2_with fail
    (with_reducible refine (H1.out _).mono ?_)
    rintro e w2 ⟨rfl, hb⟩
    replace HB := Lib.hid (below_alloc (below_call HB.out hb) (.cells #[.bool true, .int .i64 x', .int .i64 y', .bool false] 23))
    have HKa := Lib.hid (box4 w2 true x' y' false)
    obtain ⟨c0, c1, c2, c3⟩ := HKa.out.four
    clear hb
    go_wp2_with fail
    (with_reducible refine (H2.out _).mono ?_)
    rintro e w3 ⟨rfl, hb⟩
    replace HB := Lib.hid (below_alloc (below_call HB.out hb) (.cells #[.bool true, .int .i64 u', .int .i64 y', .bool false] 23))
    replace HKa := Lib.hid ((HKa.out.below hb).below (below_alloc (Below.refl _ w3) (.cells #[.bool true, .int .i64 u', .int .i64 y', .bool false] 23)))
    have HKb := Lib.hid (box4 w3 true u' y' false)
    clear hb c0 c1 c2 c3
    obtain ⟨c0, c1, c2, c3⟩ := HKa.out.four
    go_wp2_with fail
    (with_reducible refine (H3.out _).mono ?_)
    rintro e w4 ⟨rfl, hb⟩
    replace HB := Lib.hid (below_alloc (below_call HB.out hb) (.cells #[.bool true, .int .i64 x', .int .i64 v', .bool true] 23))
    replace HKb := Lib.hid ((HKb.out.below hb).below (below_alloc (Below.refl _ w4) (.cells #[.bool true, .int .i64 x', .int .i64 v', .bool true] 23)))
    have HKc := Lib.hid (box4 w4 true x' v' true)
    clear hb c0 c1 c2 c3 HKa
    go_wp2_with fail
    generalize w4.alloc (.cells #[.bool true, .int .i64 x', .int .i64 v', .bool true] 23) = w5 at *
    obtain ⟨b0, b1, b2, b3⟩ := HKb.out.four
    obtain ⟨c0, c1, c2, c3⟩ := HKc.out.four
    replace b0 := cell_regrown b0
    replace b1 := cell_regrown b1
    replace b2 := cell_regrown b2
    replace b3 := cell_regrown b3
    replace c0 := cell_regrown c0
    replace c1 := cell_regrown c1
    replace c2 := cell_regrown c2
    replace c3 := cell_regrown c3
    refine wp_region_quiet_below (by kernel_rfl) (by kernel_rfl) ?_
    repeat (go_big_quiet_step (first | (with_reducible exact Calls.regrown_of (H4.out _)) | (with_reducible exact Calls.regrown_of (H5.out _))))
    refine wpQuiet_nil ?_
    intro _ hw'
    obtain ⟨⟨dq, osq⟩, hw''⟩ := hw'
    subst hw''
    clear b0 b1 b2 b3 c0 c1 c2 c3
    go_wp2_with fail
    go_ret
    exact ⟨rfl, below_call HB.out (below_regrown _ dq osq)⟩
  · go_enter Try.func6, Try.ntmps6
    go_wp2_with fail
    (with_reducible refine (small_true _).mono ?_)
    rintro e w1 ⟨rfl, hb⟩
    have HB := Lib.hid hb
    clear hb
    go_wp2_with fail
    (with_reducible refine (H1.out _).mono ?_)
    rintro e w2 ⟨rfl, hb⟩
    replace HB := Lib.hid (below_alloc (below_call HB.out hb) (.cells #[.bool true, .int .i64 x', .int .i64 y', .bool false] 23))
    have HKa := Lib.hid (box4 w2 true x' y' false)
    obtain ⟨c0, c1, c2, c3⟩ := HKa.out.four
    clear hb
    go_wp2_with fail
    (with_reducible refine (H2.out _).mono ?_)
    rintro e w3 ⟨rfl, hb⟩
    replace HB := Lib.hid (below_alloc (below_call HB.out hb) (.cells #[.bool true, .int .i64 u', .int .i64 y', .bool false] 23))
    replace HKa := Lib.hid ((HKa.out.below hb).below (below_alloc (Below.refl _ w3) (.cells #[.bool true, .int .i64 u', .int .i64 y', .bool false] 23)))
    have HKb := Lib.hid (box4 w3 true u' y' false)
    clear hb c0 c1 c2 c3
    obtain ⟨c0, c1, c2, c3⟩ := HKa.out.four
    go_wp2_with fail
    (with_reducible refine (H3.out _).mono ?_)
    rintro e w4 ⟨rfl, hb⟩
    replace HB := Lib.hid (below_alloc (below_call HB.out hb) (.cells #[.bool true, .int .i64 x', .int .i64 v', .bool false] 23))
    replace HKb := Lib.hid ((HKb.out.below hb).below (below_alloc (Below.refl _ w4) (.cells #[.bool true, .int .i64 x', .int .i64 v', .bool false] 23)))
    have HKc := Lib.hid (box4 w4 true x' v' false)
    clear hb c0 c1 c2 c3 HKa
    go_wp2_with fail
    generalize w4.alloc (.cells #[.bool true, .int .i64 x', .int .i64 v', .bool false] 23) = w5 at *
    obtain ⟨b0, b1, b2, b3⟩ := HKb.out.four
    obtain ⟨c0, c1, c2, c3⟩ := HKc.out.four
    replace b0 := cell_regrown b0
    replace b1 := cell_regrown b1
    replace b2 := cell_regrown b2
    replace b3 := cell_regrown b3
    replace c0 := cell_regrown c0
    replace c1 := cell_regrown c1
    replace c2 := cell_regrown c2
    replace c3 := cell_regrown c3
    refine wp_region_quiet_below (by kernel_rfl) (by kernel_rfl) ?_
    repeat (go_big_quiet_step (first | (with_reducible exact Calls.regrown_of (H4.out _)) | (with_reducible exact Calls.regrown_of (H5.out _))))
    refine wpQuiet_nil ?_
    intro _ hw'
    obtain ⟨⟨dq, osq⟩, hw''⟩ := hw'
    subst hw''
    clear b0 b1 b2 b3 c0 c1 c2 c3
    go_wp2_with fail
    go_ret
    exact ⟨rfl, below_call HB.out (below_regrown _ dq osq)⟩
theorem leaps_any (x y s : Int) (w : World) : Calls Try.prog 6 #[.int .i64 x, .int .i64 y, .int .i64 s] w fun e w' => e = .returned (.bool true) ∧ Below w.heap.size w w' := by
  by_cases h : 127 < ahd x y
  · exact leaps_wrong x y s w h
  · exact leaps_right x y s w h
end Go.Proofs.Ytkgloniffmfpjaa

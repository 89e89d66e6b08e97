/-
  The walk of crossbucklaw20.PhaseLights: true, whatever it is given.
-/
import Derived.Test.YtbaljmflmkpmjaaSmall
import Derived.Test.YtbaljmflmkpmjaaFew
import Derived.Test.YtbaljmflmkpmjaaPhFacts
import Derived.Test.YtbaljmflmkpmjaaPhOpen
import Derived.StillTailTactics
namespace Go.Proofs.Ytbaljmflmkpmjaa
open Go.RowKit

set_option maxHeartbeats 8000000 in
set_option maxRecDepth 10000 in
theorem shows_any (p s : Int) (w : World) : Calls Try.prog 8 #[.agg #[.int .i64 p, .int .i64 s]] w fun e w' => e = .returned (.bool true) ∧ Below w.heap.size w w' := by
  have HB0 := Lib.hid (below_alloc (Below.refl _ w) (.cells #[.int .i64 p, .int .i64 s] 28))
  have HR0 := Lib.hid (blk_new w #[.int .i64 p, .int .i64 s] 28)
  rcases (show p = 0 ∨ p = 1 ∨ p = 2 ∨ p = 3 ∨ p = 5 ∨ p = 6 ∨ (¬ p = 0 ∧ ¬ p = 1 ∧ ¬ p = 2 ∧ ¬ p = 3 ∧ ¬ p = 5 ∧ ¬ p = 6) by omega) with rfl | rfl | rfl | rfl | rfl | rfl | ⟨g0, g1, g2, g3, g5, g6⟩
  · have HL := Lib.hid (lights_to 0 s false false false false false (by decide) (by decide) (by decide) (by decide) (by decide))
    have q := eql_lt false false false false false false false false false false true (by decide)
    go_enter Try.func8, Try.ntmps8
    go_wp2_with fail
    (with_reducible refine (small_true _).mono ?_)
    rintro e w1 ⟨rfl, hb⟩
    have HB1 := Lib.hid (below_call HB0.out hb)
    have HR1 := Lib.hid (HR0.out.below hb)
    clear hb HB0 HR0
    obtain ⟨r0, r1⟩ := box2 HR1.out
    go_wp2_with fail
    (with_reducible refine (HL.out _).mono ?_)
    rintro e w2 ⟨rfl, hb⟩
    have hA := below_alloc (Below.refl _ w2) (.cells #[.bool false, .bool false, .bool false, .bool false, .bool false] 38)
    have HB2 := Lib.hid (below_alloc (below_call HB1.out hb) (.cells #[.bool false, .bool false, .bool false, .bool false, .bool false] 38))
    obtain ⟨q0, q1⟩ := box2 ((HR1.out.below hb).below hA)
    obtain ⟨l0, l1, l2, l3, l4⟩ := box5 (blk_new w2 #[.bool false, .bool false, .bool false, .bool false, .bool false] 38)
    clear hb hA HB1 HR1 r0 r1 HL
    go_wp2_with fail
    go_quiet (fail)
    go_wp2_with fail
    go_ret
    exact ⟨rfl, HB2.out.trans ((bel_drewN _ _).mono HB2.out.size)⟩
  · have HL := Lib.hid (lights_to 1 s true false true false false (by decide) (by decide) (by decide) (by decide) (by decide))
    have q := eql_lt true false true false false false false false false false false (by decide)
    go_enter Try.func8, Try.ntmps8
    go_wp2_with fail
    (with_reducible refine (small_true _).mono ?_)
    rintro e w1 ⟨rfl, hb⟩
    have HB1 := Lib.hid (below_call HB0.out hb)
    have HR1 := Lib.hid (HR0.out.below hb)
    clear hb HB0 HR0
    obtain ⟨r0, r1⟩ := box2 HR1.out
    go_wp2_with fail
    (with_reducible refine (HL.out _).mono ?_)
    rintro e w2 ⟨rfl, hb⟩
    have hA := below_alloc (Below.refl _ w2) (.cells #[.bool true, .bool false, .bool true, .bool false, .bool false] 38)
    have HB2 := Lib.hid (below_alloc (below_call HB1.out hb) (.cells #[.bool true, .bool false, .bool true, .bool false, .bool false] 38))
    obtain ⟨q0, q1⟩ := box2 ((HR1.out.below hb).below hA)
    obtain ⟨l0, l1, l2, l3, l4⟩ := box5 (blk_new w2 #[.bool true, .bool false, .bool true, .bool false, .bool false] 38)
    clear hb hA HB1 HR1 r0 r1 HL
    go_wp2_with fail
    go_quiet (fail)
    go_wp2_with fail
    go_ret
    exact ⟨rfl, HB2.out.trans ((bel_drewN _ _).mono HB2.out.size)⟩
  · have HL := Lib.hid (lights_to 2 s false true true false false (by decide) (by decide) (by decide) (by decide) (by decide))
    have q := eql_lt false true true false false false false false false false false (by decide)
    go_enter Try.func8, Try.ntmps8
    go_wp2_with fail
    (with_reducible refine (small_true _).mono ?_)
    rintro e w1 ⟨rfl, hb⟩
    have HB1 := Lib.hid (below_call HB0.out hb)
    have HR1 := Lib.hid (HR0.out.below hb)
    clear hb HB0 HR0
    obtain ⟨r0, r1⟩ := box2 HR1.out
    go_wp2_with fail
    (with_reducible refine (HL.out _).mono ?_)
    rintro e w2 ⟨rfl, hb⟩
    have hA := below_alloc (Below.refl _ w2) (.cells #[.bool false, .bool true, .bool true, .bool false, .bool false] 38)
    have HB2 := Lib.hid (below_alloc (below_call HB1.out hb) (.cells #[.bool false, .bool true, .bool true, .bool false, .bool false] 38))
    obtain ⟨q0, q1⟩ := box2 ((HR1.out.below hb).below hA)
    obtain ⟨l0, l1, l2, l3, l4⟩ := box5 (blk_new w2 #[.bool false, .bool true, .bool true, .bool false, .bool false] 38)
    clear hb hA HB1 HR1 r0 r1 HL
    go_wp2_with fail
    go_quiet (fail)
    go_wp2_with fail
    go_ret
    exact ⟨rfl, HB2.out.trans ((bel_drewN _ _).mono HB2.out.size)⟩
  · have HL := Lib.hid (lights_to 3 s false true true true false (by decide) (by decide) (by decide) (by decide) (by decide))
    have q := eql_lt false true true true false false false false false false false (by decide)
    go_enter Try.func8, Try.ntmps8
    go_wp2_with fail
    (with_reducible refine (small_true _).mono ?_)
    rintro e w1 ⟨rfl, hb⟩
    have HB1 := Lib.hid (below_call HB0.out hb)
    have HR1 := Lib.hid (HR0.out.below hb)
    clear hb HB0 HR0
    obtain ⟨r0, r1⟩ := box2 HR1.out
    go_wp2_with fail
    (with_reducible refine (HL.out _).mono ?_)
    rintro e w2 ⟨rfl, hb⟩
    have hA := below_alloc (Below.refl _ w2) (.cells #[.bool false, .bool true, .bool true, .bool true, .bool false] 38)
    have HB2 := Lib.hid (below_alloc (below_call HB1.out hb) (.cells #[.bool false, .bool true, .bool true, .bool true, .bool false] 38))
    obtain ⟨q0, q1⟩ := box2 ((HR1.out.below hb).below hA)
    obtain ⟨l0, l1, l2, l3, l4⟩ := box5 (blk_new w2 #[.bool false, .bool true, .bool true, .bool true, .bool false] 38)
    clear hb hA HB1 HR1 r0 r1 HL
    go_wp2_with fail
    go_quiet (fail)
    go_wp2_with fail
    go_ret
    exact ⟨rfl, HB2.out.trans ((bel_drewN _ _).mono HB2.out.size)⟩
  · have HL := Lib.hid (lights_to 5 s false true false true true (by decide) (by decide) (by decide) (by decide) (by decide))
    have q := eql_lt false true false true true false false false false false false (by decide)
    go_enter Try.func8, Try.ntmps8
    go_wp2_with fail
    (with_reducible refine (small_true _).mono ?_)
    rintro e w1 ⟨rfl, hb⟩
    have HB1 := Lib.hid (below_call HB0.out hb)
    have HR1 := Lib.hid (HR0.out.below hb)
    clear hb HB0 HR0
    obtain ⟨r0, r1⟩ := box2 HR1.out
    go_wp2_with fail
    (with_reducible refine (HL.out _).mono ?_)
    rintro e w2 ⟨rfl, hb⟩
    have hA := below_alloc (Below.refl _ w2) (.cells #[.bool false, .bool true, .bool false, .bool true, .bool true] 38)
    have HB2 := Lib.hid (below_alloc (below_call HB1.out hb) (.cells #[.bool false, .bool true, .bool false, .bool true, .bool true] 38))
    obtain ⟨q0, q1⟩ := box2 ((HR1.out.below hb).below hA)
    obtain ⟨l0, l1, l2, l3, l4⟩ := box5 (blk_new w2 #[.bool false, .bool true, .bool false, .bool true, .bool true] 38)
    clear hb hA HB1 HR1 r0 r1 HL
    go_wp2_with fail
    go_quiet (fail)
    go_wp2_with fail
    go_ret
    exact ⟨rfl, HB2.out.trans ((bel_drewN _ _).mono HB2.out.size)⟩
  · have HL := Lib.hid (lights_to 6 s false true false false false (by decide) (by decide) (by decide) (by decide) (by decide))
    have q := eql_lt false true false false false false false false false false false (by decide)
    go_enter Try.func8, Try.ntmps8
    go_wp2_with fail
    (with_reducible refine (small_true _).mono ?_)
    rintro e w1 ⟨rfl, hb⟩
    have HB1 := Lib.hid (below_call HB0.out hb)
    have HR1 := Lib.hid (HR0.out.below hb)
    clear hb HB0 HR0
    obtain ⟨r0, r1⟩ := box2 HR1.out
    go_wp2_with fail
    (with_reducible refine (HL.out _).mono ?_)
    rintro e w2 ⟨rfl, hb⟩
    have hA := below_alloc (Below.refl _ w2) (.cells #[.bool false, .bool true, .bool false, .bool false, .bool false] 38)
    have HB2 := Lib.hid (below_alloc (below_call HB1.out hb) (.cells #[.bool false, .bool true, .bool false, .bool false, .bool false] 38))
    obtain ⟨q0, q1⟩ := box2 ((HR1.out.below hb).below hA)
    obtain ⟨l0, l1, l2, l3, l4⟩ := box5 (blk_new w2 #[.bool false, .bool true, .bool false, .bool false, .bool false] 38)
    clear hb hA HB1 HR1 r0 r1 HL
    go_wp2_with fail
    go_quiet (fail)
    go_wp2_with fail
    go_ret
    exact ⟨rfl, HB2.out.trans ((bel_drewN _ _).mono HB2.out.size)⟩
  · have z0 : (p == 0) = false := by simpa using g0
    have HL := Lib.hid (lights_to p s false true true true true (by unfold phAm; simp [*]) (by unfold phRed; simp [*]) (by unfold phBell; simp [*]) (by unfold phEn; simp [*]) (by unfold phEx; simp [*]))
    clear g0 g1 g2 g3 g5 g6
    have q := eql_lt false true true true true false false false false false false (by decide)
    go_enter Try.func8, Try.ntmps8
    go_wp2_with fail
    (with_reducible refine (small_true _).mono ?_)
    rintro e w1 ⟨rfl, hb⟩
    have HB1 := Lib.hid (below_call HB0.out hb)
    have HR1 := Lib.hid (HR0.out.below hb)
    clear hb HB0 HR0
    obtain ⟨r0, r1⟩ := box2 HR1.out
    go_wp2_with fail
    (with_reducible refine (HL.out _).mono ?_)
    rintro e w2 ⟨rfl, hb⟩
    have hA := below_alloc (Below.refl _ w2) (.cells #[.bool false, .bool true, .bool true, .bool true, .bool true] 38)
    have HB2 := Lib.hid (below_alloc (below_call HB1.out hb) (.cells #[.bool false, .bool true, .bool true, .bool true, .bool true] 38))
    obtain ⟨q0, q1⟩ := box2 ((HR1.out.below hb).below hA)
    obtain ⟨l0, l1, l2, l3, l4⟩ := box5 (blk_new w2 #[.bool false, .bool true, .bool true, .bool true, .bool true] 38)
    clear hb hA HB1 HR1 r0 r1 HL
    go_wp2_with fail
    go_quiet (fail)
    go_wp2_with fail
    go_ret
    exact ⟨rfl, HB2.out.trans ((bel_drewN _ _).mono HB2.out.size)⟩
end Go.Proofs.Ytbaljmflmkpmjaa

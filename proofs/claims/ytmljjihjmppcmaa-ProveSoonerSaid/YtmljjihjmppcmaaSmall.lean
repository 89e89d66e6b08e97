/-
  The small case of every law of layer 18: true.
-/
import Derived.Test.YtmljjihjmppcmaaPvCalls
namespace Go.Proofs.Ytmljjihjmppcmaa
open Go.RowKit

set_option maxHeartbeats 1000000 in
theorem small_true (w : World) : Calls Try.prog 8 #[] w fun e w' => e = .returned (.bool true) ∧ Below w.heap.size w w' := by
  have HB0 := Lib.hid (below_alloc (Below.refl _ w) (.cells #[.bool true, .bool false, .bool true, .bool false] 23))
  have HX0 := Lib.hid (box4b w true false true false)
  obtain ⟨x0, x1, x2, x3⟩ := HX0.out.four
  go_enter Try.func8, Try.ntmps8
  go_wp2_with fail
  (with_reducible refine (step_to 3 true false true false 5 4 (by decide) (by decide) _).mono ?_)
  rintro e w1 ⟨rfl, hb⟩
  have HB1 := Lib.hid (below_call HB0.out hb)
  have HX1 := Lib.hid (HX0.out.below hb)
  clear hb x0 x1 x2 x3 HB0 HX0
  obtain ⟨x0, x1, x2, x3⟩ := HX1.out.four
  go_wp2_with fail
  (with_reducible refine (step_to 5 true false true false 5 5 (by decide) (by decide) _).mono ?_)
  rintro e w2 ⟨rfl, hb⟩
  have HB2 := Lib.hid (below_call HB1.out hb)
  have HX2 := Lib.hid (HX1.out.below hb)
  clear hb x0 x1 x2 x3 HB1 HX1
  go_wp2_with fail
  (with_reducible refine (step_to 5 true false false false 5 0 (by decide) (by decide) _).mono ?_)
  rintro e w3 ⟨rfl, hb⟩
  have HB3 := Lib.hid (below_call HB2.out hb)
  have HX3 := Lib.hid (HX2.out.below hb)
  clear hb HB2 HX2
  obtain ⟨x0, x1, x2, x3⟩ := HX3.out.four
  go_wp2_with fail
  (with_reducible refine (step_to (-9) true false true false (-3) 1 (by decide) (by decide) _).mono ?_)
  rintro e w4 ⟨rfl, hb⟩
  have HB4 := Lib.hid (below_call HB3.out hb)
  have HX4 := Lib.hid (HX3.out.below hb)
  clear hb x0 x1 x2 x3 HB3 HX3
  obtain ⟨x0, x1, x2, x3⟩ := HX4.out.four
  go_wp2_with fail
  (with_reducible refine (proved_to 5 5 true (by decide) _).mono ?_)
  rintro e w5 ⟨rfl, rfl⟩
  go_wp2_with fail
  (with_reducible refine (proved_to 4 5 false (by decide) _).mono ?_)
  rintro e w5 ⟨rfl, rfl⟩
  go_wp2_with fail
  (with_reducible refine (proved_to 0 0 false (by decide) _).mono ?_)
  rintro e w5 ⟨rfl, rfl⟩
  go_wp2_with fail
  (with_reducible refine (down_to true false true false true rfl _).mono ?_)
  rintro e w5 ⟨rfl, hb⟩
  have HB5 := Lib.hid (below_call HB4.out hb)
  clear hb
  go_wp2_with fail
  go_ret
  exact ⟨rfl, HB5.out⟩
end Go.Proofs.Ytmljjihjmppcmaa

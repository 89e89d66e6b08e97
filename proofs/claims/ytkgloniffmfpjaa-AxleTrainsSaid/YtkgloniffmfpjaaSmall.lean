/-
  The walk of crossbucklaw11.small: true.
-/
import Derived.Test.YtkgloniffmfpjaaAxCall
import Derived.Test.YtkgloniffmfpjaaAxEq
namespace Go.Proofs.Ytkgloniffmfpjaa
open Go.RowKit

theorem field_wrong (h : Bool) (i o : Int) (g : Bool) (w : World) : (Instr.field 23 (.agg #[.bool h, .int .i64 i, .int .i64 o, .bool g]) 3).run Try.prog w = .ok (.bool g) w := by kernel_rfl
set_option maxHeartbeats 4000000 in
set_option maxRecDepth 10000 in
theorem small_true (w : World) : Calls Try.prog 9 #[] w fun e w' => e = .returned (.bool true) ∧ Below w.heap.size w w' := by
  have q52 := field_wrong true 250 251 true
  go_enter Try.func9, Try.ntmps9
  go_wp2_with fail
  (with_reducible refine (step_ax false 0 0 false 250 250 250 250 false (by decide) (by decide) (by decide) _).mono ?_)
  rintro e w1 ⟨rfl, hb⟩
  have HB := Lib.hid hb
  clear hb
  replace HB := Lib.hid (below_alloc HB.out (.cells #[.bool true, .int .i64 250, .int .i64 250, .bool false] 23))
  have HKa := Lib.hid (blk_new w1 #[.bool true, .int .i64 250, .int .i64 250, .bool false] 23)
  obtain ⟨ca0, ca1, ca2, ca3⟩ := HKa.out.four
  go_wp2_with fail
  (with_reducible refine (step_ax true 250 250 false 2 250 2 250 false (by decide) (by decide) (by decide) _).mono ?_)
  rintro e w2 ⟨rfl, hb⟩
  clear ca0 ca1 ca2 ca3
  replace HB := Lib.hid (below_call HB.out hb)
  replace HKa := Lib.hid (HKa.out.below hb)
  clear hb
  replace HB := Lib.hid (below_alloc HB.out (.cells #[.bool true, .int .i64 2, .int .i64 250, .bool false] 23))
  replace HKa := Lib.hid (HKa.out.below (below_alloc (Below.refl _ w2) (.cells #[.bool true, .int .i64 2, .int .i64 250, .bool false] 23)))
  have HKb := Lib.hid (blk_new w2 #[.bool true, .int .i64 2, .int .i64 250, .bool false] 23)
  obtain ⟨cb0, cb1, cb2, cb3⟩ := HKb.out.four
  go_wp2_with fail
  (with_reducible refine (step_ax true 2 250 false 2 2 2 2 false (by decide) (by decide) (by decide) _).mono ?_)
  rintro e w3 ⟨rfl, hb⟩
  clear cb0 cb1 cb2 cb3
  replace HB := Lib.hid (below_call HB.out hb)
  replace HKa := Lib.hid (HKa.out.below hb)
  replace HKb := Lib.hid (HKb.out.below hb)
  clear hb
  replace HB := Lib.hid (below_alloc HB.out (.cells #[.bool true, .int .i64 2, .int .i64 2, .bool false] 23))
  replace HKa := Lib.hid (HKa.out.below (below_alloc (Below.refl _ w3) (.cells #[.bool true, .int .i64 2, .int .i64 2, .bool false] 23)))
  replace HKb := Lib.hid (HKb.out.below (below_alloc (Below.refl _ w3) (.cells #[.bool true, .int .i64 2, .int .i64 2, .bool false] 23)))
  have HKc := Lib.hid (blk_new w3 #[.bool true, .int .i64 2, .int .i64 2, .bool false] 23)
  obtain ⟨ca0, ca1, ca2, ca3⟩ := HKa.out.four
  go_wp2_with fail
  (with_reducible refine (step_ax true 250 250 false 250 251 250 251 true (by decide) (by decide) (by decide) _).mono ?_)
  rintro e w4 ⟨rfl, hb⟩
  clear ca0 ca1 ca2 ca3
  replace HB := Lib.hid (below_call HB.out hb)
  replace HKa := Lib.hid (HKa.out.below hb)
  replace HKb := Lib.hid (HKb.out.below hb)
  replace HKc := Lib.hid (HKc.out.below hb)
  clear hb
  replace HB := Lib.hid (below_alloc HB.out (.cells #[.bool true, .int .i64 250, .int .i64 251, .bool true] 23))
  replace HKa := Lib.hid (HKa.out.below (below_alloc (Below.refl _ w4) (.cells #[.bool true, .int .i64 250, .int .i64 251, .bool true] 23)))
  replace HKb := Lib.hid (HKb.out.below (below_alloc (Below.refl _ w4) (.cells #[.bool true, .int .i64 250, .int .i64 251, .bool true] 23)))
  replace HKc := Lib.hid (HKc.out.below (below_alloc (Below.refl _ w4) (.cells #[.bool true, .int .i64 250, .int .i64 251, .bool true] 23)))
  have HKw := Lib.hid (blk_new w4 #[.bool true, .int .i64 250, .int .i64 251, .bool true] 23)
  obtain ⟨ca0, ca1, ca2, ca3⟩ := HKa.out.four
  go_wp2_with fail
  (with_reducible refine (step_ax true 250 250 false 315 315 59 59 true (by decide) (by decide) (by decide) _).mono ?_)
  rintro e w5 ⟨rfl, hb⟩
  clear ca0 ca1 ca2 ca3
  replace HB := Lib.hid (below_call HB.out hb)
  replace HKa := Lib.hid (HKa.out.below hb)
  replace HKb := Lib.hid (HKb.out.below hb)
  replace HKc := Lib.hid (HKc.out.below hb)
  replace HKw := Lib.hid (HKw.out.below hb)
  clear hb
  replace HB := Lib.hid (below_alloc HB.out (.cells #[.bool true, .int .i64 59, .int .i64 59, .bool true] 23))
  replace HKa := Lib.hid (HKa.out.below (below_alloc (Below.refl _ w5) (.cells #[.bool true, .int .i64 59, .int .i64 59, .bool true] 23)))
  replace HKb := Lib.hid (HKb.out.below (below_alloc (Below.refl _ w5) (.cells #[.bool true, .int .i64 59, .int .i64 59, .bool true] 23)))
  replace HKc := Lib.hid (HKc.out.below (below_alloc (Below.refl _ w5) (.cells #[.bool true, .int .i64 59, .int .i64 59, .bool true] 23)))
  replace HKw := Lib.hid (HKw.out.below (below_alloc (Below.refl _ w5) (.cells #[.bool true, .int .i64 59, .int .i64 59, .bool true] 23)))
  have HKl := Lib.hid (blk_new w5 #[.bool true, .int .i64 59, .int .i64 59, .bool true] 23)
  obtain ⟨ca0, ca1, ca2, ca3⟩ := HKa.out.four
  go_wp2_with fail
  (with_reducible refine (clear_to true 250 250 false true (by decide) _).mono ?_)
  rintro e w6 ⟨rfl, hb⟩
  clear ca0 ca1 ca2 ca3
  replace HB := Lib.hid (below_call HB.out hb)
  replace HKa := Lib.hid (HKa.out.below hb)
  replace HKb := Lib.hid (HKb.out.below hb)
  replace HKc := Lib.hid (HKc.out.below hb)
  replace HKw := Lib.hid (HKw.out.below hb)
  replace HKl := Lib.hid (HKl.out.below hb)
  clear hb
  obtain ⟨cb0, cb1, cb2, cb3⟩ := HKb.out.four
  go_wp2_with fail
  (with_reducible refine (on_to true 2 250 false 8 (by decide) _).mono ?_)
  rintro e w7 ⟨rfl, hb⟩
  clear cb0 cb1 cb2 cb3
  replace HB := Lib.hid (below_call HB.out hb)
  replace HKa := Lib.hid (HKa.out.below hb)
  replace HKb := Lib.hid (HKb.out.below hb)
  replace HKc := Lib.hid (HKc.out.below hb)
  replace HKw := Lib.hid (HKw.out.below hb)
  replace HKl := Lib.hid (HKl.out.below hb)
  clear hb
  obtain ⟨cb0, cb1, cb2, cb3⟩ := HKb.out.four
  go_wp2_with fail
  (with_reducible refine (clear_to true 2 250 false false (by decide) _).mono ?_)
  rintro e w8 ⟨rfl, hb⟩
  clear cb0 cb1 cb2 cb3
  replace HB := Lib.hid (below_call HB.out hb)
  replace HKa := Lib.hid (HKa.out.below hb)
  replace HKb := Lib.hid (HKb.out.below hb)
  replace HKc := Lib.hid (HKc.out.below hb)
  replace HKw := Lib.hid (HKw.out.below hb)
  replace HKl := Lib.hid (HKl.out.below hb)
  clear hb
  obtain ⟨cc0, cc1, cc2, cc3⟩ := HKc.out.four
  go_wp2_with fail
  (with_reducible refine (clear_to true 2 2 false true (by decide) _).mono ?_)
  rintro e w9 ⟨rfl, hb⟩
  clear cc0 cc1 cc2 cc3
  replace HB := Lib.hid (below_call HB.out hb)
  replace HKa := Lib.hid (HKa.out.below hb)
  replace HKb := Lib.hid (HKb.out.below hb)
  replace HKc := Lib.hid (HKc.out.below hb)
  replace HKw := Lib.hid (HKw.out.below hb)
  replace HKl := Lib.hid (HKl.out.below hb)
  clear hb
  obtain ⟨cw0, cw1, cw2, cw3⟩ := HKw.out.four
  go_wp2_with fail
  (with_reducible refine (clear_to true 250 251 true false (by decide) _).mono ?_)
  rintro e w10 ⟨rfl, hb⟩
  clear cw0 cw1 cw2 cw3
  replace HB := Lib.hid (below_call HB.out hb)
  replace HKa := Lib.hid (HKa.out.below hb)
  replace HKb := Lib.hid (HKb.out.below hb)
  replace HKc := Lib.hid (HKc.out.below hb)
  replace HKw := Lib.hid (HKw.out.below hb)
  replace HKl := Lib.hid (HKl.out.below hb)
  clear hb
  obtain ⟨cl0, cl1, cl2, cl3⟩ := HKl.out.four
  go_wp2_with fail
  (with_reducible refine (reset_to true 59 59 true false (by decide) _).mono ?_)
  rintro e w11 ⟨rfl, hb⟩
  clear cl0 cl1 cl2 cl3
  replace HB := Lib.hid (below_call HB.out hb)
  replace HKa := Lib.hid (HKa.out.below hb)
  replace HKb := Lib.hid (HKb.out.below hb)
  replace HKc := Lib.hid (HKc.out.below hb)
  replace HKw := Lib.hid (HKw.out.below hb)
  replace HKl := Lib.hid (HKl.out.below hb)
  clear hb
  go_wp2_with fail
  (with_reducible refine (clear_to true 59 59 false true (by decide) _).mono ?_)
  rintro e w12 ⟨rfl, hb⟩
  replace HB := Lib.hid (below_call HB.out hb)
  replace HKa := Lib.hid (HKa.out.below hb)
  replace HKb := Lib.hid (HKb.out.below hb)
  replace HKc := Lib.hid (HKc.out.below hb)
  replace HKw := Lib.hid (HKw.out.below hb)
  replace HKl := Lib.hid (HKl.out.below hb)
  clear hb
  obtain ⟨cw0, cw1, cw2, cw3⟩ := HKw.out.four
  go_wp2_with fail
  (with_reducible refine (reset_to true 250 251 true true (by decide) _).mono ?_)
  rintro e w13 ⟨rfl, hb⟩
  clear cw0 cw1 cw2 cw3
  replace HB := Lib.hid (below_call HB.out hb)
  replace HKa := Lib.hid (HKa.out.below hb)
  replace HKb := Lib.hid (HKb.out.below hb)
  replace HKc := Lib.hid (HKc.out.below hb)
  replace HKw := Lib.hid (HKw.out.below hb)
  replace HKl := Lib.hid (HKl.out.below hb)
  clear hb
  go_wp2_with fail
  (with_reducible refine (clear_to false 0 0 false false (by decide) _).mono ?_)
  rintro e w14 ⟨rfl, hb⟩
  replace HB := Lib.hid (below_call HB.out hb)
  replace HKa := Lib.hid (HKa.out.below hb)
  replace HKb := Lib.hid (HKb.out.below hb)
  replace HKc := Lib.hid (HKc.out.below hb)
  replace HKw := Lib.hid (HKw.out.below hb)
  replace HKl := Lib.hid (HKl.out.below hb)
  clear hb
  go_wp2_with fail
  go_ret
  exact ⟨rfl, HB.out⟩
end Go.Proofs.Ytkgloniffmfpjaa

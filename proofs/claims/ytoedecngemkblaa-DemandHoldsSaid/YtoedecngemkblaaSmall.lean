/-
  The small case of every law of layer 19: true.
-/
import Derived.Test.YtoedecngemkblaaDmOf
import Derived.Test.YtoedecngemkblaaDmEq
namespace Go.Proofs.Ytoedecngemkblaa
open Go.RowKit

theorem els_one {w : World} {g : Nat} {T : TypeId} {h : Bool} {i o : Int} {gg : Bool} {l s : Int} {j cl : Bool} {n : Int} {f c : Bool} (b : Blk w g #[.bool h, .int .i64 i, .int .i64 o, .bool gg, .int .i64 l, .int .i64 s, .bool j, .bool cl, .int .i64 n, .bool f, .bool c] T) : Els RTk 11 w (.slice (some ⟨g, 0, none⟩) 1 1) [⟨h, i, o, gg, l, s, j, cl, n, f, c⟩] := by
  refine ⟨_, _, rfl, fun k y hy => ⟨g, 0, rfl, ?_⟩⟩
  match k with
  | 0 =>
    simp only [List.getElem?_cons_zero, Option.some.injEq] at hy
    subst hy
    exact ⟨b.cell 0 rfl, b.cell 1 rfl, b.cell 2 rfl, b.cell 3 rfl, b.cell 4 rfl, b.cell 5 rfl, b.cell 6 rfl, b.cell 7 rfl, b.cell 8 rfl, b.cell 9 rfl, b.cell 10 rfl⟩
  | k + 1 => simp at hy
theorem els_two {w : World} {g : Nat} {T : TypeId} {h : Bool} {i o : Int} {gg : Bool} {l s : Int} {j cl : Bool} {n : Int} {f c : Bool} {h' : Bool} {i' o' : Int} {gg' : Bool} {l' s' : Int} {j' cl' : Bool} {n' : Int} {f' c' : Bool} (b : Blk w g #[.bool h, .int .i64 i, .int .i64 o, .bool gg, .int .i64 l, .int .i64 s, .bool j, .bool cl, .int .i64 n, .bool f, .bool c, .bool h', .int .i64 i', .int .i64 o', .bool gg', .int .i64 l', .int .i64 s', .bool j', .bool cl', .int .i64 n', .bool f', .bool c'] T) : Els RTk 11 w (.slice (some ⟨g, 0, none⟩) 2 2) [⟨h, i, o, gg, l, s, j, cl, n, f, c⟩, ⟨h', i', o', gg', l', s', j', cl', n', f', c'⟩] := by
  refine ⟨_, _, rfl, fun k y hy => ⟨g, 0, rfl, ?_⟩⟩
  match k with
  | 0 =>
    simp only [List.getElem?_cons_zero, Option.some.injEq] at hy
    subst hy
    exact ⟨b.cell 0 rfl, b.cell 1 rfl, b.cell 2 rfl, b.cell 3 rfl, b.cell 4 rfl, b.cell 5 rfl, b.cell 6 rfl, b.cell 7 rfl, b.cell 8 rfl, b.cell 9 rfl, b.cell 10 rfl⟩
  | 1 =>
    simp only [List.getElem?_cons_zero, List.getElem?_cons_succ, Option.some.injEq] at hy
    subst hy
    exact ⟨b.cell 11 rfl, b.cell 12 rfl, b.cell 13 rfl, b.cell 14 rfl, b.cell 15 rfl, b.cell 16 rfl, b.cell 17 rfl, b.cell 18 rfl, b.cell 19 rfl, b.cell 20 rfl, b.cell 21 rfl⟩
  | k + 2 => simp at hy
theorem els_nil (w : World) : Els RTk 11 w (.slice none 0 0) [] := ⟨none, 0, rfl, fun j y hy => by simp at hy⟩
-- GEN
set_option maxHeartbeats 4000000 in
theorem small_true (w : World) : Calls Try.prog 8 #[] w fun e w' => e = .returned (.bool true) ∧ Below w.heap.size w w' := by
  have E1 := eql_dms false false
  have E2 := eql_dms true false
  have E3 := eql_dms true true
  have HB0 := Lib.hid (below_alloc (below_alloc (Below.refl _ w) (.cells #[.bool false, .bool false, .bool false, .bool false, .bool false, .bool true, .bool false, .int .i64 0, .bool true, .bool false, .int .i64 0, .slice none 0 0] 26)) (.cells #[.bool false, .int .i64 0, .int .i64 0, .bool false, .int .i64 0, .int .i64 0, .bool false, .bool true, .int .i64 0, .bool false, .bool false, .bool false, .int .i64 0, .int .i64 0, .bool false, .int .i64 0, .int .i64 0, .bool false, .bool false, .int .i64 3, .bool false, .bool false] 39))
  have b0 := (blk_new w #[.bool false, .bool false, .bool false, .bool false, .bool false, .bool true, .bool false, .int .i64 0, .bool true, .bool false, .int .i64 0, .slice none 0 0] 26).below (below_alloc (Below.refl _ (w.alloc (.cells #[.bool false, .bool false, .bool false, .bool false, .bool false, .bool true, .bool false, .int .i64 0, .bool true, .bool false, .int .i64 0, .slice none 0 0] 26))) (.cells #[.bool false, .int .i64 0, .int .i64 0, .bool false, .int .i64 0, .int .i64 0, .bool false, .bool true, .int .i64 0, .bool false, .bool false, .bool false, .int .i64 0, .int .i64 0, .bool false, .int .i64 0, .int .i64 0, .bool false, .bool false, .int .i64 3, .bool false, .bool false] 39))
  have b1 := blk_new (w.alloc (.cells #[.bool false, .bool false, .bool false, .bool false, .bool false, .bool true, .bool false, .int .i64 0, .bool true, .bool false, .int .i64 0, .slice none 0 0] 26)) #[.bool false, .int .i64 0, .int .i64 0, .bool false, .int .i64 0, .int .i64 0, .bool false, .bool true, .int .i64 0, .bool false, .bool false, .bool false, .int .i64 0, .int .i64 0, .bool false, .int .i64 0, .int .i64 0, .bool false, .bool false, .int .i64 3, .bool false, .bool false] 39
  simp only [World.size_alloc] at b1
  have HI0 := Lib.hid b0
  have HT0 := Lib.hid b1
  clear b0 b1
  obtain ⟨x0, x1, x2, x3, x4, x5, x6, x7, x8, x9, x10, x11⟩ := cells12 HI0.out
  go_enter Try.func8, Try.ntmps8
  go_wp2_with fail
  (with_reducible refine (good_to false false false false false true false 0 true false 0 (.slice none 0 0) _ [⟨false, 0, 0, false, 0, 0, false, true, 0, false, false⟩, ⟨false, 0, 0, false, 0, 0, false, false, 3, false, false⟩] _ (els_two HT0.out) (by decide) true (by decide)).mono ?_)
  rintro e w1 ⟨rfl, hb⟩
  have HB1 := Lib.hid (below_call HB0.out hb)
  have HI1 := Lib.hid (HI0.out.below hb)
  have HT1 := Lib.hid (HT0.out.below hb)
  clear x0 x1 x2 x3 x4 x5 x6 x7 x8 x9 x10 x11 hb HB0 HI0 HT0
  obtain ⟨x0, x1, x2, x3, x4, x5, x6, x7, x8, x9, x10, x11⟩ := cells12 HI1.out
  go_wp2_with fail
  (with_reducible refine (of_to false false false false false true false 0 true false 0 (.slice none 0 0) _ [⟨false, 0, 0, false, 0, 0, false, true, 0, false, false⟩, ⟨false, 0, 0, false, 0, 0, false, false, 3, false, false⟩] _ (els_two HT1.out) (by decide) false true false false (by decide) (by decide)).mono ?_)
  rintro e w2 ⟨rfl, hb⟩
  have HB2 := Lib.hid (below_call HB1.out hb)
  have HI2 := Lib.hid (HI1.out.below hb)
  have HT2 := Lib.hid (HT1.out.below hb)
  clear x0 x1 x2 x3 x4 x5 x6 x7 x8 x9 x10 x11 hb HB1 HI1 HT1
  obtain ⟨x0, x1, x2, x3, x4, x5, x6, x7, x8, x9, x10, x11⟩ := cells12 HI2.out
  go_wp2_with fail
  (with_reducible refine (of_to false false false false false true false 0 true false 0 (.slice none 0 0) _ [⟨false, 0, 0, false, 0, 0, false, true, 0, false, false⟩, ⟨false, 0, 0, false, 0, 0, false, false, 3, false, false⟩] _ (els_two HT2.out) (by decide) false false false true (by decide) (by decide)).mono ?_)
  rintro e w3 ⟨rfl, hb⟩
  have HB3 := Lib.hid (below_call HB2.out hb)
  have HI3 := Lib.hid (HI2.out.below hb)
  have HT3 := Lib.hid (HT2.out.below hb)
  clear x0 x1 x2 x3 x4 x5 x6 x7 x8 x9 x10 x11 hb HB2 HI2 HT2
  obtain ⟨x0, x1, x2, x3, x4, x5, x6, x7, x8, x9, x10, x11⟩ := cells12 HI3.out
  go_wp2_with fail
  (with_reducible refine (of_to false false false false false true false 0 true false 0 (.slice none 0 0) _ [] _ (els_nil _) (by decide) true true false true (by decide) (by decide)).mono ?_)
  rintro e w4 ⟨rfl, hb⟩
  have HB4 := Lib.hid (below_call HB3.out hb)
  have HI4 := Lib.hid (HI3.out.below hb)
  have HT4 := Lib.hid (HT3.out.below hb)
  clear x0 x1 x2 x3 x4 x5 x6 x7 x8 x9 x10 x11 hb HB3 HI3 HT3
  obtain ⟨x0, x1, x2, x3, x4, x5, x6, x7, x8, x9, x10, x11⟩ := cells12 HI4.out
  go_wp2_with fail
  (with_reducible refine (of_to false false false false false true false 0 false false 0 (.slice none 0 0) _ [] _ (els_nil _) (by decide) false true true true (by decide) (by decide)).mono ?_)
  rintro e w5 ⟨rfl, hb⟩
  have HB5 := Lib.hid (below_call HB4.out hb)
  have HI5 := Lib.hid (HI4.out.below hb)
  have HT5 := Lib.hid (HT4.out.below hb)
  clear x0 x1 x2 x3 x4 x5 x6 x7 x8 x9 x10 x11 hb HB4 HI4 HT4
  obtain ⟨x0, x1, x2, x3, x4, x5, x6, x7, x8, x9, x10, x11⟩ := cells12 HI5.out
  have HB6 := Lib.hid (below_alloc HB5.out (.cells #[.bool false, .int .i64 0, .int .i64 0, .bool false, .int .i64 0, .int .i64 0, .bool false, .bool false, .int .i64 0, .bool true, .bool false] 39))
  have HF := Lib.hid (els_one (blk_new w5 #[.bool false, .int .i64 0, .int .i64 0, .bool false, .int .i64 0, .int .i64 0, .bool false, .bool false, .int .i64 0, .bool true, .bool false] 39))
  have HC := Lib.hid (good_to false false false false false true false 0 true false 0 (.slice none 0 0) _ _ _ HF.out (by decide) false (by decide))
  clear HF
  go_wp2_with fail
  (with_reducible refine (HC.out).mono ?_)
  rintro e w7 ⟨rfl, hb⟩
  have HB7 := Lib.hid (below_call HB6.out hb)
  clear hb
  go_wp2_with fail
  go_ret
  exact ⟨rfl, HB7.out⟩
end Go.Proofs.Ytoedecngemkblaa

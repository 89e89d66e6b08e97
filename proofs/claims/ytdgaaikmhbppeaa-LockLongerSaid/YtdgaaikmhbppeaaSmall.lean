/-
  The small case of every law of layer 22: true.
-/
import Derived.Test.YtdgaaikmhbppeaaLoHold
import Derived.Test.YtdgaaikmhbppeaaLoEq
namespace Go.Proofs.Ytdgaaikmhbppeaa
open Go.RowKit

theorem els_lo2 {w : World} {g : Nat} {T : TypeId} {a b : Bool} {m n : Int} (h : Blk w g #[.bool a, .int .i64 m, .bool b, .int .i64 n] T) (h1 : LoR m) (h2 : LoR n) (c : Nat) : Els RLo 2 w (.slice (some ⟨g, 0, none⟩) 2 c) [⟨a, m⟩, ⟨b, n⟩] := by
  refine ⟨_, c, rfl, fun j y hy => ⟨g, 0, rfl, ?_⟩⟩
  match j, hy with
  | 0, hy => simp at hy; subst hy; exact ⟨h.cell 0 rfl, h.cell 1 rfl, h1⟩
  | 1, hy => simp at hy; subst hy; exact ⟨h.cell 2 rfl, h.cell 3 rfl, h2⟩
  | j + 2, hy => simp at hy
theorem els_lo0 (w : World) : Els RLo 2 w (.slice none 0 0) [] := ⟨none, 0, rfl, fun j y hy => by simp at hy⟩
set_option maxHeartbeats 4000000 in
set_option maxRecDepth 10000 in
theorem small_true (w : World) : Calls Try.prog 8 #[] w fun e w' => e = .returned (.bool true) ∧ Below w.heap.size w w' := by
  have E1 := eql_los true 3
  have E2 := eql_los false 2
  have E3 := eql_los false 0
  have HR := Lib.hid (show LoR 0 ∧ LoR 1 ∧ LoR 2 ∧ LoR 3 by unfold LoR; decide)
  go_enter Try.func8, Try.ntmps8
  go_wp2_with fail
  (with_reducible refine (lostep_to false 0 true 3 true 3 rfl HR.out.1 _).mono ?_)
  rintro e w1 ⟨rfl, hb⟩
  have HB1 := Lib.hid (below_alloc hb (.cells #[.bool true, .int .i64 3] 27))
  have HX1 := Lib.hid (lobox w1 true 3)
  clear hb
  obtain ⟨x0, x1⟩ := box2 HX1.out
  go_wp2_with fail
  (with_reducible refine (lostep_to true 3 false 3 false 2 rfl HR.out.2.2.2 _).mono ?_)
  rintro e w2 ⟨rfl, hb⟩
  clear x0 x1
  have HX2 := Lib.hid ((HX1.out.below hb).below (below_alloc (Below.refl _ w2) (.cells #[.bool false, .int .i64 2] 27)))
  have HB2 := Lib.hid (below_alloc (below_call HB1.out hb) (.cells #[.bool false, .int .i64 2] 27))
  have HY2 := Lib.hid (lobox w2 false 2)
  clear hb HX1 HB1
  obtain ⟨y0, y1⟩ := box2 HY2.out
  go_wp2_with fail
  (with_reducible refine (lostep_to false 2 false 3 false 1 rfl HR.out.2.2.1 _).mono ?_)
  rintro e w3 ⟨rfl, hb⟩
  clear y0 y1
  have HX3 := Lib.hid (HX2.out.below hb)
  have HY3 := Lib.hid (HY2.out.below hb)
  have HB3 := Lib.hid (below_call HB2.out hb)
  clear hb HX2 HY2 HB2
  go_wp2_with fail
  (with_reducible refine (lostep_to false 1 false 3 false 0 rfl HR.out.2.1 _).mono ?_)
  rintro e w4 ⟨rfl, hb⟩
  have HX4 := Lib.hid ((HX3.out.below hb).below (below_alloc (Below.refl _ w4) (.cells #[.bool false, .int .i64 0] 27)))
  have HY4 := Lib.hid ((HY3.out.below hb).below (below_alloc (Below.refl _ w4) (.cells #[.bool false, .int .i64 0] 27)))
  have HB4 := Lib.hid (below_alloc (below_call HB3.out hb) (.cells #[.bool false, .int .i64 0] 27))
  have HZ4 := Lib.hid (lobox w4 false 0)
  clear hb HX3 HY3 HB3
  obtain ⟨x0, x1⟩ := box2 HX4.out
  obtain ⟨y0, y1⟩ := box2 HY4.out
  obtain ⟨z0, z1⟩ := box2 HZ4.out
  go_wp2_with fail
  (with_reducible refine (lokd_to false 2 true rfl _).mono ?_)
  rintro e w5 ⟨rfl, hb⟩
  clear x0 x1 y0 y1 z0 z1 HX4
  have HY5 := Lib.hid (HY4.out.below hb)
  have HZ5 := Lib.hid (HZ4.out.below hb)
  have HB5 := Lib.hid (below_call HB4.out hb)
  clear hb HY4 HZ4 HB4
  obtain ⟨y0, y1⟩ := box2 HY5.out
  obtain ⟨z0, z1⟩ := box2 HZ5.out
  go_wp2_with fail
  (with_reducible refine (lokd_to false 0 false rfl _).mono ?_)
  rintro e w6 ⟨rfl, hb⟩
  clear y0 y1 z0 z1
  have HY6 := Lib.hid (HY5.out.below hb)
  have HZ6 := Lib.hid (HZ5.out.below hb)
  have HB6 := Lib.hid (below_alloc (below_call HB5.out hb) (.cells #[.bool false, .int .i64 0, .bool false, .int .i64 2] 27))
  clear hb HY5 HZ5 HB5
  obtain ⟨y0, y1⟩ := box2 HY6.out
  obtain ⟨z0, z1⟩ := box2 HZ6.out
  have HL := Lib.hid (loany_to _ _ _ (els_lo2 (blk_new w6 #[.bool false, .int .i64 0, .bool false, .int .i64 2] 27) HR.out.1 HR.out.2.2.1 2) (by decide) true rfl)
  go_wp2_with fail
  (with_reducible refine (HL.out).mono ?_)
  rintro e w7 ⟨rfl, hb⟩
  clear y0 y1 z0 z1 HY6 HZ6
  have HB7 := Lib.hid (below_call HB6.out hb)
  clear hb HL HB6
  have HN := Lib.hid (loany_to _ _ w7 (els_lo0 w7) (by decide) false rfl)
  go_wp2_with fail
  (with_reducible refine (HN.out).mono ?_)
  rintro e w8 ⟨rfl, hb⟩
  have HB8 := Lib.hid (below_call HB7.out hb)
  clear hb HN HB7
  have HH := Lib.hid (lohold_to ⟨0, 0, 0, 0, 0, 0, 0, 4, 3, 0⟩ (by decide) (by decide) 9 rfl w8)
  go_wp2_with fail
  (with_reducible refine (HH.out).mono ?_)
  rintro e w9 ⟨rfl, hb⟩
  have HB9 := Lib.hid (below_call HB8.out hb)
  clear hb HH
  go_wp2_with fail
  go_ret
  exact ⟨rfl, HB9.out⟩
end Go.Proofs.Ytdgaaikmhbppeaa

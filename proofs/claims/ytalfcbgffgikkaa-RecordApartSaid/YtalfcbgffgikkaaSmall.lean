/-
  The small case of every law of layer 25: true is answered, and nothing older changes. Conditions: none.
-/
import Derived.Test.YtalfcbgffgikkaaRcCalls
import Derived.Test.YtalfcbgffgikkaaRcEq
import Derived.Test.YtalfcbgffgikkaaPoMade
import Derived.Test.YtalfcbgffgikkaaTxt
import Derived.Test.YtalfcbgffgikkaaBlks
namespace Go.Proofs.Ytalfcbgffgikkaa
open Go.RowKit

theorem sm_of (W : World) (g : Nat) (h : Blk W g #[.bool false, .int .i64 0, .int .i64 0, .bool true, .int .i64 0, .int .i64 0, .bool false, .bool false, .int .i64 0, .bool false, .bool false, .bool false, .int .i64 0, .int .i64 0, .bool false, .int .i64 0, .int .i64 0, .bool true, .bool false, .int .i64 0, .bool false, .bool false] 43) : Calls Try.prog 10 #[.agg #[.int .i64 5, .int .i64 0], .slice (some ⟨g, 0, none⟩) 2 2] W fun e w' => e = .returned (.agg #[.int .i64 5, .int .i64 1, .int .i64 2]) ∧ Below W.heap.size W w' :=
  rcof_to 5 0 _ [⟨false, 0, 0, true, 0, 0, false, false, 0, false, false⟩, ⟨false, 0, 0, false, 0, 0, true, false, 0, false, false⟩] W (TkB.els (show TkB W g [⟨false, 0, 0, true, 0, 0, false, false, 0, false, false⟩, ⟨false, 0, 0, false, 0, 0, true, false, 0, false, false⟩] from h) 2 2 rfl) 1 2 rfl
theorem sm_print (W : World) : Calls Try.prog 12 #[.agg #[.int .i64 5, .int .i64 1, .int .i64 0]] W fun e w' => ∃ a c, e = .returned (.slice a 3 c) ∧ Byts w' (.slice a 3 c) [5#8, 1#8, 0#8] ∧ Below W.heap.size W w' := by
  refine (rcprint_to ⟨5, 1, 0⟩ 5 1 0 rfl W).mono ?_
  rintro e w1 ⟨v, rfl, hv, hb⟩
  rw [show rcpr ⟨5, 1, 0⟩ = [5#8, 1#8, 0#8] by decide] at hv
  obtain ⟨a, c, rfl⟩ := hv.len
  exact ⟨a, c, rfl, hv, hb⟩
theorem sm_none (W : World) : Calls Try.prog 12 #[.agg #[.int .i64 8, .int .i64 0, .int .i64 0]] W fun e w' => ∃ a c, e = .returned (.slice a 0 c) ∧ Below W.heap.size W w' := by
  refine (rcprint_to ⟨8, 0, 0⟩ 8 0 0 rfl W).mono ?_
  rintro e w1 ⟨v, rfl, hv, hb⟩
  rw [show rcpr ⟨8, 0, 0⟩ = [] by decide] at hv
  obtain ⟨a, c, rfl⟩ := hv.len
  exact ⟨a, c, rfl, hb⟩
theorem sm_yes : rcout (rcps [5#8, 1#8, 0#8]) = (⟨5, 1, 0⟩, true) := by simp [rcps, rcout]
theorem sm_no : rcout (rcps [8#8, 0#8, 0#8]) = (⟨0, 0, 0⟩, false) := by simp [rcps, rcout]
theorem sm_text : ((txt [5#8, 1#8, 0#8]).toList == [5, 1, 0]) = true := by
  have h : txt [5#8, 1#8, 0#8] = { data := #[5, 1, 0] } := by rfl
  rw [h]
  decide +kernel
set_option maxHeartbeats 4000000 in
set_option maxRecDepth 10000 in
theorem small_true (w : World) : Calls Try.prog 7 #[] w fun e w' => e = .returned (.bool true) ∧ Below w.heap.size w w' := by
  have HS := Lib.hid ((Blks.nil w).new #[.bool false, .int .i64 0, .int .i64 0, .bool true, .int .i64 0, .int .i64 0, .bool false, .bool false, .int .i64 0, .bool false, .bool false, .bool false, .int .i64 0, .int .i64 0, .bool false, .int .i64 0, .int .i64 0, .bool true, .bool false, .int .i64 0, .bool false, .bool false] 43)
  have HB := Lib.hid (below_alloc (Below.refl _ w) (.cells #[.bool false, .int .i64 0, .int .i64 0, .bool true, .int .i64 0, .int .i64 0, .bool false, .bool false, .int .i64 0, .bool false, .bool false, .bool false, .int .i64 0, .int .i64 0, .bool false, .int .i64 0, .int .i64 0, .bool true, .bool false, .int .i64 0, .bool false, .bool false] 43))
  have E1 := eql_rc 5 1 2 5 1 2 true rfl
  have E2 := eql_rc 5 1 0 5 1 0 true rfl
  have E3 := sm_text
  go_enter Try.func7, Try.ntmps7
  go_wp2_with fail
  (with_reducible refine (sm_of _ _ (HS.out.at_ 0 rfl)).mono ?_)
  rintro e w1 ⟨rfl, hb⟩
  replace HS := Lib.hid ((HS.out.below hb).new #[.int .i64 5, .int .i64 1, .int .i64 2] 26)
  replace HB := Lib.hid (below_alloc (below_call HB.out hb) (.cells #[.int .i64 5, .int .i64 1, .int .i64 2] 26))
  clear hb
  go_wp2_with fail
  (with_reducible refine (sm_print _).mono ?_)
  rintro e w2 ⟨a2, c2, rfl, hv, hb⟩
  replace HS := Lib.hid (HS.out.below hb)
  replace HB := Lib.hid (below_call HB.out hb)
  have HV := Lib.hid hv
  clear hb hv
  go_wp2_with fail
  (with_reducible refine (rcparse_to _ _ 5 1 0 true sm_yes _ HV.out).mono ?_)
  rintro e w3 ⟨rfl, hb⟩
  replace HS := Lib.hid (((HS.out.below hb).new #[.int .i64 5, .int .i64 1, .int .i64 0] 26).new #[.int .u8 8, .int .u8 0, .int .u8 0] 5)
  replace HB := Lib.hid (below_alloc (below_alloc (below_call HB.out hb) (.cells #[.int .i64 5, .int .i64 1, .int .i64 0] 26)) (.cells #[.int .u8 8, .int .u8 0, .int .u8 0] 5))
  replace HV := Lib.hid (HV.out.below (below_alloc (below_alloc hb (.cells #[.int .i64 5, .int .i64 1, .int .i64 0] 26)) (.cells #[.int .u8 8, .int .u8 0, .int .u8 0] 5)))
  have hl := lit_byts (w3.alloc (.cells #[.int .i64 5, .int .i64 1, .int .i64 0] 26)) #[.int .u8 8, .int .u8 0, .int .u8 0] 3 (0, 0) [8#8, 0#8, 0#8] rfl rfl
  simp only [World.size_alloc] at hl
  have HL := Lib.hid hl
  clear hb hl
  go_wp2_with fail
  (with_reducible refine (rcparse_to _ _ 0 0 0 false sm_no _ HL.out).mono ?_)
  rintro e w4 ⟨rfl, hb⟩
  replace HS := Lib.hid ((HS.out.below hb).new #[.int .i64 0, .int .i64 0, .int .i64 0] 26)
  replace HB := Lib.hid (below_alloc (below_call HB.out hb) (.cells #[.int .i64 0, .int .i64 0, .int .i64 0] 26))
  replace HV := Lib.hid (HV.out.below (below_alloc hb (.cells #[.int .i64 0, .int .i64 0, .int .i64 0] 26)))
  clear hb HL
  obtain ⟨x0, x1, x2⟩ := (HS.out.at_ 3 rfl).three
  obtain ⟨y0, y1, y2⟩ := (HS.out.at_ 2 rfl).three
  have ht := txt_run _ _ _ HV.out
  go_wp2_with fail
  (with_reducible refine (sm_none _).mono ?_)
  rintro e w5 ⟨a5, c5, rfl, hb⟩
  replace HB := Lib.hid (below_call HB.out hb)
  clear hb x0 x1 x2 y0 y1 y2 ht HS HV
  go_wp2_with fail
  go_ret
  exact ⟨rfl, HB.out⟩
end Go.Proofs.Ytalfcbgffgikkaa

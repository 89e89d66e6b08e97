/-
  The small case of every law of layer 23: true.
-/
import Derived.Test.YtgkihalokedmaaaPoRest
import Derived.Test.YtgkihalokedmaaaPhEq
import Derived.Test.YtgkihalokedmaaaTkEq
import Derived.Test.YtgkihalokedmaaaBlks
namespace Go.Proofs.Ytgkihalokedmaaa
open Go.RowKit

theorem sm_one (W : World) : Calls Try.prog 9 #[.agg #[.int .i64 0, .int .i64 2, .int .i64 1], .bool true, .int .i64 2] W fun e w' => ∃ g, e = .returned (.tuple #[.agg #[.int .i64 6, .int .i64 1], .slice (some ⟨g, 0, none⟩) 2 2]) ∧ Blk w' g #[.bool false, .int .i64 0, .int .i64 0, .bool false, .int .i64 0, .int .i64 0, .bool true, .bool false, .int .i64 0, .bool false, .bool false, .bool false, .int .i64 0, .int .i64 0, .bool true, .int .i64 0, .int .i64 0, .bool false, .bool false, .int .i64 0, .bool false, .bool false] 43 ∧ W.heap.size ≤ g ∧ Below W.heap.size W w' := by
  have h := restart_to ⟨0, 2, 1⟩ true 2 6 (by decide) W
  rw [show pon 2 = 2 from rfl, show potks ⟨0, 2, 1⟩ true 2 = [potk false true, potk true false] from rfl] at h
  exact h
theorem sm_two (W : World) : Calls Try.prog 9 #[.agg #[.int .i64 5, .int .i64 0, .int .i64 0], .bool true, .int .i64 1] W fun e w' => ∃ g, e = .returned (.tuple #[.agg #[.int .i64 5, .int .i64 1], .slice (some ⟨g, 0, none⟩) 1 1]) ∧ Blk w' g #[.bool false, .int .i64 0, .int .i64 0, .bool false, .int .i64 0, .int .i64 0, .bool false, .bool false, .int .i64 0, .bool false, .bool false] 43 ∧ W.heap.size ≤ g ∧ Below W.heap.size W w' := by
  have h := restart_to ⟨5, 0, 0⟩ true 1 5 (by decide) W
  rw [show pon 1 = 1 from rfl, show potks ⟨5, 0, 0⟩ true 1 = [tk0] from rfl] at h
  exact h
theorem sm_three (W : World) : Calls Try.prog 9 #[.agg #[.int .i64 5, .int .i64 1, .int .i64 0], .bool false, .int .i64 1] W fun e w' => ∃ g, e = .returned (.tuple #[.agg #[.int .i64 3, .int .i64 1], .slice (some ⟨g, 0, none⟩) 1 1]) ∧ Blk w' g #[.bool false, .int .i64 0, .int .i64 0, .bool false, .int .i64 0, .int .i64 0, .bool false, .bool false, .int .i64 0, .bool false, .bool false] 43 ∧ W.heap.size ≤ g ∧ Below W.heap.size W w' := by
  have h := restart_to ⟨5, 1, 0⟩ false 1 3 (by decide) W
  rw [show pon 1 = 1 from rfl, show potks ⟨5, 1, 0⟩ false 1 = [tk0] from rfl] at h
  exact h
theorem sm_yes (W : World) (g : Nat) (h : Blk W g #[.bool false, .int .i64 0, .int .i64 0, .bool false, .int .i64 0, .int .i64 0, .bool false, .bool false, .int .i64 0, .bool false, .bool false, .bool false, .int .i64 0, .int .i64 0, .bool false, .int .i64 0, .int .i64 0, .bool false, .bool false, .int .i64 0, .bool false, .bool false] 43) : Calls Try.prog 11 #[.agg #[.bool false, .bool false, .bool false, .bool false, .bool false, .bool true, .bool false, .int .i64 0, .bool true, .bool false, .int .i64 7, .slice none 0 0], .slice (some ⟨g, 0, none⟩) 2 2, .agg #[.int .i64 5, .int .i64 0], .bool true] W fun e w' => e = .returned (.int .i64 3) ∧ Below W.heap.size W w' :=
  posig_to false false false false false true false 0 true false 7 (.slice none 0 0) (.slice (some ⟨g, 0, none⟩) 2 2) [tk0, tk0] 5 0 true W (TkB.els (show TkB W g [tk0, tk0] from h) 2 2 rfl) (by decide) (by decide) 3 (by decide)
theorem sm_not (W : World) (g : Nat) (h : Blk W g #[.bool false, .int .i64 0, .int .i64 0, .bool false, .int .i64 0, .int .i64 0, .bool false, .bool false, .int .i64 0, .bool false, .bool false, .bool false, .int .i64 0, .int .i64 0, .bool false, .int .i64 0, .int .i64 0, .bool false, .bool false, .int .i64 0, .bool false, .bool false] 43) : Calls Try.prog 11 #[.agg #[.bool false, .bool false, .bool false, .bool false, .bool false, .bool true, .bool false, .int .i64 0, .bool true, .bool false, .int .i64 7, .slice none 0 0], .slice (some ⟨g, 0, none⟩) 2 2, .agg #[.int .i64 5, .int .i64 0], .bool false] W fun e w' => e = .returned (.int .i64 0) ∧ Below W.heap.size W w' :=
  posig_to false false false false false true false 0 true false 7 (.slice none 0 0) (.slice (some ⟨g, 0, none⟩) 2 2) [tk0, tk0] 5 0 false W (TkB.els (show TkB W g [tk0, tk0] from h) 2 2 rfl) (by decide) (by decide) 0 (by decide)
theorem sm_exit (W : World) (g : Nat) (h : Blk W g #[.bool false, .int .i64 0, .int .i64 0, .bool false, .int .i64 0, .int .i64 0, .bool false, .bool false, .int .i64 0, .bool false, .bool false, .bool false, .int .i64 0, .int .i64 0, .bool false, .int .i64 0, .int .i64 0, .bool false, .bool false, .int .i64 0, .bool false, .bool false] 43) : Calls Try.prog 11 #[.agg #[.bool false, .bool false, .bool false, .bool false, .bool false, .bool true, .bool false, .int .i64 0, .bool true, .bool false, .int .i64 7, .slice none 0 0], .slice (some ⟨g, 0, none⟩) 2 2, .agg #[.int .i64 4, .int .i64 0], .bool true] W fun e w' => e = .returned (.int .i64 0) ∧ Below W.heap.size W w' :=
  posig_to false false false false false true false 0 true false 7 (.slice none 0 0) (.slice (some ⟨g, 0, none⟩) 2 2) [tk0, tk0] 4 0 true W (TkB.els (show TkB W g [tk0, tk0] from h) 2 2 rfl) (by decide) (by decide) 0 (by decide)
set_option maxHeartbeats 8000000 in
set_option maxRecDepth 10000 in
theorem small_true (w : World) : Calls Try.prog 8 #[] w fun e w' => e = .returned (.bool true) ∧ Below w.heap.size w w' := by
  have hs := ((Blks.nil w).new #[.bool false, .bool false, .bool false, .bool false, .bool false, .bool true, .bool false, .int .i64 0, .bool true, .bool false, .int .i64 7, .slice none 0 0] 26).new #[.bool false, .int .i64 0, .int .i64 0, .bool false, .int .i64 0, .int .i64 0, .bool false, .bool false, .int .i64 0, .bool false, .bool false, .bool false, .int .i64 0, .int .i64 0, .bool false, .int .i64 0, .int .i64 0, .bool false, .bool false, .int .i64 0, .bool false, .bool false] 43
  simp only [World.size_alloc] at hs
  have HS := Lib.hid hs
  have HB := Lib.hid (below_alloc (below_alloc (Below.refl _ w) (.cells #[.bool false, .bool false, .bool false, .bool false, .bool false, .bool true, .bool false, .int .i64 0, .bool true, .bool false, .int .i64 7, .slice none 0 0] 26)) (.cells #[.bool false, .int .i64 0, .int .i64 0, .bool false, .int .i64 0, .int .i64 0, .bool false, .bool false, .int .i64 0, .bool false, .bool false, .bool false, .int .i64 0, .int .i64 0, .bool false, .int .i64 0, .int .i64 0, .bool false, .bool false, .int .i64 0, .bool false, .bool false] 43))
  have E1 := eql_rd 6 1 6 1 true (by decide)
  have E2 := eql_tk false 0 0 false 0 0 false false 0 false false
  have E3 := field_outDead 0 false true true true true false true
  have E4 := field_outLights 0 false true true true true false true
  have E5 := field_ltEn false true true true true
  have E6 := field_outSig 0 false true true true true false true
  clear hs
  go_enter Try.func8, Try.ntmps8
  go_wp2_with fail
  (with_reducible refine (sm_one _).mono ?_)
  rintro e w1 ⟨g1, rfl, ht, hg, hb⟩
  replace HS := Lib.hid (((HS.out.below hb).add ht).new #[.int .i64 6, .int .i64 1] 29)
  replace HB := Lib.hid (below_alloc (below_call HB.out hb) (.cells #[.int .i64 6, .int .i64 1] 29))
  clear ht hg hb
  go_wp2_with fail
  (with_reducible refine (sm_two _).mono ?_)
  rintro e w2 ⟨g2, rfl, ht, hg, hb⟩
  replace HS := Lib.hid (((HS.out.below hb).add ht).new #[.int .i64 5, .int .i64 1] 29)
  replace HB := Lib.hid (below_alloc (below_call HB.out hb) (.cells #[.int .i64 5, .int .i64 1] 29))
  clear ht hg hb
  go_wp2_with fail
  (with_reducible refine (sm_three _).mono ?_)
  rintro e w3 ⟨g3, rfl, ht, hg, hb⟩
  replace HS := Lib.hid (((HS.out.below hb).add ht).new #[.int .i64 3, .int .i64 1] 29)
  replace HB := Lib.hid (below_alloc (below_call HB.out hb) (.cells #[.int .i64 3, .int .i64 1] 29))
  clear ht hg hb
  obtain ⟨i0, i1, i2, i3, i4, i5, i6, i7, i8, i9, i10, i11⟩ := cells12 (HS.out.at_ 7 rfl)
  go_wp2_with fail
  (with_reducible refine (sm_yes _ _ (HS.out.at_ 6 rfl)).mono ?_)
  rintro e w4 ⟨rfl, hb⟩
  replace HS := Lib.hid (HS.out.below hb)
  replace HB := Lib.hid (below_call HB.out hb)
  clear i0 i1 i2 i3 i4 i5 i6 i7 i8 i9 i10 i11 hb
  obtain ⟨i0, i1, i2, i3, i4, i5, i6, i7, i8, i9, i10, i11⟩ := cells12 (HS.out.at_ 7 rfl)
  go_wp2_with fail
  (with_reducible refine (sm_not _ _ (HS.out.at_ 6 rfl)).mono ?_)
  rintro e w5 ⟨rfl, hb⟩
  replace HS := Lib.hid (HS.out.below hb)
  replace HB := Lib.hid (below_call HB.out hb)
  clear i0 i1 i2 i3 i4 i5 i6 i7 i8 i9 i10 i11 hb
  obtain ⟨i0, i1, i2, i3, i4, i5, i6, i7, i8, i9, i10, i11⟩ := cells12 (HS.out.at_ 7 rfl)
  go_wp2_with fail
  (with_reducible refine (sm_exit _ _ (HS.out.at_ 6 rfl)).mono ?_)
  rintro e w6 ⟨rfl, hb⟩
  replace HS := Lib.hid (HS.out.below hb)
  replace HB := Lib.hid (below_call HB.out hb)
  clear i0 i1 i2 i3 i4 i5 i6 i7 i8 i9 i10 i11 hb
  obtain ⟨r0, r1⟩ := box2 (HS.out.at_ 4 rfl)
  have x3 := (HS.out.at_ 5 rfl).cell 3 rfl
  have x6 := (HS.out.at_ 5 rfl).cell 6 rfl
  have x14 := (HS.out.at_ 5 rfl).cell 14 rfl
  have s0 := (HS.out.at_ 2 rfl).cell 0 rfl
  have u0 := (HS.out.at_ 0 rfl).cell 0 rfl
  have z0 := (HS.out.at_ 1 rfl).cell 0 rfl
  have z1 := (HS.out.at_ 1 rfl).cell 1 rfl
  have z2 := (HS.out.at_ 1 rfl).cell 2 rfl
  have z3 := (HS.out.at_ 1 rfl).cell 3 rfl
  have z4 := (HS.out.at_ 1 rfl).cell 4 rfl
  have z5 := (HS.out.at_ 1 rfl).cell 5 rfl
  have z6 := (HS.out.at_ 1 rfl).cell 6 rfl
  have z7 := (HS.out.at_ 1 rfl).cell 7 rfl
  have z8 := (HS.out.at_ 1 rfl).cell 8 rfl
  have z9 := (HS.out.at_ 1 rfl).cell 9 rfl
  have z10 := (HS.out.at_ 1 rfl).cell 10 rfl
  go_wp2_with fail
  (with_reducible refine (stop_to _).mono ?_)
  rintro e w7 ⟨rfl, hb⟩
  replace HB := Lib.hid (below_call HB.out hb)
  clear hb HS r0 r1 x3 x6 x14 s0 u0 z0 z1 z2 z3 z4 z5 z6 z7 z8 z9 z10
  go_wp2_with fail
  (with_reducible refine (stop_to _).mono ?_)
  rintro e w8 ⟨rfl, hb⟩
  replace HB := Lib.hid (below_call HB.out hb)
  clear hb
  go_wp2_with fail
  (with_reducible refine (stop_to _).mono ?_)
  rintro e w9 ⟨rfl, hb⟩
  replace HB := Lib.hid (below_call HB.out hb)
  clear hb
  go_wp2_with fail
  go_ret
  exact ⟨rfl, HB.out⟩
end Go.Proofs.Ytgkihalokedmaaa

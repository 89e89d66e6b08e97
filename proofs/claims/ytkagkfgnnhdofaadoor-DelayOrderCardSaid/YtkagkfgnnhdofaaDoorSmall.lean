/-
  The walk of crossbucklaw09.small: true.
-/
import Derived.Test.YtkagkfgnnhdofaaDoorCfCross
import Derived.Test.YtkagkfgnnhdofaaDoorDlTab
import Derived.Test.YtkagkfgnnhdofaaDoorArr3
namespace Go.Proofs.YtkagkfgnnhdofaaDoor
open Go.RowKit

theorem ofs_small : tr3 (ofs ⟨1000, 500, 10, 20, 40⟩ 30) = #[.int .i64 70, .int .i64 20, .int .i64 0] := by
  have h0 : ofs ⟨1000, 500, 10, 20, 40⟩ 30 0 = 70 := by decide
  have h1 : ofs ⟨1000, 500, 10, 20, 40⟩ 30 1 = 20 := by decide
  have h2 : ofs ⟨1000, 500, 10, 20, 40⟩ 30 2 = 0 := by decide
  rw [tr3, h0, h1, h2]
theorem table_two (a : Option Addr) (c : Nat) (w : World) (h : Els RLn 5 w (.slice a 2 c) (ones 2)) : Calls Tryd.prog 17 #[.agg (cft (.slice a 2 c) 30)] w fun e w' => ∃ g, e = .returned (.tuple #[.slice (some ⟨g, 0, none⟩) 2 2, .nilIface]) ∧ Below w.heap.size w w' :=
  (table_yes (.slice a 2 c) (fun _ => 30) (ones 2) (ones_ok.2 (by omega)) w h).mono fun e w' ⟨g, he, _, hb⟩ => ⟨g, he, hb⟩
theorem bound_one (a : Option Addr) (c : Nat) (w : World) (h : Els RLn 5 w (.slice a 1 c) (ones 1)) : Calls Tryd.prog 19 #[.agg (cft (.slice a 1 c) 5)] w fun e w' => e = .returned (.tuple #[.int .i64 28, .nilIface]) ∧ Below w.heap.size w w' :=
  bound_yes (.slice a 1 c) (fun _ => 5) (ones 1) (ones_ok.2 (by omega)) w h

theorem cross_two (w : World) : Calls Tryd.prog 24 #[.int .i64 2, .int .i64 30] w fun e w' => ∃ a c, e = .returned (.agg (cft (.slice a 2 c) 30)) ∧ Els RLn 5 w' (.slice a 2 c) (ones 2) ∧ Below w.heap.size w w' := crossing_any 2 (by decide) 30 w
theorem cross_one (w : World) : Calls Tryd.prog 24 #[.int .i64 1, .int .i64 5] w fun e w' => ∃ a c, e = .returned (.agg (cft (.slice a 1 c) 5)) ∧ Els RLn 5 w' (.slice a 1 c) (ones 1) ∧ Below w.heap.size w w' := crossing_any 1 (by decide) 5 w
set_option maxHeartbeats 4000000 in
theorem small_true (w : World) : Calls Tryd.prog 9 #[] w fun e w' => e = .returned (.bool true) ∧ Below w.heap.size w w' := by
  have HA := Lib.hid (fun w => dladd_no 9223372036854775807 1 (by omega) (by omega) (by omega) w)
  have HM := Lib.hid (fun w => dlmul_no 1099511627776 8388608 (by omega) (by omega) (by omega) w)
  have HN := Lib.hid (fun w => dlmul_yes (-1099511627776) 8388608 (by omega) (by omega) w)
  have HW := Lib.hid (fun w => dlway_yes 1001 10 (by omega) (by omega) w)
  have HV := Lib.hid (fun w => dlway_no 1 0 (by omega) w)
  have HO := Lib.hid (fun w => of_any ⟨1000, 500, 10, 20, 40⟩ 30 (by decide) (by decide) w)
  rw [ofs_small] at HO
  dsimp only at HO
  go_enter Tryd.func9, Tryd.ntmps9
  have HB0 := Lib.hid (below_alloc (Below.refl _ w) (.cells #[.int .i64 1000, .int .i64 500, .int .i64 10, .int .i64 20, .int .i64 40] 34))
  have HL0 := Lib.hid (blk_new w #[.int .i64 1000, .int .i64 500, .int .i64 10, .int .i64 20, .int .i64 40] 34)
  go_wp2_with fail
  (with_reducible refine (HA.out _).mono ?_)
  rintro e w1 ⟨r1, rfl, he, hb⟩
  have HE1 := Lib.hid he
  have HB1 := Lib.hid (below_call HB0.out hb)
  have HL1 := Lib.hid (HL0.out.below hb)
  clear he hb HB0 HL0 HA
  go_wp2_with fail
  (with_reducible refine (HM.out _).mono ?_)
  rintro e w2 ⟨r2, rfl, he, hb⟩
  have HF2 := Lib.hid he
  have HE2 := Lib.hid (HE1.out.below hb)
  have HB2 := Lib.hid (below_call HB1.out hb)
  have HL2 := Lib.hid (HL1.out.below hb)
  clear he hb HE1 HB1 HL1 HM
  go_wp2_with fail
  (with_reducible refine (HN.out _).mono ?_)
  rintro e w3 ⟨rfl, rfl⟩
  go_wp2_with fail
  (with_reducible refine (HW.out _).mono ?_)
  rintro e w3 ⟨rfl, rfl⟩
  go_wp2_with fail
  (with_reducible refine (HV.out _).mono ?_)
  rintro e w4 ⟨r4, rfl, he, hb⟩
  have HI4 := Lib.hid he
  have HE4 := Lib.hid (HE2.out.below hb)
  have HF4 := Lib.hid (HF2.out.below hb)
  have HB4 := Lib.hid (below_call HB2.out hb)
  have HL4 := Lib.hid (HL2.out.below hb)
  clear he hb HE2 HF2 HB2 HL2 HN HW HV
  go_wp2_with fail
  (with_reducible refine (cross_two _).mono ?_)
  rintro e w5 ⟨a5, c5, rfl, hx, hb⟩
  have HX5 := Lib.hid hx
  have HI5 := Lib.hid (HI4.out.below hb)
  have HE5 := Lib.hid (HE4.out.below hb)
  have HF5 := Lib.hid (HF4.out.below hb)
  have HB5 := Lib.hid (below_call HB4.out hb)
  have HL5 := Lib.hid (HL4.out.below hb)
  clear hx hb HI4 HE4 HF4 HB4 HL4
  go_wp2_with fail
  (with_reducible refine (table_two _ _ _ HX5.out).mono ?_)
  rintro e w6 ⟨g6, rfl, hb⟩
  have HI6 := Lib.hid (HI5.out.below hb)
  have HE6 := Lib.hid (HE5.out.below hb)
  have HF6 := Lib.hid (HF5.out.below hb)
  have HB6 := Lib.hid (below_call HB5.out hb)
  have HL6 := Lib.hid (HL5.out.below hb)
  clear hb HI5 HE5 HF5 HB5 HL5 HX5
  go_wp2_with fail
  (with_reducible refine (cross_one _).mono ?_)
  rintro e w7 ⟨a7, c7, rfl, hx, hb⟩
  have HX7 := Lib.hid hx
  have HI7 := Lib.hid (HI6.out.below hb)
  have HE7 := Lib.hid (HE6.out.below hb)
  have HF7 := Lib.hid (HF6.out.below hb)
  have HB7 := Lib.hid (below_call HB6.out hb)
  have HL7 := Lib.hid (HL6.out.below hb)
  clear hx hb HI6 HE6 HF6 HB6 HL6
  go_wp2_with fail
  (with_reducible refine (bound_one _ _ _ HX7.out).mono ?_)
  rintro e w8 ⟨rfl, hb⟩
  have HI8 := Lib.hid (HI7.out.below hb)
  have HE8 := Lib.hid (HE7.out.below hb)
  have HF8 := Lib.hid (HF7.out.below hb)
  have HB8 := Lib.hid (below_call HB7.out hb)
  have HL8 := Lib.hid (HL7.out.below hb)
  clear hb HI7 HE7 HF7 HB7 HL7 HX7
  have l0 := HL8.out.cell 0 (u := .int .i64 1000) rfl
  have l1 := HL8.out.cell 1 (u := .int .i64 500) rfl
  have l2 := HL8.out.cell 2 (u := .int .i64 10) rfl
  have l3 := HL8.out.cell 3 (u := .int .i64 20) rfl
  have l4 := HL8.out.cell 4 (u := .int .i64 40) rfl
  go_wp2_with fail
  (with_reducible refine (HO.out _).mono ?_)
  rintro e w9 ⟨rfl, hb⟩
  have HI9 := Lib.hid (HI8.out.below hb)
  have HE9 := Lib.hid (HE8.out.below hb)
  have HF9 := Lib.hid (HF8.out.below hb)
  have HB9 := Lib.hid (below_call HB8.out hb)
  clear hb HI8 HE8 HF8 HB8 HL8 l0 l1 l2 l3 l4 HO
  have hq := eql_arr3 70 20 0 70 20 0 true rfl
  go_wp2_with fail
  (with_reducible refine (code_err HE9.out).mono ?_)
  rintro e w10 ⟨rfl, rfl⟩
  go_wp2_with fail
  (with_reducible refine (code_err HF9.out).mono ?_)
  rintro e w10 ⟨rfl, rfl⟩
  go_wp2_with fail
  (with_reducible refine (code_err HI9.out).mono ?_)
  rintro e w10 ⟨rfl, rfl⟩
  go_wp2_with fail
  go_ret
  exact ⟨rfl, HB9.out⟩
end Go.Proofs.YtkagkfgnnhdofaaDoor

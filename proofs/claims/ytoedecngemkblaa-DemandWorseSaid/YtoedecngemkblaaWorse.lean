/-
  The walk of crossbucklaw19.DemandWorse: true, whatever it is given.
-/
import Derived.Test.YtoedecngemkblaaSmall
import Derived.Lib.QuietBelow
import Derived.BigQuiet
import Derived.Deep.CutRange
import Derived.Deep.DeepCutAuto
namespace Go.Proofs.Ytoedecngemkblaa
open Go.RowKit

set_option maxHeartbeats 1000000 in
theorem worse_out (a b c d s l o : Bool) (m : Int) (mn ba : Bool) (r : Int) (ta : Option Addr) (tn tc : Nat) (a0 : Option Addr) (K c0 : Nat) (lk op : Bool) (w : World) (h : 100 < K) : Calls Try.prog 6 #[.agg #[.bool a, .bool b, .bool c, .bool d, .bool s, .bool l, .bool o, .int .i64 m, .bool mn, .bool ba, .int .i64 r, .slice ta tn tc], .slice a0 K c0, .bool lk, .bool op] w fun e w' => e = .returned (.bool true) ∧ Below w.heap.size w w' := by
  have HB0 := Lib.hid (below_alloc (Below.refl _ w) (.cells #[.bool a, .bool b, .bool c, .bool d, .bool s, .bool l, .bool o, .int .i64 m, .bool mn, .bool ba, .int .i64 r, .slice ta tn tc] 26))
  have h1 : 100 < (K : Int) := by omega
  clear h
  go_enter Try.func6, Try.ntmps6
  go_wp2_with fail
  (with_reducible refine (small_true _).mono ?_)
  rintro e w1 ⟨rfl, hb⟩
  have HB1 := Lib.hid (below_call HB0.out hb)
  clear hb
  go_wp2_with fail
  go_ret
  exact ⟨rfl, HB1.out⟩
set_option maxHeartbeats 4000000 in
set_option maxRecDepth 10000 in
theorem worse_main (a b c d s l o : Bool) (m : Int) (mn ba : Bool) (r : Int) (ta : Option Addr) (tn tc : Nat) (a0 : Option Addr) (K c0 : Nat) (ls : List Tk) (lk op : Bool) (w : World) (hv : Els RTk 11 w (.slice a0 K c0) ls) (hK : K = ls.length) (h : K ≤ 100) : Calls Try.prog 6 #[.agg #[.bool a, .bool b, .bool c, .bool d, .bool s, .bool l, .bool o, .int .i64 m, .bool mn, .bool ba, .int .i64 r, .slice ta tn tc], .slice a0 K c0, .bool lk, .bool op] w fun e w' => e = .returned (.bool true) ∧ Below w.heap.size w w' := by
  have HB0 := Lib.hid (below_alloc (Below.refl _ w) (.cells #[.bool a, .bool b, .bool c, .bool d, .bool s, .bool l, .bool o, .int .i64 m, .bool mn, .bool ba, .int .i64 r, .slice ta tn tc] 26))
  have HX0 := Lib.hid (box12 a b c d s l o m mn ba r (.slice ta tn tc) w)
  have HV := Lib.hid hv
  have HM := Lib.hid (show ls.length ≤ maxLen by unfold maxLen; omega)
  have h1 : ¬ 100 < (K : Int) := by omega
  obtain ⟨z, hz⟩ : ∃ z, z = K := ⟨_, rfl⟩
  have E1 := eql_dms true true
  have HE := Lib.hid (fun (W : World) (hW : Below w.heap.size w W) (lk op : Bool) => And.intro (of_to a b c d s l o m false ba r (.slice ta tn tc) _ ls W (HV.out.below (fun _ _ _ h => h.below hW)) HM.out lk op true true (by simp [dgood]) rfl) (And.intro (of_to a b c d s false o m mn ba r (.slice ta tn tc) _ ls W (HV.out.below (fun _ _ _ h => h.below hW)) HM.out lk op true true (by simp [dgood]) rfl) (of_to a b c d s l o 1 mn ba r (.slice ta tn tc) _ ls W (HV.out.below (fun _ _ _ h => h.below hW)) HM.out lk op true true (by simp [dgood]) rfl)))
  clear hv hK h hz
  go_enter Try.func6, Try.ntmps6
  go_wp2_with fail
  (with_reducible refine (small_true _).mono ?_)
  rintro e w1 ⟨rfl, hb⟩
  have HB := Lib.hid (below_call HB0.out hb)
  have HX := Lib.hid (HX0.out.below hb)
  clear hb HB0 HX0
  obtain ⟨x0, x1, x2, x3, x4, x5, x6, x7, x8, x9, x10, x11⟩ := cells12 HX.out
  clear x0 x1 x2 x3 x4 x5 x6 x7 x8 x9 x10 x11
  have k1 := below_alloc (Below.refl _ w1) (.cells #[.bool true, .bool true] 31)
  have k2 := below_alloc (Below.refl _ (w1.alloc (.cells #[.bool true, .bool true] 31))) (.cells #[.bool a, .bool b, .bool c, .bool d, .bool s, .bool l, .bool o, .int .i64 m, .bool false, .bool ba, .int .i64 r, .slice ta tn tc] 26)
  have k3 := below_alloc (Below.refl _ ((w1.alloc (.cells #[.bool true, .bool true] 31)).alloc (.cells #[.bool a, .bool b, .bool c, .bool d, .bool s, .bool l, .bool o, .int .i64 m, .bool false, .bool ba, .int .i64 r, .slice ta tn tc] 26))) (.cells #[.bool a, .bool b, .bool c, .bool d, .bool s, .bool false, .bool o, .int .i64 m, .bool mn, .bool ba, .int .i64 r, .slice ta tn tc] 26)
  have k4 := below_alloc (Below.refl _ (((w1.alloc (.cells #[.bool true, .bool true] 31)).alloc (.cells #[.bool a, .bool b, .bool c, .bool d, .bool s, .bool l, .bool o, .int .i64 m, .bool false, .bool ba, .int .i64 r, .slice ta tn tc] 26)).alloc (.cells #[.bool a, .bool b, .bool c, .bool d, .bool s, .bool false, .bool o, .int .i64 m, .bool mn, .bool ba, .int .i64 r, .slice ta tn tc] 26))) (.cells #[.bool a, .bool b, .bool c, .bool d, .bool s, .bool l, .bool o, .int .i64 1, .bool mn, .bool ba, .int .i64 r, .slice ta tn tc] 26)
  have X1 := HX.out.below k1
  have X2 := X1.below k2
  have X3 := X2.below k3
  have b0 := blk_new w1 #[.bool true, .bool true] 31
  have b1 := blk_new (w1.alloc (.cells #[.bool true, .bool true] 31)) #[.bool a, .bool b, .bool c, .bool d, .bool s, .bool l, .bool o, .int .i64 m, .bool false, .bool ba, .int .i64 r, .slice ta tn tc] 26
  have b2 := blk_new ((w1.alloc (.cells #[.bool true, .bool true] 31)).alloc (.cells #[.bool a, .bool b, .bool c, .bool d, .bool s, .bool l, .bool o, .int .i64 m, .bool false, .bool ba, .int .i64 r, .slice ta tn tc] 26)) #[.bool a, .bool b, .bool c, .bool d, .bool s, .bool false, .bool o, .int .i64 m, .bool mn, .bool ba, .int .i64 r, .slice ta tn tc] 26
  have b3 := blk_new (((w1.alloc (.cells #[.bool true, .bool true] 31)).alloc (.cells #[.bool a, .bool b, .bool c, .bool d, .bool s, .bool l, .bool o, .int .i64 m, .bool false, .bool ba, .int .i64 r, .slice ta tn tc] 26)).alloc (.cells #[.bool a, .bool b, .bool c, .bool d, .bool s, .bool false, .bool o, .int .i64 m, .bool mn, .bool ba, .int .i64 r, .slice ta tn tc] 26)) #[.bool a, .bool b, .bool c, .bool d, .bool s, .bool l, .bool o, .int .i64 1, .bool mn, .bool ba, .int .i64 r, .slice ta tn tc] 26
  simp only [World.size_alloc] at b1 b2 b3
  have HQ := Lib.hid (((b0.below k2).below k3).below k4)
  have HA := Lib.hid ((b1.below k3).below k4)
  have HBB := Lib.hid (b2.below k4)
  have HC := Lib.hid b3
  replace HB := Lib.hid (below_alloc (below_alloc (below_alloc (below_alloc HB.out (.cells #[.bool true, .bool true] 31)) (.cells #[.bool a, .bool b, .bool c, .bool d, .bool s, .bool l, .bool o, .int .i64 m, .bool false, .bool ba, .int .i64 r, .slice ta tn tc] 26)) (.cells #[.bool a, .bool b, .bool c, .bool d, .bool s, .bool false, .bool o, .int .i64 m, .bool mn, .bool ba, .int .i64 r, .slice ta tn tc] 26)) (.cells #[.bool a, .bool b, .bool c, .bool d, .bool s, .bool l, .bool o, .int .i64 1, .bool mn, .bool ba, .int .i64 r, .slice ta tn tc] 26))
  obtain ⟨x0, x1, x2, x3, x4, x5, x6, x7, x8, x9, x10, x11⟩ := cells12 X1
  obtain ⟨y0, y1, y2, y3, y4, y5, y6, y7, y8, y9, y10, y11⟩ := cells12 X2
  obtain ⟨z0, z1, z2, z3, z4, z5, z6, z7, z8, z9, z10, z11⟩ := cells12 X3
  clear k1 k2 k3 k4 X1 X2 X3 b0 b1 b2 b3 HX
  go_wp2_with fail
  generalize ((((w1.alloc (.cells #[.bool true, .bool true] 31)).alloc (.cells #[.bool a, .bool b, .bool c, .bool d, .bool s, .bool l, .bool o, .int .i64 m, .bool false, .bool ba, .int .i64 r, .slice ta tn tc] 26)).alloc (.cells #[.bool a, .bool b, .bool c, .bool d, .bool s, .bool false, .bool o, .int .i64 m, .bool mn, .bool ba, .int .i64 r, .slice ta tn tc] 26)).alloc (.cells #[.bool a, .bool b, .bool c, .bool d, .bool s, .bool l, .bool o, .int .i64 1, .bool mn, .bool ba, .int .i64 r, .slice ta tn tc] 26)) = w5 at *
  clear x0 x1 x2 x3 x4 x5 x6 x7 x8 x9 x10 x11 y0 y1 y2 y3 y4 y5 y6 y7 y8 y9 y10 y11 z0 z1 z2 z3 z4 z5 z6 z7 z8 z9 z10 z11
  have HR := Lib.hid (fun (d' : Nat) (os : Array Obj) => HE.out (Go.Sort.grow (redrawn w5 d') os) (HB.out.trans ((below_regrown w5 d' os).mono HB.out.size)) lk op)
  have H1 := Lib.hid (fun (d' : Nat) (os : Array Obj) => (HR.out d' os).1)
  have H2 := Lib.hid (fun (d' : Nat) (os : Array Obj) => (HR.out d' os).2.1)
  have H3 := Lib.hid (fun (d' : Nat) (os : Array Obj) => (HR.out d' os).2.2)
  clear HR HE HV HM
  obtain ⟨t0, t1⟩ := two_cells HQ.out
  replace t0 := cell_regrown t0
  replace t1 := cell_regrown t1
  obtain ⟨x0, x1, x2, x3, x4, x5, x6, x7, x8, x9, x10, x11⟩ := cells12 HA.out
  replace x0 := cell_regrown x0
  replace x1 := cell_regrown x1
  replace x2 := cell_regrown x2
  replace x3 := cell_regrown x3
  replace x4 := cell_regrown x4
  replace x5 := cell_regrown x5
  replace x6 := cell_regrown x6
  replace x7 := cell_regrown x7
  replace x8 := cell_regrown x8
  replace x9 := cell_regrown x9
  replace x10 := cell_regrown x10
  replace x11 := cell_regrown x11
  obtain ⟨y0, y1, y2, y3, y4, y5, y6, y7, y8, y9, y10, y11⟩ := cells12 HBB.out
  replace y0 := cell_regrown y0
  replace y1 := cell_regrown y1
  replace y2 := cell_regrown y2
  replace y3 := cell_regrown y3
  replace y4 := cell_regrown y4
  replace y5 := cell_regrown y5
  replace y6 := cell_regrown y6
  replace y7 := cell_regrown y7
  replace y8 := cell_regrown y8
  replace y9 := cell_regrown y9
  replace y10 := cell_regrown y10
  replace y11 := cell_regrown y11
  obtain ⟨z0, z1, z2, z3, z4, z5, z6, z7, z8, z9, z10, z11⟩ := cells12 HC.out
  replace z0 := cell_regrown z0
  replace z1 := cell_regrown z1
  replace z2 := cell_regrown z2
  replace z3 := cell_regrown z3
  replace z4 := cell_regrown z4
  replace z5 := cell_regrown z5
  replace z6 := cell_regrown z6
  replace z7 := cell_regrown z7
  replace z8 := cell_regrown z8
  replace z9 := cell_regrown z9
  replace z10 := cell_regrown z10
  replace z11 := cell_regrown z11
  refine wp_region_quiet_below (by kernel_rfl) (by kernel_rfl) ?_
  repeat (go_big_quiet_step (first | (with_reducible exact Calls.regrown_of (H1.out _ _)) | (with_reducible exact Calls.regrown_of (H2.out _ _)) | (with_reducible exact Calls.regrown_of (H3.out _ _))))
  refine wpQuiet_nil ?_
  intro _ hw'
  obtain ⟨⟨dq, osq⟩, hw''⟩ := hw'
  subst hw''
  clear t0 t1 x0 x1 x2 x3 x4 x5 x6 x7 x8 x9 x10 x11 y0 y1 y2 y3 y4 y5 y6 y7 y8 y9 y10 y11 z0 z1 z2 z3 z4 z5 z6 z7 z8 z9 z10 z11
  go_wp2_with fail
  go_ret
  exact ⟨rfl, below_call HB.out (below_regrown _ dq osq)⟩
theorem worse_any (a b c d s l o : Bool) (m : Int) (mn ba : Bool) (r : Int) (ta : Option Addr) (tn tc : Nat) (v : Value) (ls : List Tk) (lk op : Bool) (w : World) (hv : Els RTk 11 w v ls) : Calls Try.prog 6 #[.agg #[.bool a, .bool b, .bool c, .bool d, .bool s, .bool l, .bool o, .int .i64 m, .bool mn, .bool ba, .int .i64 r, .slice ta tn tc], v, .bool lk, .bool op] w fun e w' => e = .returned (.bool true) ∧ Below w.heap.size w w' := by
  obtain ⟨a0, c0, rfl⟩ := hv.len
  obtain ⟨K, hK⟩ : ∃ n, n = ls.length := ⟨_, rfl⟩
  rw [← hK] at hv ⊢
  by_cases h : 100 < K
  · exact worse_out a b c d s l o m mn ba r ta tn tc a0 K c0 lk op w h
  · exact worse_main a b c d s l o m mn ba r ta tn tc a0 K c0 ls lk op w hv hK (by omega)
end Go.Proofs.Ytoedecngemkblaa

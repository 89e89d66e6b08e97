/-
  The walk of crossbucklaw19.DemandTells: true, whatever it is given.
-/
import Derived.Test.YtoedecngemkblaaSmall
import Derived.Test.YtoedecngemkblaaDmRef
import Derived.Lib.QuietBelow
import Derived.BigQuiet
namespace Go.Proofs.Ytoedecngemkblaa
open Go.RowKit

set_option maxHeartbeats 1000000 in
theorem tells_out (a b c d s l o : Bool) (m : Int) (mn ba : Bool) (r : Int) (tv : Value) (a0 : Option Addr) (K c0 : Nat) (lk op : Bool) (w : World) (h : 100 < K) : Calls Try.prog 3 #[.agg #[.bool a, .bool b, .bool c, .bool d, .bool s, .bool l, .bool o, .int .i64 m, .bool mn, .bool ba, .int .i64 r, tv], .slice a0 K c0, .bool lk, .bool op] w fun e w' => e = .returned (.bool true) ∧ Below w.heap.size w w' := by
  have HB0 := Lib.hid (below_alloc (Below.refl _ w) (.cells #[.bool a, .bool b, .bool c, .bool d, .bool s, .bool l, .bool o, .int .i64 m, .bool mn, .bool ba, .int .i64 r, tv] 26))
  have h1 : 100 < (K : Int) := by omega
  clear h
  go_enter Try.func3, Try.ntmps3
  go_wp2_with fail
  (with_reducible refine (small_true _).mono ?_)
  rintro e w1 ⟨rfl, hb⟩
  have HB1 := Lib.hid (below_call HB0.out hb)
  clear hb
  go_wp2_with fail
  go_ret
  exact ⟨rfl, HB1.out⟩
set_option maxHeartbeats 4000000 in
set_option maxRecDepth 10000 in
theorem tells_main (a b c d s l o : Bool) (m : Int) (mn ba : Bool) (r : Int) (tv : Value) (a0 : Option Addr) (K c0 : Nat) (ls : List Tk) (lk op : Bool) (w : World) (hv : Els RTk 11 w (.slice a0 K c0) ls) (hK : K = ls.length) (h : K ≤ 100) : Calls Try.prog 3 #[.agg #[.bool a, .bool b, .bool c, .bool d, .bool s, .bool l, .bool o, .int .i64 m, .bool mn, .bool ba, .int .i64 r, tv], .slice a0 K c0, .bool lk, .bool op] w fun e w' => e = .returned (.bool true) ∧ Below w.heap.size w w' := by
  have HB0 := Lib.hid (below_alloc (Below.refl _ w) (.cells #[.bool a, .bool b, .bool c, .bool d, .bool s, .bool l, .bool o, .int .i64 m, .bool mn, .bool ba, .int .i64 r, tv] 26))
  have HX0 := Lib.hid (box12 a b c d s l o m mn ba r tv w)
  have HV := Lib.hid hv
  have HM := Lib.hid (show ls.length ≤ maxLen by unfold maxLen; omega)
  have h1 : ¬ 100 < (K : Int) := by omega
  obtain ⟨q, hq⟩ : ∃ q, dgood m mn l ls = q := ⟨_, rfl⟩
  obtain ⟨u, hu⟩ : ∃ u, (!dgood m mn l ls) = u := ⟨_, rfl⟩
  obtain ⟨z, hz⟩ : ∃ z, dshut u r ls lk op = z := ⟨_, rfl⟩
  have HE := Lib.hid (fun (W : World) (hW : Below w.heap.size w W) => And.intro (good_to a b c d s l o m mn ba r tv _ ls W (HV.out.below (fun _ _ _ h => h.below hW)) HM.out q hq) (And.intro (rgood_to a b c d s l o m mn ba r tv _ ls W (HV.out.below (fun _ _ _ h => h.below hW)) HM.out q hq) (And.intro (of_to a b c d s l o m mn ba r tv _ ls W (HV.out.below (fun _ _ _ h => h.below hW)) HM.out lk op u z hu hz) (rof_to a b c d s l o m mn ba r tv _ ls W (HV.out.below (fun _ _ _ h => h.below hW)) HM.out lk op u z hu hz))))
  clear hv hK h hq hu hz
  go_enter Try.func3, Try.ntmps3
  go_wp2_with fail
  (with_reducible refine (small_true _).mono ?_)
  rintro e w1 ⟨rfl, hb⟩
  have HB := Lib.hid (below_call HB0.out hb)
  have HX := Lib.hid (HX0.out.below hb)
  clear hb HB0 HX0
  obtain ⟨x0, x1, x2, x3, x4, x5, x6, x7, x8, x9, x10, x11⟩ := cells12 HX.out
  have HR := Lib.hid (fun (d' : Nat) (os : Array Obj) => HE.out (Go.Sort.grow (redrawn w1 d') os) (HB.out.trans ((below_regrown w1 d' os).mono HB.out.size)))
  have H1 := Lib.hid (fun (d' : Nat) (os : Array Obj) => (HR.out d' os).1)
  have H2 := Lib.hid (fun (d' : Nat) (os : Array Obj) => (HR.out d' os).2.1)
  have H3 := Lib.hid (fun (d' : Nat) (os : Array Obj) => (HR.out d' os).2.2.1)
  have H4 := Lib.hid (fun (d' : Nat) (os : Array Obj) => (HR.out d' os).2.2.2)
  have q0 : (q == q) = true := by simp
  have q1 := eql_dms z u
  clear HR HE HV HM HX
  go_wp2_with fail
  replace x0 := cell_regrown x0
  replace x1 := cell_regrown x1
  replace x2 := cell_regrown x2
  replace x3 := cell_regrown x3
  replace x4 := cell_regrown x4
  replace x5 := cell_regrown x5
  replace x6 := cell_regrown x6
  replace x7 := cell_regrown x7
  replace x8 := cell_regrown x8
  replace x9 := cell_regrown x9
  replace x10 := cell_regrown x10
  replace x11 := cell_regrown x11
  refine wp_region_quiet_below (by kernel_rfl) (by kernel_rfl) ?_
  repeat (go_big_quiet_step (first | (with_reducible exact Calls.regrown_of (H1.out _ _)) | (with_reducible exact Calls.regrown_of (H2.out _ _)) | (with_reducible exact Calls.regrown_of (H3.out _ _)) | (with_reducible exact Calls.regrown_of (H4.out _ _))))
  refine wpQuiet_nil ?_
  intro _ hw'
  obtain ⟨⟨dq, osq⟩, hw''⟩ := hw'
  subst hw''
  clear x0 x1 x2 x3 x4 x5 x6 x7 x8 x9 x10 x11
  go_wp2_with fail
  go_ret
  exact ⟨rfl, below_call HB.out (below_regrown _ dq osq)⟩
theorem tells_any (a b c d s l o : Bool) (m : Int) (mn ba : Bool) (r : Int) (tv : Value) (v : Value) (ls : List Tk) (lk op : Bool) (w : World) (hv : Els RTk 11 w v ls) : Calls Try.prog 3 #[.agg #[.bool a, .bool b, .bool c, .bool d, .bool s, .bool l, .bool o, .int .i64 m, .bool mn, .bool ba, .int .i64 r, tv], v, .bool lk, .bool op] w fun e w' => e = .returned (.bool true) ∧ Below w.heap.size w w' := by
  obtain ⟨a0, c0, rfl⟩ := hv.len
  obtain ⟨K, hK⟩ : ∃ n, n = ls.length := ⟨_, rfl⟩
  rw [← hK] at hv ⊢
  by_cases h : 100 < K
  · exact tells_out a b c d s l o m mn ba r tv a0 K c0 lk op w h
  · exact tells_main a b c d s l o m mn ba r tv a0 K c0 ls lk op w hv hK (by omega)
end Go.Proofs.Ytoedecngemkblaa

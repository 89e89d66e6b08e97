/-
  The walk of crossbucklaw23.PolicyStops: true, whatever it is given.
-/
import Derived.Test.YtgkihalokedmaaaSmall
import Derived.Lib.QuietBelow
import Derived.BigQuiet
namespace Go.Proofs.Ytgkihalokedmaaa
open Go.RowKit

set_option maxHeartbeats 4000000 in
set_option maxRecDepth 10000 in
theorem stops_out (a b c d s l o : Bool) (m : Int) (mn ba : Bool) (r : Int) (tv : Value) (a0 : Option Addr) (K c0 : Nat) (w : World) (h : 100 < K) : Calls Try.prog 6 #[.agg #[.bool a, .bool b, .bool c, .bool d, .bool s, .bool l, .bool o, .int .i64 m, .bool mn, .bool ba, .int .i64 r, tv], .slice a0 K c0] w fun e w' => e = .returned (.bool true) ∧ Below w.heap.size w w' := by
  have HB0 := Lib.hid (below_alloc (Below.refl _ w) (.cells #[.bool a, .bool b, .bool c, .bool d, .bool s, .bool l, .bool o, .int .i64 m, .bool mn, .bool ba, .int .i64 r, tv] 26))
  have h1 : 100 < (K : Int) := by omega
  clear h
  go_enter Try.func6, Try.ntmps6
  go_wp2_with fail
  (with_reducible refine (small_true _).mono ?_)
  rintro e w1 ⟨rfl, hb⟩
  have HB1 := Lib.hid (below_call HB0.out hb)
  clear hb
  go_wp2_with fail
  go_ret
  exact ⟨rfl, HB1.out⟩
set_option maxHeartbeats 4000000 in
set_option maxRecDepth 10000 in
theorem stops_main (a b c d s l o : Bool) (m : Int) (mn ba : Bool) (r : Int) (tv : Value) (a0 : Option Addr) (K c0 : Nat) (ls : List Tk) (w : World) (hv : Els RTk 11 w (.slice a0 K c0) ls) (hr : r ≤ 9223372036854775807) (h : K ≤ 100) (hK : K = ls.length) : Calls Try.prog 6 #[.agg #[.bool a, .bool b, .bool c, .bool d, .bool s, .bool l, .bool o, .int .i64 m, .bool mn, .bool ba, .int .i64 r, tv], .slice a0 K c0] w fun e w' => e = .returned (.bool true) ∧ Below w.heap.size w w' := by
  have HB0 := Lib.hid (below_alloc (Below.refl _ w) (.cells #[.bool a, .bool b, .bool c, .bool d, .bool s, .bool l, .bool o, .int .i64 m, .bool mn, .bool ba, .int .i64 r, tv] 26))
  have HX0 := Lib.hid (box12 a b c d s l o m mn ba r tv w)
  have HV := Lib.hid hv
  have HM := Lib.hid (show ls.length ≤ maxLen by unfold maxLen; omega)
  have h1 : ¬ 100 < (K : Int) := by omega
  have HE := Lib.hid (fun (W : World) (hW : Below w.heap.size w W) => posig_to a b c d s l o m mn ba r tv _ ls 7 1 true W (HV.out.below (fun _ _ _ h => h.below hW)) HM.out hr 0 (by unfold posig; rw [if_neg (fun h => absurd h.1 (by decide))]))
  clear hv hK h hr
  go_enter Try.func6, Try.ntmps6
  go_wp2_with fail
  (with_reducible refine (small_true _).mono ?_)
  rintro e w1 ⟨rfl, hb⟩
  replace HB0 := Lib.hid (below_call HB0.out hb)
  replace HX0 := Lib.hid (HX0.out.below hb)
  clear hb
  go_wp2_with fail
  (with_reducible refine (stop_to _).mono ?_)
  rintro e w2 ⟨rfl, hb⟩
  have HB := Lib.hid (below_alloc (below_call HB0.out hb) (.cells #[.int .i64 0, .bool false, .bool true, .bool true, .bool true, .bool true, .bool false, .bool true] 51))
  have HX := Lib.hid ((HX0.out.below hb).below (below_alloc (Below.refl _ w2) (.cells #[.int .i64 0, .bool false, .bool true, .bool true, .bool true, .bool true, .bool false, .bool true] 51)))
  have HY := Lib.hid (blk_new w2 #[.int .i64 0, .bool false, .bool true, .bool true, .bool true, .bool true, .bool false, .bool true] 51)
  clear hb HB0 HX0
  go_wp2_with fail
  generalize w2.alloc (.cells #[.int .i64 0, .bool false, .bool true, .bool true, .bool true, .bool true, .bool false, .bool true] 51) = w3 at *
  generalize w2.heap.size = gy at *
  obtain ⟨x0, x1, x2, x3, x4, x5, x6, x7, x8, x9, x10, x11⟩ := cells12 HX.out
  obtain ⟨y0, y1, y2, y3, y4, y5, y6, y7⟩ := box8 HY.out
  have H1 := Lib.hid (fun W => enter_to 7 7 rfl W)
  have H2 := Lib.hid (fun (d' : Nat) (os : Array Obj) => HE.out (Go.Sort.grow (redrawn w3 d') os) (HB.out.trans ((below_regrown w3 d' os).mono HB.out.size)))
  clear HE HV HM HX HY
  replace x0 := cell_regrown x0
  replace x1 := cell_regrown x1
  replace x2 := cell_regrown x2
  replace x3 := cell_regrown x3
  replace x4 := cell_regrown x4
  replace x5 := cell_regrown x5
  replace x6 := cell_regrown x6
  replace x7 := cell_regrown x7
  replace x8 := cell_regrown x8
  replace x9 := cell_regrown x9
  replace x10 := cell_regrown x10
  replace x11 := cell_regrown x11
  replace y0 := cell_regrown y0
  replace y1 := cell_regrown y1
  replace y2 := cell_regrown y2
  replace y3 := cell_regrown y3
  replace y4 := cell_regrown y4
  replace y5 := cell_regrown y5
  replace y6 := cell_regrown y6
  replace y7 := cell_regrown y7
  refine wp_region_quiet_below (by kernel_rfl) (by kernel_rfl) ?_
  repeat (go_big_quiet_step (first | (with_reducible exact Calls.regrown_of (H1.out _)) | (with_reducible exact Calls.regrown_of (H2.out _ _))))
  refine wpQuiet_nil ?_
  intro _ hw'
  obtain ⟨⟨dq, osq⟩, hw''⟩ := hw'
  subst hw''
  clear x0 x1 x2 x3 x4 x5 x6 x7 x8 x9 x10 x11 y0 y1 y2 y3 y4 y5 y6 y7
  go_wp2_with fail
  go_ret
  exact ⟨rfl, below_call HB.out (below_regrown _ dq osq)⟩
theorem stops_any (a b c d s l o : Bool) (m : Int) (mn ba : Bool) (r : Int) (tv : Value) (v : Value) (ls : List Tk) (w : World) (hv : Els RTk 11 w v ls) (hr : r ≤ 9223372036854775807) : Calls Try.prog 6 #[.agg #[.bool a, .bool b, .bool c, .bool d, .bool s, .bool l, .bool o, .int .i64 m, .bool mn, .bool ba, .int .i64 r, tv], v] w fun e w' => e = .returned (.bool true) ∧ Below w.heap.size w w' := by
  obtain ⟨a0, c0, rfl⟩ := hv.len
  obtain ⟨K, hK⟩ : ∃ n, n = ls.length := ⟨_, rfl⟩
  rw [← hK] at hv ⊢
  by_cases h : 100 < K
  · exact stops_out a b c d s l o m mn ba r tv a0 K c0 w h
  · exact stops_main a b c d s l o m mn ba r tv a0 K c0 ls w hv hr (by omega) hK
end Go.Proofs.Ytgkihalokedmaaa

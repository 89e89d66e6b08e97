/-
  The walk of crossbucklaw11.AxleSteps: true, whatever it is given.
-/
import Derived.Test.YtkgloniffmfpjaaSmall
import Derived.Test.YtkgloniffmfpjaaAxRef
import Derived.Deep.RegionHeld3
namespace Go.Proofs.Ytkgloniffmfpjaa
open Go.RowKit

set_option maxHeartbeats 4000000 in
set_option maxRecDepth 10000 in
theorem steps_any (h : Bool) (i o : Int) (g : Bool) (x y : Int) (w : World) : Calls Try.prog 3 #[.agg #[.bool h, .int .i64 i, .int .i64 o, .bool g], .int .i64 x, .int .i64 y] w fun e w' => e = .returned (.bool true) ∧ Below w.heap.size w w' := by
  obtain ⟨x', hx⟩ : ∃ n, x % 256 = n := ⟨_, rfl⟩
  obtain ⟨y', hy⟩ : ∃ n, y % 256 = n := ⟨_, rfl⟩
  obtain ⟨r, hr⟩ : ∃ r, wrg h i o g x y = r := ⟨_, rfl⟩
  obtain ⟨n, hn⟩ : ∃ n, ahd i o = n := ⟨_, rfl⟩
  obtain ⟨c, hc⟩ : ∃ c, clr h i o g = c := ⟨_, rfl⟩
  obtain ⟨s, hs⟩ : ∃ s, rst i o g = s := ⟨_, rfl⟩
  have H1 := Lib.hid (step_ax h i o g x y x' y' r hx hy hr)
  have H2 := Lib.hid (rstep_to h i o g x y x' y' r hx hy hr)
  have H3 := Lib.hid (on_to h i o g n hn)
  have H4 := Lib.hid (ron_to h i o g n hn)
  have H5 := Lib.hid (clear_to h i o g c hc)
  have H6 := Lib.hid (rclear_to h i o g c hc)
  have H7 := Lib.hid (reset_to h i o g s hs)
  have H8 := Lib.hid (rreset_to h i o g s hs)
  have q1 := eql_axle true x' y' r
  have q2 : (n == n) = true := by simp
  have q3 : (c == c) = true := by simp
  have q4 := eql_axle h i o s
  have HB0 := Lib.hid (below_alloc (Below.refl _ w) (.cells #[.bool h, .int .i64 i, .int .i64 o, .bool g] 23))
  have HX0 := Lib.hid (box4 w h i o g)
  clear hx hy hr hn hc hs
  go_enter Try.func3, Try.ntmps3
  go_wp2_with fail
  (with_reducible refine (small_true _).mono ?_)
  rintro e w1 ⟨rfl, hb⟩
  have HB1 := Lib.hid (below_call HB0.out hb)
  have HX1 := Lib.hid (HX0.out.below hb)
  have HK1 := Lib.hid HX1.out.four
  have HBd := Lib.hid (below_call HB1.out (bel_drew w1))
  have HXd := Lib.hid (HX1.out.below (bel_drew w1))
  clear hb HB0 HX0
  go_wp2_with fail
  go_region_held3 (fun w' => w'.cell? ⟨w.heap.size, 0, none⟩ = some (.bool h) ∧ w'.cell? ⟨w.heap.size, 1, none⟩ = some (.int .i64 i) ∧ w'.cell? ⟨w.heap.size, 2, none⟩ = some (.int .i64 o) ∧ w'.cell? ⟨w.heap.size, 3, none⟩ = some (.bool g))
    (first | exact HK1.out | exact HK2.out | exact HK3.out | exact HK4.out | exact HK5.out | exact HK6.out | exact HK7.out | exact HK8.out | exact HK9.out)
    (first
      | (go_at_call 10; (with_reducible refine (H1.out _).mono ?_); rintro e w2 ⟨rfl, hb⟩
         have HB2 := Lib.hid (below_call HBd.out hb); have HX2 := Lib.hid (HXd.out.below hb); have HK2 := Lib.hid HX2.out.four; clear hb)
      | (go_at_call 11; (with_reducible refine (H2.out _).mono ?_); rintro e w3 ⟨rfl, hb⟩
         have HB3 := Lib.hid (below_call HB2.out hb); have HX3 := Lib.hid (HX2.out.below hb); have HK3 := Lib.hid HX3.out.four; clear hb)
      | (go_at_call 12; (with_reducible refine (H3.out _).mono ?_); rintro e w4 ⟨rfl, hb⟩
         have HB4 := Lib.hid (below_call HB3.out hb); have HX4 := Lib.hid (HX3.out.below hb); have HK4 := Lib.hid HX4.out.four; clear hb)
      | (go_at_call 13; (with_reducible refine (H4.out _).mono ?_); rintro e w5 ⟨rfl, hb⟩
         have HB5 := Lib.hid (below_call HB4.out hb); have HX5 := Lib.hid (HX4.out.below hb); have HK5 := Lib.hid HX5.out.four; clear hb)
      | (go_at_call 14; (with_reducible refine (H5.out _).mono ?_); rintro e w6 ⟨rfl, hb⟩
         have HB6 := Lib.hid (below_call HB5.out hb); have HX6 := Lib.hid (HX5.out.below hb); have HK6 := Lib.hid HX6.out.four; clear hb)
      | (go_at_call 15; (with_reducible refine (H6.out _).mono ?_); rintro e w7 ⟨rfl, hb⟩
         have HB7 := Lib.hid (below_call HB6.out hb); have HX7 := Lib.hid (HX6.out.below hb); have HK7 := Lib.hid HX7.out.four; clear hb)
      | (go_at_call 16; (with_reducible refine (H7.out _).mono ?_); rintro e w8 ⟨rfl, hb⟩
         have HB8 := Lib.hid (below_call HB7.out hb); have HX8 := Lib.hid (HX7.out.below hb); have HK8 := Lib.hid HX8.out.four; clear hb)
      | (go_at_call 17; (with_reducible refine (H8.out _).mono ?_); rintro e w9 ⟨rfl, hb⟩
         have HB9 := Lib.hid (below_call HB8.out hb); have HX9 := Lib.hid (HX8.out.below hb); have HK9 := Lib.hid HX9.out.four; clear hb))
  go_wp2_with fail
  go_ret
  exact ⟨rfl, HB9.out⟩
end Go.Proofs.Ytkgloniffmfpjaa

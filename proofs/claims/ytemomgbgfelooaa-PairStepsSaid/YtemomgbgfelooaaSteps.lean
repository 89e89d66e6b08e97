/-
  The walk of crossbucklaw10.PairSteps: true, whatever it is given.
-/
import Derived.Test.YtemomgbgfelooaaSmall
import Derived.Test.YtemomgbgfelooaaPrRef
import Derived.Deep.RegionHeld3
namespace Go.Proofs.Ytemomgbgfelooaa
open Go.RowKit

theorem rstep_to (l s : Int) (j : Bool) (m l' s' : Int) (j' : Bool) (h : stp ⟨l, s, j⟩ m = ⟨l', s', j'⟩) (hs : PosR s) (w : World) : Calls Try.prog 11 #[.agg #[.int .i64 l, .int .i64 s, .bool j], .int .i64 m] w fun e w' => e = .returned (.agg #[.int .i64 l', .int .i64 s', .bool j']) ∧ Below w.heap.size w w' := by
  have := rstep_any l s j m w hs
  rw [h] at this
  exact this
set_option maxHeartbeats 4000000 in
theorem steps_any (l s : Int) (j : Bool) (m : Int) (w : World) (hs : PosR s) : Calls Try.prog 3 #[.agg #[.int .i64 l, .int .i64 s, .bool j], .int .i64 m] w fun e w' => e = .returned (.bool true) ∧ Below w.heap.size w w' := by
  obtain ⟨l', s', j', he⟩ : ∃ l' s' j', stp ⟨l, s, j⟩ m = ⟨l', s', j'⟩ := ⟨_, _, _, rfl⟩
  have H1 := Lib.hid (fun w => step_to l s j m l' s' j' he hs w)
  have H2 := Lib.hid (fun w => rstep_to l s j m l' s' j' he hs w)
  obtain ⟨n, hn⟩ : ∃ n, s / 4 = n := ⟨_, rfl⟩
  have H3 := Lib.hid (fun w => axles_to l s j n hn w)
  have H4 := Lib.hid (fun w => raxles_any l s j w hs)
  rw [hn] at H4
  obtain ⟨r, hr⟩ : ∃ r, (decide (l % 4 = 0) && !j) = r := ⟨_, rfl⟩
  have H5 := Lib.hid (fun w => rest_to l s j r hr w)
  have H6 := Lib.hid (fun w => rrest_any l s j w)
  rw [hr] at H6
  have q1 := eql_same l' s' j'
  have q2 : (n == n) = true := by simp
  have q3 : (r == r) = true := by simp
  have HB0 := Lib.hid (below_alloc (Below.refl _ w) (.cells #[.int .i64 l, .int .i64 s, .bool j] 23))
  have HX0 := Lib.hid (box3 w l s j)
  clear he hn hr hs
  go_enter Try.func3, Try.ntmps3
  go_wp2_with fail
  (with_reducible refine (small_true _).mono ?_)
  rintro e w1 ⟨rfl, hb⟩
  have HB1 := Lib.hid (below_call HB0.out hb)
  have HX1 := Lib.hid (HX0.out.below hb)
  have HK1 := Lib.hid HX1.out.three
  have HBd := Lib.hid (below_call HB1.out (bel_drew w1))
  have HXd := Lib.hid (HX1.out.below (bel_drew w1))
  clear hb HB0 HX0
  go_wp2_with fail
  go_region_held3 (fun w' => w'.cell? ⟨w.heap.size, 0, none⟩ = some (.int .i64 l) ∧ w'.cell? ⟨w.heap.size, 1, none⟩ = some (.int .i64 s) ∧ w'.cell? ⟨w.heap.size, 2, none⟩ = some (.bool j))
    (first | exact HK1.out | exact HK2.out | exact HK3.out | exact HK4.out | exact HK5.out | exact HK6.out | exact HK7.out)
    (first
      | (go_at_call 10; (with_reducible refine (H1.out _).mono ?_); rintro e w2 ⟨rfl, hb⟩
         have HB2 := Lib.hid (below_call HBd.out hb); have HX2 := Lib.hid (HXd.out.below hb); have HK2 := Lib.hid HX2.out.three; clear hb)
      | (go_at_call 11; (with_reducible refine (H2.out _).mono ?_); rintro e w3 ⟨rfl, hb⟩
         have HB3 := Lib.hid (below_call HB2.out hb); have HX3 := Lib.hid (HX2.out.below hb); have HK3 := Lib.hid HX3.out.three; clear hb)
      | (go_at_call 12; (with_reducible refine (H3.out _).mono ?_); rintro e w4 ⟨rfl, hb⟩
         have HB4 := Lib.hid (below_call HB3.out hb); have HX4 := Lib.hid (HX3.out.below hb); have HK4 := Lib.hid HX4.out.three; clear hb)
      | (go_at_call 13; (with_reducible refine (H4.out _).mono ?_); rintro e w5 ⟨rfl, hb⟩
         have HB5 := Lib.hid (below_call HB4.out hb); have HX5 := Lib.hid (HX4.out.below hb); have HK5 := Lib.hid HX5.out.three; clear hb)
      | (go_at_call 14; (with_reducible refine (H5.out _).mono ?_); rintro e w6 ⟨rfl, hb⟩
         have HB6 := Lib.hid (below_call HB5.out hb); have HX6 := Lib.hid (HX5.out.below hb); have HK6 := Lib.hid HX6.out.three; clear hb)
      | (go_at_call 15; (with_reducible refine (H6.out _).mono ?_); rintro e w7 ⟨rfl, hb⟩
         have HB7 := Lib.hid (below_call HB6.out hb); have HX7 := Lib.hid (HX6.out.below hb); have HK7 := Lib.hid HX7.out.three; clear hb))
  go_wp2_with fail
  go_ret
  exact ⟨rfl, HB7.out⟩
end Go.Proofs.Ytemomgbgfelooaa

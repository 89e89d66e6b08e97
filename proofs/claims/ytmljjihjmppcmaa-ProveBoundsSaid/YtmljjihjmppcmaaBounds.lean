/-
  The walk of crossbucklaw18.ProveBounds: true, whatever it is given.
-/
import Derived.Test.YtmljjihjmppcmaaSmall
namespace Go.Proofs.Ytmljjihjmppcmaa
open Go.RowKit

set_option maxHeartbeats 1000000 in
theorem bounds_out (n : Int) (a b c d : Bool) (l : Int) (w : World) (h : l < 1) : Calls Try.prog 6 #[.int .i64 n, .agg #[.bool a, .bool b, .bool c, .bool d], .int .i64 l] w fun e w' => e = .returned (.bool true) ∧ Below w.heap.size w w' := by
  have HB0 := Lib.hid (below_alloc (Below.refl _ w) (.cells #[.bool a, .bool b, .bool c, .bool d] 23))
  go_enter Try.func6, Try.ntmps6
  go_wp2_with fail
  (with_reducible refine (small_true _).mono ?_)
  rintro e w1 ⟨rfl, hb⟩
  have HB := Lib.hid (below_call HB0.out hb)
  clear hb HB0
  go_wp2_with fail
  (with_reducible refine (proved_to 0 l false (by simp) _).mono ?_)
  rintro e w2 ⟨rfl, rfl⟩
  go_wp2_with fail
  go_ret
  exact ⟨rfl, HB.out⟩
set_option maxHeartbeats 1000000 in
set_option maxRecDepth 10000 in
theorem bounds_main (n : Int) (a b c d : Bool) (l : Int) (w : World) (h : 1 ≤ l) (hl : l ≤ 9223372036854775807) : Calls Try.prog 6 #[.int .i64 n, .agg #[.bool a, .bool b, .bool c, .bool d], .int .i64 l] w fun e w' => e = .returned (.bool true) ∧ Below w.heap.size w w' := by
  obtain ⟨r, hr⟩ : ∃ r, (a && c) = r := ⟨_, rfl⟩
  obtain ⟨m, hm⟩ : ∃ m, pvs n (a && c) l = m := ⟨_, rfl⟩
  obtain ⟨k, hk⟩ : ∃ k, pvs l (a && c) l = k := ⟨_, rfl⟩
  have H1 := Lib.hid (down_to a b c d r hr)
  have H3 := Lib.hid (step_to n a b c d l m hm hl)
  have H4 := Lib.hid (step_to l a b c d l k hk hl)
  have HB0 := Lib.hid (below_alloc (Below.refl _ w) (.cells #[.bool a, .bool b, .bool c, .bool d] 23))
  have HX0 := Lib.hid (box4b w a b c d)
  rw [hr] at hm hk
  obtain ⟨p0, p1, _, p3⟩ := pvs_bound hm
  have p4 := (pvs_bound hk).2.1 h
  replace p1 := p1 h
  have h0 : ¬ l < 1 := by omega
  have hcs : n < l ∨ (l ≤ n ∧ r = false) ∨ (l ≤ n ∧ r = true ∧ m = l) := by
    by_cases h2 : n < l
    · exact Or.inl h2
    · cases r
      · exact Or.inr (Or.inl ⟨by omega, rfl⟩)
      · exact Or.inr (Or.inr ⟨by omega, rfl, p3 rfl h (by omega)⟩)
  clear hr hm hk hl p3 h
  rcases hcs with h1 | ⟨h1, rfl⟩ | ⟨h1, rfl, rfl⟩
  · go_enter Try.func6, Try.ntmps6
    go_wp2_with fail
    (with_reducible refine (small_true _).mono ?_)
    rintro e w1 ⟨rfl, hb⟩
    have HB := Lib.hid (below_call HB0.out hb)
    have HX := Lib.hid (HX0.out.below hb)
    clear hb HB0 HX0
    obtain ⟨c0, c1, c2, c3⟩ := HX.out.four
    go_wp2_with fail
    (with_reducible refine (H3.out _).mono ?_)
    rintro e w2 ⟨rfl, hb⟩
    replace HB := Lib.hid (below_call HB.out hb)
    replace HX := Lib.hid (HX.out.below hb)
    clear hb c0 c1 c2 c3
    obtain ⟨c0, c1, c2, c3⟩ := HX.out.four
    go_wp2_with fail
    (with_reducible refine (H4.out _).mono ?_)
    rintro e w3 ⟨rfl, hb⟩
    replace HB := Lib.hid (below_call HB.out hb)
    clear hb c0 c1 c2 c3
    go_wp2_with fail
    go_ret
    exact ⟨rfl, HB.out⟩
  all_goals
    go_enter Try.func6, Try.ntmps6
    go_wp2_with fail
    (with_reducible refine (small_true _).mono ?_)
    rintro e w1 ⟨rfl, hb⟩
    have HB := Lib.hid (below_call HB0.out hb)
    have HX := Lib.hid (HX0.out.below hb)
    clear hb HB0 HX0
    obtain ⟨c0, c1, c2, c3⟩ := HX.out.four
    go_wp2_with fail
    (with_reducible refine (H3.out _).mono ?_)
    rintro e w2 ⟨rfl, hb⟩
    replace HB := Lib.hid (below_call HB.out hb)
    replace HX := Lib.hid (HX.out.below hb)
    clear hb c0 c1 c2 c3
    obtain ⟨c0, c1, c2, c3⟩ := HX.out.four
    go_wp2_with fail
    (with_reducible refine (H1.out _).mono ?_)
    rintro e w3 ⟨rfl, hb⟩
    replace HB := Lib.hid (below_call HB.out hb)
    replace HX := Lib.hid (HX.out.below hb)
    clear hb c0 c1 c2 c3
    obtain ⟨c0, c1, c2, c3⟩ := HX.out.four
    go_wp2_with fail
    (with_reducible refine (H4.out _).mono ?_)
    rintro e w4 ⟨rfl, hb⟩
    replace HB := Lib.hid (below_call HB.out hb)
    clear hb c0 c1 c2 c3
    go_wp2_with fail
    go_ret
    exact ⟨rfl, HB.out⟩
theorem bounds_any (n : Int) (a b c d : Bool) (l : Int) (w : World) (hl : l ≤ 9223372036854775807) : Calls Try.prog 6 #[.int .i64 n, .agg #[.bool a, .bool b, .bool c, .bool d], .int .i64 l] w fun e w' => e = .returned (.bool true) ∧ Below w.heap.size w w' := by
  by_cases h : l < 1
  · exact bounds_out n a b c d l w h
  · exact bounds_main n a b c d l w (by omega) hl
end Go.Proofs.Ytmljjihjmppcmaa

/-
  The walk of crossbucklaw10.PairTurned: true, whatever it is given.
-/
import Derived.Test.YtemomgbgfelooaaSmall
import Derived.Test.YtemomgbgfelooaaSlices
import Derived.Deep.RegionHeld3
namespace Go.Proofs.Ytemomgbgfelooaa
open Go.RowKit

/-- A way to lie, seen from the other end. -/
def sw (x : Int) : Int := if x = 1 then 2 else if x = 2 then 1 else x
abbrev In4 (x : Int) : Prop := x = 0 ∨ x = 1 ∨ x = 2 ∨ x = 3
theorem way_sw {a b : Int} (ha : In4 a) (hb : In4 b) : way (sw a) (sw b) = (-(way a b)) % 4 ∧ sw b % 4 = sw b ∧ b % 4 = b := by
  rcases ha with rfl | rfl | rfl | rfl <;> rcases hb with rfl | rfl | rfl | rfl <;> decide
theorem sw_rest {a : Int} (ha : In4 a) (j : Bool) : (decide (sw a % 4 = 0) && !j) = (decide (a % 4 = 0) && !j) := by
  rcases ha with rfl | rfl | rfl | rfl <;> rfl
theorem stp_sw {a b s : Int} (j : Bool) (ha : In4 a) (hb : In4 b) (h0 : -9223372036854775807 < s) (h1 : s < 9223372036854775807) :
    ∃ s' j', stp ⟨a, s, j⟩ b = ⟨b, s', j'⟩ ∧ stp ⟨sw a, -s, j⟩ (sw b) = ⟨sw b, -s', j'⟩ ∧ s - 1 ≤ s' ∧ s' ≤ s + 1 := by
  obtain ⟨e1, e2, e3⟩ := way_sw ha hb
  have hr := way_range a b
  unfold stp
  dsimp only
  rw [e1, e2, e3]
  rcases (show way a b = 0 ∨ way a b = 1 ∨ way a b = 2 ∨ way a b = 3 by omega) with h | h | h | h
  · exact ⟨s, j, by rw [h]; simp [bump], by rw [h]; simp [bump], by omega, by omega⟩
  · exact ⟨s + 1, j, by rw [h, bump_one h1]; simp, by rw [h, show (-(1 : Int)) % 4 = 3 from rfl, bump_three (by omega), show -s - 1 = -(s + 1) by omega]; simp, by omega, by omega⟩
  · exact ⟨s, true, by rw [h]; simp [bump], by rw [h]; simp [bump], by omega, by omega⟩
  · exact ⟨s - 1, j, by rw [h, bump_three (by omega)]; simp, by rw [h, show (-(3 : Int)) % 4 = 1 from rfl, bump_one (by omega), show -s + 1 = -(s - 1) by omega]; simp, by omega, by omega⟩
theorem turned_out (v : Value) (xs : List Int) (w : World) (hv : Sl (Value.int .i64) w v xs) (hl : 200 < xs.length) : Calls Try.prog 8 #[v] w fun e w' => e = .returned (.bool true) ∧ Below w.heap.size w w' := by
  obtain ⟨a, c, ev⟩ := hv.len
  obtain ⟨n, hn⟩ : ∃ n, n = xs.length := ⟨_, rfl⟩
  rw [← hn] at ev hl
  subst ev
  have hlI : (200 : Int) < (n : Int) := by omega
  clear hv hn hl
  go_enter Try.func8, Try.ntmps8
  go_wp2_with fail
  (with_reducible refine (small_true _).mono ?_)
  rintro e w1 ⟨rfl, hb⟩
  have HB1 := Lib.hid hb
  clear hb
  go_wp2_with fail
  go_ret
  exact ⟨rfl, HB1.out⟩
set_option maxHeartbeats 4000000 in
theorem turned_main (v : Value) (xs : List Int) (w : World) (hv : Sl (Value.int .i64) w v xs) (hl : xs.length ≤ 200) : Calls Try.prog 8 #[v] w fun e w' => e = .returned (.bool true) ∧ Below w.heap.size w w' := by
  obtain ⟨a, c, ev⟩ := hv.len
  obtain ⟨n, hn⟩ : ∃ n, n = xs.length := ⟨_, rfl⟩
  rw [← hn] at ev hl
  subst ev
  have HV := Lib.hid hv
  have HN := Lib.hid hn
  have hlI : ¬ (200 : Int) < (n : Int) := by omega
  clear hv hn
  go_enter Try.func8, Try.ntmps8
  go_wp2_with fail
  (with_reducible refine (small_true _).mono ?_)
  rintro e w1 ⟨rfl, hb⟩
  have HP0 := Lib.hid ((box3 w1 0 0 false).below (below_alloc (Below.refl _ (w1.alloc (.cells #[.int .i64 0, .int .i64 0, .bool false] 23))) (.cells #[.int .i64 0, .int .i64 0, .bool false] 23)))
  have HQ0 := Lib.hid (box3 (w1.alloc (.cells #[.int .i64 0, .int .i64 0, .bool false] 23)) 0 0 false)
  rw [show (w1.alloc (.cells #[.int .i64 0, .int .i64 0, .bool false] 23)).heap.size = w1.heap.size + 1 by simp] at HQ0
  have HB0 := Lib.hid (below_alloc (below_alloc hb (.cells #[.int .i64 0, .int .i64 0, .bool false] 23)) (.cells #[.int .i64 0, .int .i64 0, .bool false] 23))
  have HG := Lib.hid (show w.heap.size ≤ w1.heap.size from hb.size)
  obtain ⟨g, hg⟩ : ∃ g, g = w1.heap.size := ⟨_, rfl⟩
  rw [← hg] at HP0 HQ0 HG
  clear hb
  go_wp2_with fail
  rw [← hg]
  clear hg
  go_loopw [6, 7] (fun i _ wr => ∃ (k : Nat) (l s : Int) (j : Bool), k ≤ n ∧ i = .int .i64 (k : Int) ∧ Hid (Below w.heap.size w wr) ∧ Hid (Blk wr g #[.int .i64 l, .int .i64 s, .bool j] 23) ∧ Hid (Blk wr (g + 1) #[.int .i64 (sw l), .int .i64 (-s), .bool j] 23) ∧ Hid (-(k : Int) ≤ s ∧ s ≤ k ∧ In4 l)) (fun i _ _ => n - (intOf i).toNat)
  case atStart => exact ⟨0, 0, 0, false, by omega, rfl, HB0, HP0, HQ0, Lib.hid ⟨by omega, by omega, .inl rfl⟩⟩
  case round =>
    obtain ⟨k, l, s, j, hk, rfl, HB, HP, HQ, HS⟩ := hrel
    clear HB0 HP0 HQ0
    by_cases hlt : k < n
    · obtain ⟨g2, o2, cap, m, ev, _, hg2, hm, hc⟩ := HV.out.at_ k (by rw [← HN.out]; exact hlt)
      simp only [Value.slice.injEq] at ev
      obtain ⟨rfl, en, rfl⟩ := ev
      have hc := below_cell HB.out hc
      have hltI : (k : Int) < (n : Int) := by omega
      have h3 := and3 m
      have hx4 : In4 (m % 4) := by unfold In4; omega
      clear hm hg2 en
      obtain ⟨s', j', e1, e2, hs0, hs1⟩ := stp_sw (s := s) j HS.out.2.2 hx4 (by have := HS.out; omega) (by have := HS.out; omega)
      have H1 := Lib.hid (step_to _ _ _ _ _ _ _ e1 ⟨by have := HS.out; omega, by have := HS.out; omega⟩)
      have H2 := Lib.hid (step_to _ _ _ _ _ _ _ e2 ⟨by have := HS.out; omega, by have := HS.out; omega⟩)
      have HS' := Lib.hid (show -((k + 1 : Nat) : Int) ≤ s' ∧ s' ≤ ((k + 1 : Nat) : Int) ∧ In4 (m % 4) from ⟨by have := HS.out; omega, by have := HS.out; omega, hx4⟩)
      have hb0 : -200 ≤ s' := by have := HS.out; omega
      have hb1 : s' ≤ 200 := by have := HS.out; omega
      obtain ⟨c0, c1, c2⟩ := HP.out.three
      obtain ⟨f0, f1, f2, _⟩ := HP.out.frz4
      clear e1 e2 hs0 hs1
      rcases hx4 with e4 | e4 | e4 | e4
      · rw [e4] at H1 H2 HS' h3
        rw [show sw 0 = 0 from rfl] at H2
        clear e4
        go_wp2_with fail
        (with_reducible refine (H1.out _).mono ?_)
        rintro e w3 ⟨rfl, hb⟩
        have HB3 := Lib.hid (bel_put3 (below_call HB.out hb) (b := g) HG.out (.int .i64 0) (.int .i64 s') (.bool j'))
        have HP3 := Lib.hid ((HP.out.below hb).put3 (.int .i64 0) (.int .i64 s') (.bool j'))
        have HQ3 := Lib.hid ((HQ.out.below hb).far3 (b := g) (by omega) (.int .i64 0) (.int .i64 s') (.bool j'))
        obtain ⟨c0, c1, c2⟩ := (HP.out.below hb).three
        obtain ⟨f0, f1, f2, _⟩ := (HP.out.below hb).frz4
        obtain ⟨d0, d1, d2⟩ := (HQ.out.below hb).three
        obtain ⟨k0, k1, k2, _⟩ := (HQ.out.below hb).frz4
        clear hb HB HP HQ H1
        go_wp2_with fail
        clear c0 c1 c2 f0 f1 f2 d0 d1 d2 k0 k1 k2
        (with_reducible refine (H2.out _).mono ?_)
        rintro e w4 ⟨rfl, hb⟩
        have HB4 := Lib.hid (bel_put3 (below_call HB3.out hb) (b := g + 1) (by have := HG.out; omega) (.int .i64 0) (.int .i64 (-s')) (.bool j'))
        have HQ4 := Lib.hid ((HQ3.out.below hb).put3 (.int .i64 0) (.int .i64 (-s')) (.bool j'))
        have HP4 := Lib.hid ((HP3.out.below hb).far3 (b := g + 1) (by omega) (.int .i64 0) (.int .i64 (-s')) (.bool j'))
        obtain ⟨c0, c1, c2⟩ := (HP3.out.below hb).three
        obtain ⟨d0, d1, d2⟩ := (HQ3.out.below hb).three
        obtain ⟨k0, k1, k2, _⟩ := (HQ3.out.below hb).frz4
        clear hb HB3 HP3 HQ3 H2
        go_wp2_with fail
        go_roundw
        case rel => exact ⟨k + 1, 0, s', j', by omega, by go_num, HB4, HP4, HQ4, HS'⟩
        case measure => simp [intOf]; omega
      · rw [e4] at H1 H2 HS' h3
        rw [show sw 1 = 2 from rfl] at H2
        clear e4
        go_wp2_with fail
        (with_reducible refine (H1.out _).mono ?_)
        rintro e w3 ⟨rfl, hb⟩
        have HB3 := Lib.hid (bel_put3 (below_call HB.out hb) (b := g) HG.out (.int .i64 1) (.int .i64 s') (.bool j'))
        have HP3 := Lib.hid ((HP.out.below hb).put3 (.int .i64 1) (.int .i64 s') (.bool j'))
        have HQ3 := Lib.hid ((HQ.out.below hb).far3 (b := g) (by omega) (.int .i64 1) (.int .i64 s') (.bool j'))
        obtain ⟨c0, c1, c2⟩ := (HP.out.below hb).three
        obtain ⟨f0, f1, f2, _⟩ := (HP.out.below hb).frz4
        obtain ⟨d0, d1, d2⟩ := (HQ.out.below hb).three
        obtain ⟨k0, k1, k2, _⟩ := (HQ.out.below hb).frz4
        clear hb HB HP HQ H1
        go_wp2_with fail
        clear c0 c1 c2 f0 f1 f2 d0 d1 d2 k0 k1 k2
        (with_reducible refine (H2.out _).mono ?_)
        rintro e w4 ⟨rfl, hb⟩
        have HB4 := Lib.hid (bel_put3 (below_call HB3.out hb) (b := g + 1) (by have := HG.out; omega) (.int .i64 2) (.int .i64 (-s')) (.bool j'))
        have HQ4 := Lib.hid ((HQ3.out.below hb).put3 (.int .i64 2) (.int .i64 (-s')) (.bool j'))
        have HP4 := Lib.hid ((HP3.out.below hb).far3 (b := g + 1) (by omega) (.int .i64 2) (.int .i64 (-s')) (.bool j'))
        obtain ⟨c0, c1, c2⟩ := (HP3.out.below hb).three
        obtain ⟨d0, d1, d2⟩ := (HQ3.out.below hb).three
        obtain ⟨k0, k1, k2, _⟩ := (HQ3.out.below hb).frz4
        clear hb HB3 HP3 HQ3 H2
        go_wp2_with fail
        go_roundw
        case rel => exact ⟨k + 1, 1, s', j', by omega, by go_num, HB4, HP4, HQ4, HS'⟩
        case measure => simp [intOf]; omega
      · rw [e4] at H1 H2 HS' h3
        rw [show sw 2 = 1 from rfl] at H2
        clear e4
        go_wp2_with fail
        (with_reducible refine (H1.out _).mono ?_)
        rintro e w3 ⟨rfl, hb⟩
        have HB3 := Lib.hid (bel_put3 (below_call HB.out hb) (b := g) HG.out (.int .i64 2) (.int .i64 s') (.bool j'))
        have HP3 := Lib.hid ((HP.out.below hb).put3 (.int .i64 2) (.int .i64 s') (.bool j'))
        have HQ3 := Lib.hid ((HQ.out.below hb).far3 (b := g) (by omega) (.int .i64 2) (.int .i64 s') (.bool j'))
        obtain ⟨c0, c1, c2⟩ := (HP.out.below hb).three
        obtain ⟨f0, f1, f2, _⟩ := (HP.out.below hb).frz4
        obtain ⟨d0, d1, d2⟩ := (HQ.out.below hb).three
        obtain ⟨k0, k1, k2, _⟩ := (HQ.out.below hb).frz4
        clear hb HB HP HQ H1
        go_wp2_with fail
        clear c0 c1 c2 f0 f1 f2 d0 d1 d2 k0 k1 k2
        (with_reducible refine (H2.out _).mono ?_)
        rintro e w4 ⟨rfl, hb⟩
        have HB4 := Lib.hid (bel_put3 (below_call HB3.out hb) (b := g + 1) (by have := HG.out; omega) (.int .i64 1) (.int .i64 (-s')) (.bool j'))
        have HQ4 := Lib.hid ((HQ3.out.below hb).put3 (.int .i64 1) (.int .i64 (-s')) (.bool j'))
        have HP4 := Lib.hid ((HP3.out.below hb).far3 (b := g + 1) (by omega) (.int .i64 1) (.int .i64 (-s')) (.bool j'))
        obtain ⟨c0, c1, c2⟩ := (HP3.out.below hb).three
        obtain ⟨d0, d1, d2⟩ := (HQ3.out.below hb).three
        obtain ⟨k0, k1, k2, _⟩ := (HQ3.out.below hb).frz4
        clear hb HB3 HP3 HQ3 H2
        go_wp2_with fail
        go_roundw
        case rel => exact ⟨k + 1, 2, s', j', by omega, by go_num, HB4, HP4, HQ4, HS'⟩
        case measure => simp [intOf]; omega
      · rw [e4] at H1 H2 HS' h3
        rw [show sw 3 = 3 from rfl] at H2
        clear e4
        go_wp2_with fail
        (with_reducible refine (H1.out _).mono ?_)
        rintro e w3 ⟨rfl, hb⟩
        have HB3 := Lib.hid (bel_put3 (below_call HB.out hb) (b := g) HG.out (.int .i64 3) (.int .i64 s') (.bool j'))
        have HP3 := Lib.hid ((HP.out.below hb).put3 (.int .i64 3) (.int .i64 s') (.bool j'))
        have HQ3 := Lib.hid ((HQ.out.below hb).far3 (b := g) (by omega) (.int .i64 3) (.int .i64 s') (.bool j'))
        obtain ⟨c0, c1, c2⟩ := (HP.out.below hb).three
        obtain ⟨f0, f1, f2, _⟩ := (HP.out.below hb).frz4
        obtain ⟨d0, d1, d2⟩ := (HQ.out.below hb).three
        obtain ⟨k0, k1, k2, _⟩ := (HQ.out.below hb).frz4
        clear hb HB HP HQ H1
        go_wp2_with fail
        clear c0 c1 c2 f0 f1 f2 d0 d1 d2 k0 k1 k2
        (with_reducible refine (H2.out _).mono ?_)
        rintro e w4 ⟨rfl, hb⟩
        have HB4 := Lib.hid (bel_put3 (below_call HB3.out hb) (b := g + 1) (by have := HG.out; omega) (.int .i64 3) (.int .i64 (-s')) (.bool j'))
        have HQ4 := Lib.hid ((HQ3.out.below hb).put3 (.int .i64 3) (.int .i64 (-s')) (.bool j'))
        have HP4 := Lib.hid ((HP3.out.below hb).far3 (b := g + 1) (by omega) (.int .i64 3) (.int .i64 (-s')) (.bool j'))
        obtain ⟨c0, c1, c2⟩ := (HP3.out.below hb).three
        obtain ⟨d0, d1, d2⟩ := (HQ3.out.below hb).three
        obtain ⟨k0, k1, k2, _⟩ := (HQ3.out.below hb).frz4
        clear hb HB3 HP3 HQ3 H2
        go_wp2_with fail
        go_roundw
        case rel => exact ⟨k + 1, 3, s', j', by omega, by go_num, HB4, HP4, HQ4, HS'⟩
        case measure => simp [intOf]; omega
    · have hltI : ¬ (k : Int) < (n : Int) := by omega
      obtain ⟨r, hr⟩ : ∃ r, (decide (l % 4 = 0) && !j) = r := ⟨_, rfl⟩
      have H1 := Lib.hid (fun w => rest_to l s j r hr w)
      have H2 := Lib.hid (fun w => rest_to (sw l) (-s) j r (by rw [sw_rest HS.out.2.2, hr]) w)
      have q3 : (r == r) = true := by simp
      have HBd := Lib.hid (below_call HB.out (bel_drew wr))
      have HPd := Lib.hid (HP.out.below (bel_drew wr))
      have HQd := Lib.hid (HQ.out.below (bel_drew wr))
      have HK1 := Lib.hid (And.intro HP.out.three HQ.out.three)
      clear hr
      generalize sw l = l' at *
      generalize -s = s' at *
      go_wp2_with fail
      go_region_held3 (fun w' => (w'.cell? ⟨g, 0, none⟩ = some (.int .i64 l) ∧ w'.cell? ⟨g, 1, none⟩ = some (.int .i64 s) ∧ w'.cell? ⟨g, 2, none⟩ = some (.bool j)) ∧ w'.cell? ⟨g + 1, 0, none⟩ = some (.int .i64 l') ∧ w'.cell? ⟨g + 1, 1, none⟩ = some (.int .i64 s') ∧ w'.cell? ⟨g + 1, 2, none⟩ = some (.bool j))
        (first | exact HK1.out | exact HK2.out | exact HK3.out)
        (first
          | (go_at_call 14; (with_reducible refine (H1.out _).mono ?_); rintro e w2 ⟨rfl, hb⟩
             have HB2 := Lib.hid (below_call HBd.out hb); have HP2 := Lib.hid (HPd.out.below hb); have HQ2 := Lib.hid (HQd.out.below hb); have HK2 := Lib.hid (And.intro HP2.out.three HQ2.out.three); clear hb)
          | (go_at_call 14; (with_reducible refine (H2.out _).mono ?_); rintro e w3 ⟨rfl, hb⟩
             have HB3 := Lib.hid (below_call HB2.out hb); have HP3 := Lib.hid (HP2.out.below hb); have HQ3 := Lib.hid (HQ2.out.below hb); have HK3 := Lib.hid (And.intro HP3.out.three HQ3.out.three); clear hb))
      go_wp2_with fail
      go_ret
      exact ⟨rfl, HB3.out⟩
theorem turned_any (v : Value) (xs : List Int) (w : World) (hv : Sl (Value.int .i64) w v xs) : Calls Try.prog 8 #[v] w fun e w' => e = .returned (.bool true) ∧ Below w.heap.size w w' := by
  by_cases h : xs.length ≤ 200
  · exact turned_main v xs w hv h
  · exact turned_out v xs w hv (by omega)
end Go.Proofs.Ytemomgbgfelooaa

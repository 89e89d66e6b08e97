/-
  The walk of crossbucklaw04.ClockForward: true, whatever it is given.
-/
import Derived.Test.YtlolmplgmjmbbaaSmall
namespace Go.Proofs.Ytlolmplgmjmbbaa
open Go.RowKit

set_option maxHeartbeats 2000000 in
theorem forward_main (a : Int) (n : Nat) (hn : n ≤ 500) (w : World) (ha : Tim a) :
    Calls Try.prog 5 #[.int .u64 a, .int .i64 (n : Int)] w fun e w' => e = .returned (.bool true) ∧ Below w.heap.size w w' := by
  have HS := Lib.hid (small_true w)
  have HX := Lib.hid ha
  clear ha
  go_enter Try.func5, Try.ntmps5
  go_wp2_with fail
  (with_reducible refine HS.out.mono ?_)
  rintro e w1 ⟨rfl, hb⟩
  have HB := Lib.hid hb
  clear hb HS
  go_wp2_with fail
  (with_reducible refine (at_any a _ HX.out).mono ?_)
  rintro e w2 ⟨g, rfl, hg, hc, hb⟩
  have HB2 := Lib.hid (below_call HB.out hb)
  have HG := Lib.hid (Nat.le_trans HB.out.size hg)
  have HC := Lib.hid hc
  clear hg hc hb HB
  go_wp2_with fail
  go_loopw [7, 8] (fun went i wr => ∃ (j : Nat) (t : Int), j ≤ n ∧ i = .int .i64 j ∧ went = .int .u64 (t - a) ∧ Sum a j t ∧ Clk wr g t ∧ Below w.heap.size w wr) (fun _ i _ => n - (intOf i).toNat)
  case atStart => exact ⟨0, a, by omega, rfl, by simp, by have := HX.out; omega, HC.out, HB2.out⟩
  case round =>
    obtain ⟨j, t, hj, rfl, rfl, hs, hc, hb⟩ := hrel
    have HCW := Lib.hid hc
    have HBW := Lib.hid hb
    have HT := Lib.hid hc.2
    have HS := Lib.hid hs
    clear hc hb HC HB2 hs
    by_cases hlt : j < n
    · by_cases hf : t = 18446744073709551615
      · have HF := Lib.hid hf
        clear hf
        have HSN := Lib.hid (show Sum a ((j + 1 : Nat) : Int) t by have := HS.out; have := HF.out; omega)
        go_wp2_with fail
        (with_reducible refine (now_any g _ _ HCW.out).mono ?_)
        rintro e w3 ⟨rfl, rfl⟩
        go_wp2_with fail
        (with_reducible refine (tick_full g _ _ HCW.out HF.out).mono ?_)
        rintro e w3 ⟨rfl, rfl⟩
        go_wp2_with fail
        (with_reducible refine (now_any g _ _ HCW.out).mono ?_)
        rintro e w3 ⟨rfl, rfl⟩
        go_wp2_with fail
        (with_reducible refine (now_any g _ _ HCW.out).mono ?_)
        rintro e w3 ⟨rfl, rfl⟩
        go_wp2_with fail
        go_roundw
        case rel => exact ⟨j + 1, t, by omega, by go_num, rfl, HSN.out, HCW.out, HBW.out⟩
        case measure => simp [intOf]; omega
      · have HL := Lib.hid (show t < 18446744073709551615 by have := HT.out; omega)
        clear hf
        have HSN := Lib.hid (show Sum a ((j + 1 : Nat) : Int) (t + 1) by have := HS.out; have := HL.out; omega)
        have k1 : 0 ≤ t - a := by have := HS.out; have := HX.out; omega
        have k2 : t - a + 1 ≤ 18446744073709551615 := by have := HL.out; have := HX.out; omega
        go_wp2_with fail
        (with_reducible refine (now_any g _ _ HCW.out).mono ?_)
        rintro e w3 ⟨rfl, rfl⟩
        go_wp2_with fail
        (with_reducible refine (tick_less g _ _ HCW.out HL.out).mono ?_)
        rintro e w3 ⟨rfl, hc, ha⟩
        have HC3 := Lib.hid hc
        have HB3 := Lib.hid (below_apart HBW.out ha HG.out)
        clear hc ha HCW HBW
        go_wp2_with fail
        (with_reducible refine (now_any g _ _ HC3.out).mono ?_)
        rintro e w4 ⟨rfl, rfl⟩
        go_wp2_with fail
        (with_reducible refine (now_any g _ _ HC3.out).mono ?_)
        rintro e w4 ⟨rfl, rfl⟩
        go_wp2_with fail
        go_roundw
        case rel => exact ⟨j + 1, t + 1, by omega, by go_num, by rw [show t + 1 - a = t - a + 1 by omega], HSN.out, HC3.out, HB3.out⟩
        case measure => simp [intOf]; omega
    · obtain rfl : j = n := by omega
      have HNT := Lib.hid (show Tim (j : Int) by omega)
      go_wp2_with fail
      (with_reducible refine (now_any g _ _ HCW.out).mono ?_)
      rintro e w3 ⟨rfl, rfl⟩
      go_wp2_with fail
      (with_reducible refine (since_any t a _ HT.out HX.out).mono ?_)
      rintro e w3 ⟨s, rfl, hs, rfl⟩
      obtain rfl : s = t - a := by have := HS.out; have := HX.out; omega
      clear hs
      by_cases hw : t = a + j
      · have q : (t - a == (j : Int)) = true := by simp; omega
        go_wp2_with fail
        (with_reducible refine (add_any a j _ HX.out HNT.out).mono ?_)
        rintro e w3 ⟨s, rfl, hs, rfl⟩
        obtain rfl : s = t := by have := HS.out; omega
        clear hs
        go_wp2_with fail
        (with_reducible refine (now_any g _ _ HCW.out).mono ?_)
        rintro e w3 ⟨rfl, rfl⟩
        go_wp2_with fail
        go_ret
        exact ⟨by simp, HBW.out⟩
      · have q : (t - a == (j : Int)) = false := by simp; omega
        have HF := Lib.hid (show t = 18446744073709551615 by have := HS.out; omega)
        go_wp2_with fail
        (with_reducible refine (full_yes g _ _ HCW.out HF.out).mono ?_)
        rintro e w3 ⟨rfl, rfl⟩
        go_wp2_with fail
        (with_reducible refine (add_any a j _ HX.out HNT.out).mono ?_)
        rintro e w3 ⟨s, rfl, hs, rfl⟩
        obtain rfl : s = t := by have := HS.out; omega
        clear hs
        go_wp2_with fail
        (with_reducible refine (now_any g _ _ HCW.out).mono ?_)
        rintro e w3 ⟨rfl, rfl⟩
        go_wp2_with fail
        go_ret
        exact ⟨by simp, HBW.out⟩

theorem forward_any (a n : Int) (w : World) (ha : Tim a) :
    Calls Try.prog 5 #[.int .u64 a, .int .i64 n] w fun e w' => e = .returned (.bool true) ∧ Below w.heap.size w w' := by
  by_cases hmain : 0 ≤ n ∧ n ≤ 500
  · obtain ⟨n', rfl⟩ : ∃ k : Nat, n = (k : Int) := ⟨n.toNat, by omega⟩
    exact forward_main a n' (by omega) w ha
  · have HS := Lib.hid (small_true w)
    have HX := Lib.hid ha
    clear ha
    rcases (show n < 0 ∨ 500 < n by omega) with hc | hc
    all_goals
      clear hmain
      go_enter Try.func5, Try.ntmps5
      go_wp2_with fail
      (with_reducible refine HS.out.mono ?_)
      rintro e w1 ⟨rfl, hb⟩
      have HB := Lib.hid hb
      clear hb HS
      go_wp2_with fail
      (with_reducible refine (at_any a _ HX.out).mono ?_)
      rintro e w2 ⟨g, rfl, hg, hk, hb⟩
      have HB2 := Lib.hid (below_call HB.out hb)
      clear hg hk hb HB
      go_wp2_with fail
      go_ret
      exact ⟨rfl, HB2.out⟩
end Go.Proofs.Ytlolmplgmjmbbaa

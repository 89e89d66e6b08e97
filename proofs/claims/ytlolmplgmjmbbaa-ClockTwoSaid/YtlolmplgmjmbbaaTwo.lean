/-
  The walk of crossbucklaw04.ClockTwo: true, whatever it is given.
-/
import Derived.Test.YtlolmplgmjmbbaaSmall
namespace Go.Proofs.Ytlolmplgmjmbbaa
open Go.RowKit

set_option maxHeartbeats 2000000 in
theorem two_main (a b : Int) (n : Nat) (hn : n ≤ 500) (w : World) (ha : Tim a) (hb : Tim b) :
    Calls Try.prog 8 #[.int .u64 a, .int .u64 b, .int .i64 (n : Int)] w fun e w' => e = .returned (.bool true) ∧ Below w.heap.size w w' := by
  have HS := Lib.hid (small_true w)
  have HX := Lib.hid ha
  have HY := Lib.hid hb
  clear ha hb
  go_enter Try.func8, Try.ntmps8
  go_wp2_with fail
  (with_reducible refine HS.out.mono ?_)
  rintro e w1 ⟨rfl, hb⟩
  have HB := Lib.hid hb
  clear hb HS
  go_wp2_with fail
  (with_reducible refine (at_any a _ HX.out).mono ?_)
  rintro e w2 ⟨g, rfl, hg, hc, hb⟩
  have HB2 := Lib.hid (below_call HB.out hb)
  have HG := Lib.hid (Nat.le_trans HB.out.size hg)
  have HC := Lib.hid hc
  clear hg hc hb HB
  go_wp2_with fail
  (with_reducible refine (at_any b _ HY.out).mono ?_)
  rintro e w3 ⟨h, rfl, hg, hc, hb⟩
  have HB3 := Lib.hid (below_call HB2.out hb)
  have HH := Lib.hid (Nat.le_trans HB2.out.size hg)
  have HC3 := Lib.hid (HC.out.below hb)
  have HD3 := Lib.hid hc
  have HN := Lib.hid (show g ≠ h by have := HC.out.lt; omega)
  clear hg hc hb HB2 HC
  go_wp2_with fail
  go_loopw [10] (fun i wr => ∃ (j : Nat) (t u : Int), j ≤ n ∧ i = .int .i64 j ∧ Sum a j t ∧ Sum b j u ∧ Clk wr g t ∧ Clk wr h u ∧ Below w.heap.size w wr) (fun i _ => n - (intOf i).toNat)
  case atStart => exact ⟨0, a, b, by omega, rfl, by have := HX.out; omega, by have := HY.out; omega, HC3.out, HD3.out, HB3.out⟩
  case round =>
    obtain ⟨j, t, u, hj, rfl, hs, hs', hc, hc', hb⟩ := hrel
    have HCW := Lib.hid hc
    have HDW := Lib.hid hc'
    have HBW := Lib.hid hb
    have HT := Lib.hid hc.2
    have HU := Lib.hid hc'.2
    have HS := Lib.hid hs
    have HSS := Lib.hid hs'
    clear hc hc' hb HC3 HD3 HB3 hs hs'
    by_cases hlt : j < n
    · go_wp2_with fail
      (with_reducible refine (tick_any g _ _ HCW.out).mono ?_)
      rintro e w4 ⟨t2, rfl, hs, hc, ha⟩
      have H1 := Lib.hid (show Sum a ((j + 1 : Nat) : Int) t2 by have := HS.out; omega)
      have HC4 := Lib.hid hc
      have HD4 := Lib.hid (HDW.out.apart ha HN.out.symm)
      have HB4 := Lib.hid (below_apart HBW.out ha HG.out)
      clear hs hc ha HCW HDW HBW
      go_wp2_with fail
      (with_reducible refine (tick_any h _ _ HD4.out).mono ?_)
      rintro e w5 ⟨u2, rfl, hs, hc, ha⟩
      have H2 := Lib.hid (show Sum b ((j + 1 : Nat) : Int) u2 by have := HSS.out; omega)
      have HD5 := Lib.hid hc
      have HC5 := Lib.hid (HC4.out.apart ha HN.out)
      have HB5 := Lib.hid (below_apart HB4.out ha HH.out)
      clear hs hc ha HC4 HD4 HB4
      go_wp2_with fail
      go_roundw
      case rel => exact ⟨j + 1, t2, u2, by omega, by go_num, H1.out, H2.out, HC5.out, HD5.out, HB5.out⟩
      case measure => simp [intOf]; omega
    · obtain rfl : j = n := by omega
      by_cases hf : t = 18446744073709551615
      · have HF := Lib.hid hf
        clear hf
        go_wp2_with fail
        (with_reducible refine (full_yes g _ _ HCW.out HF.out).mono ?_)
        rintro e w4 ⟨rfl, rfl⟩
        go_wp2_with fail
        go_ret
        exact ⟨by simp, HBW.out⟩
      · have HF := Lib.hid hf
        clear hf
        by_cases hf : u = 18446744073709551615
        · have HF2 := Lib.hid hf
          clear hf
          go_wp2_with fail
          (with_reducible refine (full_no g _ _ HCW.out HF.out).mono ?_)
          rintro e w4 ⟨rfl, rfl⟩
          go_wp2_with fail
          (with_reducible refine (full_yes h _ _ HDW.out HF2.out).mono ?_)
          rintro e w4 ⟨rfl, rfl⟩
          go_wp2_with fail
          go_ret
          exact ⟨by simp, HBW.out⟩
        · have HF2 := Lib.hid hf
          clear hf
          go_wp2_with fail
          (with_reducible refine (full_no g _ _ HCW.out HF.out).mono ?_)
          rintro e w4 ⟨rfl, rfl⟩
          go_wp2_with fail
          (with_reducible refine (full_no h _ _ HDW.out HF2.out).mono ?_)
          rintro e w4 ⟨rfl, rfl⟩
          go_wp2_with fail
          (with_reducible refine (now_any g _ _ HCW.out).mono ?_)
          rintro e w4 ⟨rfl, rfl⟩
          go_wp2_with fail
          (with_reducible refine (now_any h _ _ HDW.out).mono ?_)
          rintro e w4 ⟨rfl, rfl⟩
          go_wp2_with fail
          (with_reducible refine (since_any t u _ HT.out HU.out).mono ?_)
          rintro e w4 ⟨s, rfl, hs, rfl⟩
          have H1 := Lib.hid hs
          clear hs
          go_wp2_with fail
          (with_reducible refine (since_any a b _ HX.out HY.out).mono ?_)
          rintro e w4 ⟨s', rfl, hs, rfl⟩
          obtain rfl : s = s' := by have := H1.out; have := HS.out; have := HSS.out; have := HF.out; have := HF2.out; omega
          clear hs
          go_wp2_with fail
          (with_reducible refine (now_any h _ _ HDW.out).mono ?_)
          rintro e w4 ⟨rfl, rfl⟩
          go_wp2_with fail
          (with_reducible refine (now_any g _ _ HCW.out).mono ?_)
          rintro e w4 ⟨rfl, rfl⟩
          go_wp2_with fail
          (with_reducible refine (since_any u t _ HU.out HT.out).mono ?_)
          rintro e w4 ⟨d, rfl, hs, rfl⟩
          have H2 := Lib.hid hs
          clear hs
          go_wp2_with fail
          (with_reducible refine (since_any b a _ HY.out HX.out).mono ?_)
          rintro e w4 ⟨d', rfl, hs, rfl⟩
          obtain rfl : d = d' := by have := H2.out; have := HS.out; have := HSS.out; have := HF.out; have := HF2.out; omega
          clear hs
          go_wp2_with fail
          go_ret
          exact ⟨by simp, HBW.out⟩

theorem two_any (a b n : Int) (w : World) (ha : Tim a) (hb : Tim b) :
    Calls Try.prog 8 #[.int .u64 a, .int .u64 b, .int .i64 n] w fun e w' => e = .returned (.bool true) ∧ Below w.heap.size w w' := by
  by_cases hmain : 0 ≤ n ∧ n ≤ 500
  · obtain ⟨n', rfl⟩ : ∃ k : Nat, n = (k : Int) := ⟨n.toNat, by omega⟩
    exact two_main a b n' (by omega) w ha hb
  · have HS := Lib.hid (small_true w)
    have HX := Lib.hid ha
    have HY := Lib.hid hb
    clear ha hb
    rcases (show n < 0 ∨ 500 < n by omega) with hc | hc
    all_goals
      clear hmain
      go_enter Try.func8, Try.ntmps8
      go_wp2_with fail
      (with_reducible refine HS.out.mono ?_)
      rintro e w1 ⟨rfl, hb⟩
      have HB := Lib.hid hb
      clear hb HS
      go_wp2_with fail
      (with_reducible refine (at_any a _ HX.out).mono ?_)
      rintro e w2 ⟨g, rfl, hg, hk, hb⟩
      have HB2 := Lib.hid (below_call HB.out hb)
      clear hg hk hb HB
      go_wp2_with fail
      (with_reducible refine (at_any b _ HY.out).mono ?_)
      rintro e w3 ⟨h, rfl, hg, hk, hb⟩
      have HB3 := Lib.hid (below_call HB2.out hb)
      clear hg hk hb HB2
      go_wp2_with fail
      go_ret
      exact ⟨rfl, HB3.out⟩
end Go.Proofs.Ytlolmplgmjmbbaa

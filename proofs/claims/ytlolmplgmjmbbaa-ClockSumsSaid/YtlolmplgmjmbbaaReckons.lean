/-
  The walks of crossbucklaw04.ClockReckons, ClockSums and ClockOrder: true, whatever they are given.
-/
import Derived.Test.YtlolmplgmjmbbaaSmall
namespace Go.Proofs.Ytlolmplgmjmbbaa
open Go.RowKit

set_option maxHeartbeats 1000000 in
theorem reckons_any (a b : Int) (w : World) (ha : Tim a) (hb : Tim b) :
    Calls Try.prog 3 #[.int .u64 a, .int .u64 b] w fun e w' => e = .returned (.bool true) ∧ Below w.heap.size w w' := by
  have HS := Lib.hid (small_true w)
  have HX := Lib.hid ha
  have HY := Lib.hid hb
  clear ha hb
  go_enter Try.func3, Try.ntmps3
  go_wp2_with fail
  (with_reducible refine HS.out.mono ?_)
  rintro e w1 ⟨rfl, hb⟩
  have HB := Lib.hid hb
  clear hb HS
  go_wp2_with fail
  (with_reducible refine (add_any a b _ HX.out HY.out).mono ?_)
  rintro e w2 ⟨s, rfl, hs, rfl⟩
  have H1 := Lib.hid hs
  clear hs
  go_wp2_with fail
  (with_reducible refine (radd_any a b _ HX.out HY.out).mono ?_)
  rintro e w2 ⟨s', rfl, hs, rfl⟩
  obtain rfl : s = s' := by have := H1.out; omega
  clear hs
  go_wp2_with fail
  (with_reducible refine (since_any a b _ HX.out HY.out).mono ?_)
  rintro e w2 ⟨d, rfl, hs, rfl⟩
  have H2 := Lib.hid hs
  clear hs
  go_wp2_with fail
  (with_reducible refine (rsince_any a b _ HX.out HY.out).mono ?_)
  rintro e w2 ⟨d', rfl, hs, rfl⟩
  obtain rfl : d = d' := by have := H2.out; omega
  clear hs
  go_wp2_with fail
  go_ret
  exact ⟨by simp, HB.out⟩

set_option maxHeartbeats 2000000 in
theorem sums_any (a b c : Int) (w : World) (ha : Tim a) (hb : Tim b) (hc : Tim c) :
    Calls Try.prog 6 #[.int .u64 a, .int .u64 b, .int .u64 c] w fun e w' => e = .returned (.bool true) ∧ Below w.heap.size w w' := by
  have HS := Lib.hid (small_true w)
  have HX := Lib.hid ha
  have HY := Lib.hid hb
  have HZ := Lib.hid hc
  clear ha hb hc
  go_enter Try.func6, Try.ntmps6
  go_wp2_with fail
  (with_reducible refine HS.out.mono ?_)
  rintro e w1 ⟨rfl, hb⟩
  have HB := Lib.hid hb
  clear hb HS
  go_wp2_with fail
  (with_reducible refine (add_any a b _ HX.out HY.out).mono ?_)
  rintro e w2 ⟨s, rfl, hs, rfl⟩
  have H1 := Lib.hid hs
  clear hs
  go_wp2_with fail
  (with_reducible refine (add_any b a _ HY.out HX.out).mono ?_)
  rintro e w2 ⟨s', rfl, hs, rfl⟩
  obtain rfl : s = s' := by have := H1.out; omega
  clear hs
  have HT := Lib.hid (show Tim s by have := H1.out; have := HX.out; have := HY.out; omega)
  go_wp2_with fail
  (with_reducible refine (add_any s c _ HT.out HZ.out).mono ?_)
  rintro e w2 ⟨l, rfl, hs, rfl⟩
  have H2 := Lib.hid hs
  clear hs
  go_wp2_with fail
  (with_reducible refine (add_any b c _ HY.out HZ.out).mono ?_)
  rintro e w2 ⟨m, rfl, hs, rfl⟩
  have H3 := Lib.hid hs
  clear hs
  have HM := Lib.hid (show Tim m by have := H3.out; have := HY.out; have := HZ.out; omega)
  go_wp2_with fail
  (with_reducible refine (add_any a m _ HX.out HM.out).mono ?_)
  rintro e w2 ⟨l', rfl, hs, rfl⟩
  obtain rfl : l = l' := by have := H1.out; have := H2.out; have := H3.out; have := HX.out; have := HY.out; have := HZ.out; omega
  clear hs
  have q1 : a ≤ s := by have := H1.out; have := HX.out; have := HY.out; omega
  have q2 : b ≤ s := by have := H1.out; have := HX.out; have := HY.out; omega
  by_cases hm : s = 18446744073709551615
  · have q3 : (s == 18446744073709551615) = true := by simp [hm]
    have HH := Lib.hid hm
    clear hm
    go_wp2_with fail
    (with_reducible refine (since_any a s _ HX.out HT.out).mono ?_)
    rintro e w2 ⟨z, rfl, hs, rfl⟩
    obtain rfl : z = 0 := by omega
    clear hs
    go_wp2_with fail
    go_ret
    exact ⟨by simp, HB.out⟩
  · have q3 : (s == 18446744073709551615) = false := by simp [hm]
    go_wp2_with fail
    (with_reducible refine (since_any s a _ HT.out HX.out).mono ?_)
    rintro e w2 ⟨z, rfl, hs, rfl⟩
    obtain rfl : z = b := by have := H1.out; omega
    clear hs
    go_wp2_with fail
    (with_reducible refine (since_any a s _ HX.out HT.out).mono ?_)
    rintro e w2 ⟨y, rfl, hs, rfl⟩
    obtain rfl : y = 0 := by omega
    clear hs
    go_wp2_with fail
    go_ret
    exact ⟨by simp, HB.out⟩
end Go.Proofs.Ytlolmplgmjmbbaa

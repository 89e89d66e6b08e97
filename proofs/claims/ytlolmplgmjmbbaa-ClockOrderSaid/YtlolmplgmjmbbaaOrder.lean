/-
  The walk of crossbucklaw04.ClockOrder: true, whatever it is given.
-/
import Derived.Test.YtlolmplgmjmbbaaSmall
namespace Go.Proofs.Ytlolmplgmjmbbaa
open Go.RowKit

set_option maxHeartbeats 1000000 in
theorem order_any (a b c : Int) (w : World) (ha : Tim a) (hb : Tim b) (hc : Tim c) :
    Calls Try.prog 7 #[.int .u64 a, .int .u64 b, .int .u64 c] w fun e w' => e = .returned (.bool true) ∧ Below w.heap.size w w' := by
  have HS := Lib.hid (small_true w)
  have HX := Lib.hid ha
  have HY := Lib.hid hb
  have HZ := Lib.hid hc
  clear ha hb hc
  rcases (show b < a ∨ (a ≤ b ∧ c < b) ∨ (a ≤ b ∧ b ≤ c) by omega) with h | ⟨h1, h2⟩ | ⟨h1, h2⟩
  · go_enter Try.func7, Try.ntmps7
    go_wp2_with fail
    (with_reducible refine HS.out.mono ?_)
    rintro e w1 ⟨rfl, hb⟩
    have HB := Lib.hid hb
    clear hb HS
    have q : decide (a ≤ b) = false := by simp; omega
    go_wp2_with fail
    (with_reducible refine (since_any b a _ HY.out HX.out).mono ?_)
    rintro e w2 ⟨s, rfl, hs, rfl⟩
    obtain rfl : s = 0 := by omega
    clear hs
    go_wp2_with fail
    go_ret
    exact ⟨by simp, HB.out⟩
  · go_enter Try.func7, Try.ntmps7
    go_wp2_with fail
    (with_reducible refine HS.out.mono ?_)
    rintro e w1 ⟨rfl, hb⟩
    have HB := Lib.hid hb
    clear hb HS
    have q : decide (a ≤ b) = true := by simp; omega
    go_wp2_with fail
    go_ret
    exact ⟨by simp, HB.out⟩
  · go_enter Try.func7, Try.ntmps7
    go_wp2_with fail
    (with_reducible refine HS.out.mono ?_)
    rintro e w1 ⟨rfl, hb⟩
    have HB := Lib.hid hb
    clear hb HS
    go_wp2_with fail
    (with_reducible refine (since_any c a _ HZ.out HX.out).mono ?_)
    rintro e w2 ⟨s, rfl, hs, rfl⟩
    have H1 := Lib.hid hs
    clear hs
    go_wp2_with fail
    (with_reducible refine (since_any c b _ HZ.out HY.out).mono ?_)
    rintro e w2 ⟨s2, rfl, hs, rfl⟩
    have H2 := Lib.hid hs
    clear hs
    go_wp2_with fail
    (with_reducible refine (since_any b a _ HY.out HX.out).mono ?_)
    rintro e w2 ⟨s3, rfl, hs, rfl⟩
    have H3 := Lib.hid hs
    clear hs
    have k2 : 0 ≤ s2 := by have := H2.out; omega
    have k3 : 0 ≤ s3 := by have := H3.out; omega
    have k4 : s2 + s3 ≤ 18446744073709551615 := by have := H3.out; have := H2.out; have := HZ.out; have := HX.out; omega
    have k5 : s = s2 + s3 := by have := H3.out; have := H2.out; have := H1.out; omega
    subst k5
    have q : (s2 + s3 == s2 + s3) = true := by simp
    go_wp2_with fail
    (with_reducible refine (since_any b a _ HY.out HX.out).mono ?_)
    rintro e w2 ⟨s4, rfl, hs, rfl⟩
    obtain rfl : s4 = b - a := by omega
    clear hs
    have HT := Lib.hid (show Tim (b - a) by have := HX.out; have := HY.out; omega)
    go_wp2_with fail
    (with_reducible refine (add_any a (b - a) _ HX.out HT.out).mono ?_)
    rintro e w2 ⟨s5, rfl, hs, rfl⟩
    obtain rfl : s5 = b := by have := HY.out; omega
    clear hs
    go_wp2_with fail
    go_ret
    exact ⟨by simp, HB.out⟩
end Go.Proofs.Ytlolmplgmjmbbaa

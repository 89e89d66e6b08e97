/-
  The small case of every law of layer 4: true.
-/
import Derived.Test.YtlolmplgmjmbbaaClock
namespace Go.Proofs.Ytlolmplgmjmbbaa
open Go.RowKit

set_option maxHeartbeats 1000000 in
theorem small_true (w : World) : Calls Try.prog 9 #[] w fun e w' => e = .returned (.bool true) ∧ Below w.heap.size w w' := by
  go_enter Try.func9, Try.ntmps9
  go_wp2_with fail
  (with_reducible refine (at_any 18446744073709551614 _ ⟨by decide, by decide⟩).mono ?_)
  rintro e w1 ⟨g, rfl, hg, hc, hb⟩
  have HB := Lib.hid hb
  have HC := Lib.hid hc
  have HG := Lib.hid hg
  clear hb hc hg
  go_wp2_with fail
  (with_reducible refine (tick_less g _ _ HC.out (by decide)).mono ?_)
  rintro e w2 ⟨rfl, hc, ha⟩
  have HB2 := Lib.hid (below_apart HB.out ha HG.out)
  have HC2 := Lib.hid (show Clk w2 g 18446744073709551615 from hc)
  clear ha hc HC HB
  go_wp2_with fail
  (with_reducible refine (tick_full g _ _ HC2.out rfl).mono ?_)
  rintro e w3 ⟨rfl, rfl⟩
  go_wp2_with fail
  (with_reducible refine (full_yes g _ _ HC2.out rfl).mono ?_)
  rintro e w3 ⟨rfl, rfl⟩
  go_wp2_with fail
  (with_reducible refine (now_any g _ _ HC2.out).mono ?_)
  rintro e w3 ⟨rfl, rfl⟩
  go_wp2_with fail
  (with_reducible refine (add_any 18446744073709551615 1 _ ⟨by decide, by decide⟩ ⟨by decide, by decide⟩).mono ?_)
  rintro e w3 ⟨s, rfl, hs, rfl⟩
  obtain rfl : s = 18446744073709551615 := by omega
  clear hs
  go_wp2_with fail
  (with_reducible refine (add_any 2 3 _ ⟨by decide, by decide⟩ ⟨by decide, by decide⟩).mono ?_)
  rintro e w3 ⟨s, rfl, hs, rfl⟩
  obtain rfl : s = 5 := by omega
  clear hs
  go_wp2_with fail
  (with_reducible refine (since_any 5 3 _ ⟨by decide, by decide⟩ ⟨by decide, by decide⟩).mono ?_)
  rintro e w3 ⟨s, rfl, hs, rfl⟩
  obtain rfl : s = 2 := by omega
  clear hs
  go_wp2_with fail
  (with_reducible refine (since_any 3 5 _ ⟨by decide, by decide⟩ ⟨by decide, by decide⟩).mono ?_)
  rintro e w3 ⟨s, rfl, hs, rfl⟩
  obtain rfl : s = 0 := by omega
  clear hs
  go_wp2_with fail
  go_ret
  exact ⟨rfl, HB2.out⟩
end Go.Proofs.Ytlolmplgmjmbbaa

/-
  Good of demand by a contract.
-/
import Derived.Test.YtgkihalokedmaaaDmFault
namespace Go.Proofs.Ytgkihalokedmaaa
open Go.RowKit

set_option maxHeartbeats 1000000 in
theorem good_to (a b c d s l o : Bool) (m : Int) (mn ba : Bool) (r : Int) (tv : Value) (v : Value) (ls : List Tk) (w : World) (hv : Els RTk 11 w v ls) (hm : ls.length ≤ maxLen) (q : Bool) (hq : dgood m mn l ls = q) : Calls Try.prog 20 #[.agg #[.bool a, .bool b, .bool c, .bool d, .bool s, .bool l, .bool o, .int .i64 m, .bool mn, .bool ba, .int .i64 r, tv], v] w fun e w' => e = .returned (.bool q) ∧ Below w.heap.size w w' := by
  have HB := Lib.hid (below_alloc (Below.refl _ w) (.cells #[.bool a, .bool b, .bool c, .bool d, .bool s, .bool l, .bool o, .int .i64 m, .bool mn, .bool ba, .int .i64 r, tv] 26))
  obtain ⟨x0, x1, x2, x3, x4, x5, x6, x7, x8, x9, x10, x11⟩ := cells12 (box12 a b c d s l o m mn ba r tv w)
  have HV := Lib.hid (hv.below (w' := w.alloc (.cells #[.bool a, .bool b, .bool c, .bool d, .bool s, .bool l, .bool o, .int .i64 m, .bool mn, .bool ba, .int .i64 r, tv] 26)) (fun g o y h => h.below HB.out))
  obtain ⟨n, cc, ev⟩ := hv.len
  subst ev
  obtain ⟨f, hf⟩ : ∃ f, dany dfault ls = f := ⟨_, rfl⟩
  have HC := Lib.hid (faulty_any _ ls _ HV.out hm f hf)
  unfold dgood at hq
  rw [hf] at hq
  clear hv hf hm HV
  by_cases h1 : m = 1
  · subst h1
    have h2 : ((1 : Int) != 1) = false := rfl
    rw [h2] at hq
    have HQ := Lib.hid hq
    clear hq
    go_enter Try.func20, Try.ntmps20
    go_wp2_with fail
    go_ret
    exact ⟨by rw [← HQ.out]; rfl, HB.out⟩
  · have h2 : (m != 1) = true := by simpa using h1
    rw [h2] at hq
    have HQ := Lib.hid hq
    clear hq h1
    cases mn
    · go_enter Try.func20, Try.ntmps20
      go_wp2_with fail
      go_ret
      exact ⟨by rw [← HQ.out]; rfl, HB.out⟩
    · cases l
      · go_enter Try.func20, Try.ntmps20
        go_wp2_with fail
        go_ret
        exact ⟨by rw [← HQ.out]; rfl, HB.out⟩
      · go_enter Try.func20, Try.ntmps20
        go_wp2_with fail
        (with_reducible refine (HC.out).mono ?_)
        rintro e w1 ⟨rfl, hb⟩
        have HB1 := Lib.hid (below_call HB.out hb)
        clear hb
        go_wp2_with fail
        go_ret
        exact ⟨by rw [← HQ.out]; rfl, HB1.out⟩
end Go.Proofs.Ytgkihalokedmaaa

/-
  The walk of crossbucklaw09.DelayReckons: true, whatever it is given.
-/
import Derived.Test.YtkagkfgnnhdofaaDoorSmall
import Derived.Test.YtkagkfgnnhdofaaDoorDlRnum
namespace Go.Proofs.YtkagkfgnnhdofaaDoor
open Go.RowKit

set_option maxHeartbeats 4000000 in
theorem reckons_any (a b : Int) (w : World) (ha : Rng a) (hb : Rng b) : Calls Tryd.prog 3 #[.int .i64 a, .int .i64 b] w fun e w' => e = .returned (.bool true) ∧ Below w.heap.size w w' := by
  have H1 := Lib.hid (fun w => dladd_any a b ha hb w)
  have H2 := Lib.hid (fun w => dlradd_any a b ha hb w)
  have H3 := Lib.hid (fun w => dlmul_any a b ha hb w)
  have H4 := Lib.hid (fun w => dlrmul_any a b ha hb w)
  have H5 := Lib.hid (fun w => dlway_any a b ha w)
  have H6 := Lib.hid (fun w => dlrway_any a b ha w)
  clear ha hb
  go_enter Tryd.func3, Tryd.ntmps3
  go_wp2_with fail
  (with_reducible refine (small_true _).mono ?_)
  rintro e w1 ⟨rfl, hb⟩
  have HB1 := Lib.hid hb
  clear hb
  go_wp2_with fail
  (with_reducible refine (H1.out _).mono ?_)
  rintro e w2 ⟨s, k, r, rfl, hv, he, hb⟩
  have HS := Lib.hid hv
  have HE2 := Lib.hid he
  have HB2 := Lib.hid (below_call HB1.out hb)
  clear hv he hb HB1
  go_wp2_with fail
  (with_reducible refine (H2.out _).mono ?_)
  rintro e w3 ⟨s', k', rfl, hv, rfl⟩
  obtain ⟨rfl, rfl⟩ := HS.out.same hv
  clear hv HS
  go_wp2_with fail
  (with_reducible refine (H3.out _).mono ?_)
  rintro e w3 ⟨p, m, r3, rfl, hv, he, hb⟩
  have HM := Lib.hid hv
  have HF3 := Lib.hid he
  have HE3 := Lib.hid (HE2.out.below hb)
  have HB3 := Lib.hid (below_call HB2.out hb)
  clear hv he hb HB2 HE2
  go_wp2_with fail
  (with_reducible refine (H4.out _).mono ?_)
  rintro e w4 ⟨p', m', rfl, hv, rfl⟩
  obtain ⟨rfl, rfl⟩ := HM.out.same hv
  clear hv HM
  go_wp2_with fail
  (with_reducible refine (H5.out _).mono ?_)
  rintro e w4 ⟨n, l, r4, rfl, hv, he, hb⟩
  have HN := Lib.hid hv
  have HG4 := Lib.hid he
  have HF4 := Lib.hid (HF3.out.below hb)
  have HE4 := Lib.hid (HE3.out.below hb)
  have HB4 := Lib.hid (below_call HB3.out hb)
  clear hv he hb HB3 HE3 HF3
  go_wp2_with fail
  (with_reducible refine (H6.out _).mono ?_)
  rintro e w5 ⟨n', l', rfl, hv, rfl⟩
  obtain ⟨rfl, rfl⟩ := HN.out.same hv
  clear hv HN H1 H2 H3 H4 H5 H6
  go_wp2_with fail
  (with_reducible refine (code_err HE4.out).mono ?_)
  rintro e w10 ⟨rfl, rfl⟩
  go_wp2_with fail
  (with_reducible refine (code_err HF4.out).mono ?_)
  rintro e w10 ⟨rfl, rfl⟩
  go_wp2_with fail
  (with_reducible refine (code_err HG4.out).mono ?_)
  rintro e w10 ⟨rfl, rfl⟩
  go_wp2_with fail
  go_ret
  exact ⟨rfl, HB4.out⟩
end Go.Proofs.YtkagkfgnnhdofaaDoor

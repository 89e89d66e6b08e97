/-
  The walk of crossbucklaw13.SensorReads: true.
-/
import Derived.Test.YtnbhjnbdnngiiaaSmall
import Derived.Test.YtnbhjnbdnngiiaaSnRef
import Derived.Test.YtnbhjnbdnngiiaaSnRcnt
namespace Go.Proofs.Ytnbhjnbdnngiiaa
open Go.RowKit

set_option maxHeartbeats 8000000 in
set_option maxRecDepth 10000 in
theorem reads_any (v : Value) (xs : List (BitVec 8)) (ok : Bool) (t : Int) (w : World) (h : Byts w v xs) : Calls Try.prog 3 #[v, .bool ok, .int .i64 t] w fun e w' => e = .returned (.bool true) ∧ Below w.heap.size w w' := by
  obtain ⟨av, cv, ev⟩ := h.len
  have HV := Lib.hid h
  clear h
  subst ev
  obtain ⟨n, hn⟩ : ∃ n, n = xs.length := ⟨_, rfl⟩
  rw [← hn] at HV ⊢
  obtain ⟨k, hk⟩ : ∃ k, sone ok xs = k := ⟨_, rfl⟩
  obtain ⟨p0, hp0⟩ : ∃ p0, bt (onl k 4) 1 = p0 := ⟨_, rfl⟩
  obtain ⟨p1, hp1⟩ : ∃ p1, bt (onl k 4) 2 = p1 := ⟨_, rfl⟩
  obtain ⟨e0, e1, e2, e3, hi⟩ : ∃ e0 e1 e2 e3, barIs k e0 e1 e2 e3 := ⟨_, _, _, _, rfl, rfl, rfl, rfl⟩
  obtain ⟨lm, hlm⟩ : ∃ lm, decide (k = 1) = lm := ⟨_, rfl⟩
  obtain ⟨ob, hob⟩ : ∃ ob, decide (k ≠ 0) = ob := ⟨_, rfl⟩
  obtain ⟨md, hmd⟩ : ∃ md, (if 0 ≤ k ∧ k < 3 then k else 1) = md := ⟨_, rfl⟩
  obtain ⟨lt, hlt⟩ : ∃ lt, rlim t = lt := ⟨_, rfl⟩
  obtain ⟨rt, hrt⟩ : ∃ rt, onl k lt = rt := ⟨_, rfl⟩
  obtain ⟨⟨fr, ci, co, cs, li⟩, hc⟩ : ∃ y, cntOf ok xs = y := ⟨_, rfl⟩
  have Hk := Lib.hid hk
  clear hk
  have Hp0 := Lib.hid hp0
  clear hp0
  have Hp1 := Lib.hid hp1
  clear hp1
  have Hi := Lib.hid hi
  clear hi
  have Hlm := Lib.hid hlm
  clear hlm
  have Hob := Lib.hid hob
  clear hob
  have Hmd := Lib.hid hmd
  clear hmd
  have Hlt := Lib.hid hlt
  clear hlt
  have Hrt := Lib.hid hrt
  clear hrt
  have Hc := Lib.hid hc
  clear hc
  have q0 : (p0 == p0) = true := by simp
  have q1 : (p1 == p1) = true := by simp
  have q2 : (lm == lm) = true := by simp
  have q3 : (ob == ob) = true := by simp
  have eB := eql_bar e0 e1 e2 e3 e0 e1 e2 e3 true (by simp)
  have eC := eql_cnt fr ci co cs li fr ci co cs li true (by simp)
  by_cases hl : 300 < n
  · clear hn
    have hl2 : (300 : Int) < (n : Int) := by omega
    go_enter Try.func3, Try.ntmps3
    go_wp2_with fail
    (with_reducible refine (small_true _).mono ?_)
    rintro e w1 ⟨rfl, hb⟩
    have HB := Lib.hid hb
    clear hb
    go_wp2_with fail
    go_ret
    exact ⟨rfl, HB.out⟩
  · clear hn
    have hl2 : ¬ (300 : Int) < (n : Int) := by omega
    go_enter Try.func3, Try.ntmps3
    go_wp2_with fail
    (with_reducible refine (small_true _).mono ?_)
    rintro e w1 ⟨rfl, hb⟩
    have HB := Lib.hid hb
    clear hb
    go_wp2_with fail
    (with_reducible refine (power_to ok xs _ k Hk.out _ p0 p1 Hp0.out Hp1.out (HV.out.below HB.out)).mono ?_)
    rintro e w2 ⟨rfl, rfl⟩
    go_wp2_with fail
    (with_reducible refine (rpower_to ok xs _ k Hk.out _ p0 p1 Hp0.out Hp1.out (HV.out.below HB.out)).mono ?_)
    rintro e w2 ⟨rfl, rfl⟩
    go_wp2_with fail
    (with_reducible refine (barrier_to ok xs _ k Hk.out e0 e1 e2 e3 Hi.out _ (HV.out.below HB.out)).mono ?_)
    rintro e w2 ⟨rfl, hb⟩
    replace HB := Lib.hid (below_call HB.out hb)
    clear hb
    go_wp2_with fail
    (with_reducible refine (rbarrier_to ok xs _ k Hk.out e0 e1 e2 e3 Hi.out _ (HV.out.below HB.out)).mono ?_)
    rintro e w2 ⟨rfl, hb⟩
    replace HB := Lib.hid (below_call HB.out hb)
    clear hb
    go_wp2_with fail
    (with_reducible refine (lamps_to ok xs _ k Hk.out _ lm Hlm.out (HV.out.below HB.out)).mono ?_)
    rintro e w2 ⟨rfl, rfl⟩
    go_wp2_with fail
    (with_reducible refine (rlamps_to ok xs _ k Hk.out _ lm Hlm.out (HV.out.below HB.out)).mono ?_)
    rintro e w2 ⟨rfl, rfl⟩
    go_wp2_with fail
    (with_reducible refine (obst_to ok xs _ k Hk.out _ ob Hob.out (HV.out.below HB.out)).mono ?_)
    rintro e w2 ⟨rfl, rfl⟩
    go_wp2_with fail
    (with_reducible refine (robst_to ok xs _ k Hk.out _ ob Hob.out (HV.out.below HB.out)).mono ?_)
    rintro e w2 ⟨rfl, rfl⟩
    go_wp2_with fail
    (with_reducible refine (mode_to ok xs _ k Hk.out _ md Hmd.out (HV.out.below HB.out)).mono ?_)
    rintro e w2 ⟨rfl, rfl⟩
    go_wp2_with fail
    (with_reducible refine (rmode_to ok xs _ k Hk.out _ md Hmd.out (HV.out.below HB.out)).mono ?_)
    rintro e w2 ⟨rfl, rfl⟩
    go_wp2_with fail
    (with_reducible refine (routes_to ok xs _ k Hk.out _ t lt rt Hlt.out Hrt.out (HV.out.below HB.out)).mono ?_)
    rintro e w2 ⟨rfl, rfl⟩
    go_wp2_with fail
    (with_reducible refine (rroutes_to ok xs _ k Hk.out _ t lt rt Hlt.out Hrt.out (HV.out.below HB.out)).mono ?_)
    rintro e w2 ⟨rfl, rfl⟩
    go_wp2_with fail
    (with_reducible refine (counts_to ok xs _ ⟨fr, ci, co, cs, li⟩ Hc.out _ (HV.out.below HB.out)).mono ?_)
    rintro e w2 ⟨rfl, hb⟩
    replace HB := Lib.hid (below_call HB.out hb)
    clear hb
    go_wp2_with fail
    (with_reducible refine (rcounts_to ok xs _ ⟨fr, ci, co, cs, li⟩ Hc.out _ (HV.out.below HB.out)).mono ?_)
    rintro e w2 ⟨rfl, hb⟩
    replace HB := Lib.hid (below_call HB.out hb)
    clear hb
    go_wp2_with fail
    go_ret
    exact ⟨rfl, HB.out⟩
end Go.Proofs.Ytnbhjnbdnngiiaa

/-
  inputs.sure, routes and counts, by contracts.
-/
import Derived.Test.YtolfdfbhignniaaDoorInAll
import Derived.Test.YtolfdfbhignniaaDoorSnAll

namespace Go.Proofs.YtolfdfbhignniaaDoor
open Go.RowKit

variable {w wr w2 : World} {b x F t : Nat} {I : World → (Nat → Ch) → Prop} {f : Nat → Ch}
theorem in_sure (C : Chs true 98 58 w b x F t I) (h : I wr f) (r : Bool) (hr : ((f 0).had && decide ((f 0).age = 0)) = r) :
    Calls Tryd.prog 29 #[.pointer (some ⟨x, 0, none⟩)] wr fun e w' => e = .returned (.bool r) ∧ Below wr.heap.size wr w' := by
  obtain ⟨x0, x1⟩ := C.two h
  have HA := Lib.hid (C.at_ h 0 (f 0) (peek_in f (k := 0) rfl (by omega)).symm)
  generalize f 0 = c at *
  obtain ⟨had, seq, age, xs⟩ := c
  simp only at hr HA
  have q0 : ((age : Int) == 0) = decide (age = 0) := by rw [Bool.eq_iff_iff]; simp
  obtain ⟨z, hz⟩ : ∃ z, decide (age = 0) = z := ⟨_, rfl⟩
  rw [hz] at hr q0
  have q1 : (age == 0) = z := by rw [← hz, Bool.eq_iff_iff]; simp
  clear C h hz
  cases had with
  | false =>
    obtain rfl : false = r := by simpa using hr
    go_enter Tryd.func29, Tryd.ntmps29
    go_wp2_with fail
    (with_reducible refine HA.out.mono ?_)
    rintro e w1 ⟨d, rfl, ho, hb⟩
    obtain ⟨ad, cd, ed⟩ := ho.byts.len
    have HB := Lib.hid (below_alloc hb (.cells #[.bool false, .int .i64 seq, .int .i64 (age : Int), .slice ad xs.length cd] 76))
    subst ed
    clear ho hb x0 x1
    go_wp2_with fail
    go_ret
    exact ⟨rfl, HB.out⟩
  | true =>
    obtain rfl : z = r := by simpa using hr
    go_enter Tryd.func29, Tryd.ntmps29
    go_wp2_with fail
    (with_reducible refine HA.out.mono ?_)
    rintro e w1 ⟨d, rfl, ho, hb⟩
    obtain ⟨ad, cd, ed⟩ := ho.byts.len
    have HB := Lib.hid (below_alloc hb (.cells #[.bool true, .int .i64 seq, .int .i64 (age : Int), .slice ad xs.length cd] 76))
    subst ed
    clear ho hb x0 x1
    go_wp2_with fail
    go_ret
    exact ⟨rfl, HB.out⟩
theorem in_routes (C : Chs true 98 58 w b x F t I) (h : I wr f) (r : Int) (hr : onl (sy F f 5) (rlim (t : Int)) = r) :
    Calls Tryd.prog 33 #[.func (.func 27) #[.pointer (some ⟨b, 0, none⟩)] #[], .int .i64 (t : Int)] wr fun e w' => e = .returned (.int .i64 r) ∧ Below wr.heap.size wr w' := by
  obtain ⟨ok, hok⟩ : ∃ ok, isF F (f 5) = ok := ⟨_, rfl⟩
  obtain ⟨k, hk⟩ : ∃ k, sy F f 5 = k := ⟨_, rfl⟩
  have hs : sone ok (f 5).xs = k := by rw [← hk, ← hok]; rfl
  have HA := Lib.hid (C.fresh h 5 (f 5) (peek_in f (k := 5) rfl (by omega)).symm ok hok)
  rw [hk] at hr
  have HR := Lib.hid (fun v w1 (hv : Byts w1 v (f 5).xs) => routes_to ok (f 5).xs v k hs w1 (t : Int) _ r rfl hr hv)
  clear C h hs hk hok hr
  go_enter Tryd.func33, Tryd.ntmps33
  go_wp2_with fail
  (with_reducible refine HA.out.mono ?_)
  rintro e w1 ⟨v, rfl, hv, hb⟩
  have HR1 := Lib.hid (HR.out v w1 hv)
  have HB := Lib.hid hb
  clear hv hb HR
  go_wp2_with fail
  (with_reducible refine HR1.out.mono ?_)
  rintro e w2 ⟨rfl, rfl⟩
  go_wp2_with fail
  go_ret
  exact ⟨rfl, HB.out⟩
set_option maxHeartbeats 1000000 in
theorem in_counts (C : Chs true 98 58 w b x F t I) (h : I wr f) (ts : List Ct) (hts : (tells F t f).ts = ts) :
    Calls Tryd.prog 34 #[.func (.func 27) #[.pointer (some ⟨b, 0, none⟩)] #[], .int .i64 (t : Int)] wr fun e w' => ∃ v, e = .returned v ∧ Cnts w' wr.heap.size v ts ∧ Below wr.heap.size wr w' := by
  have HC := Lib.hid C
  have H := Lib.hid h
  have ht := C.tlim
  have ht0 : 1 ≤ t := ht.1
  have ht8 : t ≤ 8 := ht.2
  obtain ⟨cs, HCS⟩ : ∃ cs : Nat → Ct, Hid (cs = fun i => cntOf (isF F (f (8 + i))) (f (8 + i)).xs) := ⟨_, Lib.hid rfl⟩
  have HTL := Lib.hid (show ts.length = t by rw [← hts]; simp [tells])
  have HTA := Lib.hid (show ∀ i, i < t → ts[i]? = some (cs i) by
    intro i hi
    rw [← hts, HCS.out]
    unfold tells
    simp only
    rw [List.getElem?_map, List.getElem?_range hi]
    rfl)
  obtain ⟨M, hM, hmk⟩ := run_make_cnts t (by omega)
  have HM := Lib.hid hM
  clear C h ht hts hM
  go_enter Tryd.func34, Tryd.ntmps34
  go_wp2_with fail
  have HB0 := Lib.hid (below_alloc (Below.refl _ wr) (.cells M 48))
  have HT0 := Lib.hid (ctB_new wr t M HM.out cs)
  obtain ⟨g, HG⟩ : ∃ g, Hid (g = wr.heap.size) := ⟨_, Lib.hid rfl⟩
  rw [← HG.out] at HT0 ⊢
  have HGG := Lib.hid (show wr.heap.size ≤ g by rw [HG.out]; exact Nat.le_refl _)
  clear hmk
  go_loopw [11] (fun u11 wx => ∃ j : Nat, j ≤ t ∧ u11 = .int .i64 (j : Int) ∧ Hid (Below wr.heap.size wr wx) ∧ Hid (CtB wx g t j cs)) (fun u11 _ => t - (intOf u11).toNat)
  case atStart => exact ⟨0, by omega, rfl, HB0, HT0⟩
  case round =>
    obtain ⟨j, hj, rfl, HBr, HTr⟩ := hrel
    clear HB0 HT0
    by_cases hlt : j < t
    · have hltI : (j : Int) < (t : Int) := by omega
      have hj0 : (0 : Int) ≤ (j : Int) := by omega
      have hw8 : IntKind.i64.wrap (8 + (j : Int)) = 8 + (j : Int) := by rw [IntKind.wrap_i64]; omega
      obtain ⟨c, HCC⟩ : ∃ c, Hid (c = f (8 + j)) := ⟨_, Lib.hid rfl⟩
      obtain ⟨ok, hok⟩ : ∃ ok, isF F c = ok := ⟨_, rfl⟩
      obtain ⟨y, hy⟩ : ∃ y, cntOf ok c.xs = y := ⟨_, rfl⟩
      have HY := Lib.hid (show y = cs j by rw [HCS.out, ← hy, ← hok, HCC.out])
      have HA := Lib.hid (HC.out.fresh (HC.out.still H.out HBr.out) (8 + (j : Int)) c (by rw [HCC.out, peek_in f (k := 8 + j) (by omega) (by omega)]) ok hok)
      have HR := Lib.hid (fun v w1 (hv : Byts w1 v c.xs) => counts_to ok c.xs v y hy w1 hv)
      clear hok hy
      go_wp2_with fail
      (with_reducible refine HA.out.mono ?_)
      rintro e w1 ⟨v, rfl, hv, hb⟩
      have HR1 := Lib.hid (HR.out v w1 hv)
      have HB1 := Lib.hid (below_call HBr.out hb)
      have HT1 := Lib.hid (HTr.out.below hb)
      clear hv hb HR HA
      go_wp2_with fail
      (with_reducible refine HR1.out.mono ?_)
      rintro e w3 ⟨rfl, hb⟩
      have HB3 := Lib.hid (below_call HB1.out hb)
      have HT3 := Lib.hid (HT1.out.below hb)
      clear hb HR1 HB1 HT1 HBr HTr
      obtain ⟨⟨u0, s0⟩, z0⟩ := HT3.out.spot hlt 0 (by decide)
      obtain ⟨⟨u1, s1⟩, z1⟩ := HT3.out.spot hlt 1 (by decide)
      obtain ⟨⟨u2, s2⟩, z2⟩ := HT3.out.spot hlt 2 (by decide)
      obtain ⟨⟨u3, s3⟩, z3⟩ := HT3.out.spot hlt 3 (by decide)
      obtain ⟨⟨u4, s4⟩, z4⟩ := HT3.out.spot hlt 4 (by decide)
      rw [Nat.add_zero] at s0 z0
      go_wp2_with fail
      go_roundw
      case rel =>
        refine ⟨j + 1, by omega, by go_num, Lib.hid ?_, Lib.hid ?_⟩
        · exact bel_set (bel_set (bel_set (bel_set (bel_set HB3.out HGG.out _ _) HGG.out _ _) HGG.out _ _) HGG.out _ _) HGG.out _ _
        · exact HT3.out.store hlt y HY.out
      case measure => simp [intOf]; omega
    · have hltI : (t : Int) ≤ (j : Int) := by omega
      obtain rfl : j = t := by omega
      go_wp2_with fail
      go_ret
      exact ⟨_, rfl, HTr.out.cnts HGG.out ts HTL.out HTA.out, HBr.out⟩
end Go.Proofs.YtolfdfbhignniaaDoor

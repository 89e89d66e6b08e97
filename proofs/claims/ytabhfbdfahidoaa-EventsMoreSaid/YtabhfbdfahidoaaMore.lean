/-
  EventsMore: a log with more room has what one with less has, and what was ahead of it.
-/
import Derived.Test.YtabhfbdfahidoaaSmall
namespace Go.Proofs.Ytabhfbdfahidoaa
open Go.RowKit

theorem wrap_sum (a b c : Nat) (h : a + b = c) (hc : c ≤ 100000) : wrap64 ((a : Int) + (b : Int)) = (c : Int) := by
  rw [show (a : Int) + (b : Int) = (c : Int) by omega]
  exact IntWalk.wrap64_in _ (by omega)
theorem wrap_dif (a b c : Nat) (h : b + c = a) (hc : a ≤ 100000) : wrap64 ((a : Int) - (b : Int)) = (c : Int) := by
  rw [show (a : Int) - (b : Int) = (c : Int) by omega]
  exact IntWalk.wrap64_in _ (by omega)
set_option maxHeartbeats 4000000 in
set_option maxRecDepth 10000 in
theorem more_main (size more : Int) (v : Value) (es : List Ev) (w : World) (hes : Els REv 3 w v es) (hcap : ∃ a c, v = .slice a es.length c ∧ es.length ≤ c) (hm : es.length ≤ 2000) (hsm : ¬ more < size) : Calls Try.prog 5 #[.int .i64 size, .int .i64 more, v] w fun e w' => e = .returned (.bool true) ∧ Below w.heap.size w w' := by
  obtain ⟨a0, c, rfl, hc⟩ := hcap
  obtain ⟨r, hr, hr1⟩ := room_of size
  obtain ⟨q, hq, hq1⟩ := room_of more
  have HRQ := Lib.hid (show r ≤ q by omega)
  have HS := Lib.hid (small_true w)
  have HE := Lib.hid hes
  obtain ⟨N, hN⟩ : ∃ N, es.length = N := ⟨_, rfl⟩
  rw [hN] at hm hc HE ⊢
  have HN := Lib.hid hN
  have HR := Lib.hid hr
  have HR1 := Lib.hid hr1
  have HQ := Lib.hid hq
  have HQ1 := Lib.hid hq1
  have HM := Lib.hid hm
  have p0 : decide (2000 < (N : Int)) = false := by simp; omega
  have p0' : ¬ (2000 < (N : Int)) := by omega
  have p1 : decide (more < size) = false := by simp; omega
  clear hN hr hr1 hq hq1 hes hc hm
  go_enter Try.func5, Try.ntmps5
  go_wp2_with fail
  (with_reducible refine HS.out.mono ?_)
  rintro e w1 ⟨rfl, hb1⟩
  have HB1 := Lib.hid hb1
  clear hb1 HS
  go_wp2_with fail
  (with_reducible refine (evnew_to size r HR.out w1).mono ?_)
  rintro e w2 ⟨rfl, hw⟩
  have H2 : Hid (Lg1 w w2 w1.heap.size r []) := Lib.hid (by rw [hw]; exact lg1_new w1 r HR1.out.1 HR1.out.2 HB1.out)
  clear hw
  obtain ⟨b, hb⟩ : ∃ b, b = w1.heap.size := ⟨_, rfl⟩
  rw [← hb] at H2
  rw [← hb]
  clear hb HB1
  go_wp2_with fail
  (with_reducible refine (evnew_to more q HQ.out w2).mono ?_)
  rintro e w3 ⟨rfl, hw⟩
  have H3 : Hid (Lg2 w w3 b w2.heap.size r q [] []) := Lib.hid (by rw [hw]; exact lg2_new H2.out q HQ1.out.1 HQ1.out.2)
  clear hw
  obtain ⟨d, hd⟩ : ∃ d, d = w2.heap.size := ⟨_, rfl⟩
  rw [← hd] at H3
  rw [← hd]
  clear hd H2
  go_wp2_with fail
  go_loopw [10] (fun x wr => ∃ i : Nat, i ≤ N ∧ x = .int .i64 (i : Int) ∧ Hid (Lg2 w wr b d r q (es.take i) (es.take i))) (fun x _ => N - (intOf x).toNat)
  case atStart => exact ⟨0, by omega, rfl, H3⟩
  case round =>
    obtain ⟨i, hi, rfl, HL⟩ := hrel
    by_cases hlt : i < N
    · have hltI : (i : Int) < (N : Int) := by omega
      have hkw : wrap64 ((i : Int) + 1) = (i : Int) + 1 := IntWalk.wrap64_in _ (by have := HM.out; omega)
      obtain ⟨y, hy⟩ : ∃ y, es[i]? = some y := ⟨_, List.getElem?_eq_getElem (by rw [HN.out]; exact hlt)⟩
      obtain ⟨g1, o1, e1, hr1⟩ := HE.out.at_ hy
      subst e1
      have HY := Lib.hid hr1
      obtain ⟨c0, c1, c2⟩ := hr1.below HL.out.2
      have HT : Hid (es.take i ++ [y] = es.take (i + 1)) := Lib.hid (by rw [List.take_add_one, hy]; rfl)
      have HLL := Lib.hid (show (es.take i).length ≤ 1000000 by rw [List.length_take]; have := HM.out; have := HN.out; omega)
      clear hr1 hy
      go_wp2_with fail
      (with_reducible refine (lg2_add HL.out HLL.out y).mono ?_)
      rintro e w4 ⟨rfl, h4⟩
      rw [HT.out] at h4
      have H4 := Lib.hid h4
      clear h4 c0 c1 c2
      obtain ⟨c0, c1, c2⟩ := HY.out.below H4.out.2
      go_wp2_with fail
      (with_reducible refine (lg2_add H4.out.flip HLL.out y).mono ?_)
      rintro e w5 ⟨rfl, h5⟩
      rw [HT.out] at h5
      have H5 := Lib.hid h5.flip
      clear h5
      go_wp2_with fail
      go_roundw
      case rel => exact ⟨i + 1, by omega, by go_num, H5⟩
      case measure => (try rw [hkw]); clear hkw; simp [intOf]; omega
    · obtain rfl : i = N := by omega
      have hltI : ¬ (i : Int) < (i : Int) := by omega
      have HTA := Lib.hid (show es.take i = es from List.take_of_length_le (by rw [HN.out]; exact Nat.le_refl _))
      rw [HTA.out] at HL
      obtain ⟨k, hk⟩ : ∃ k, i - r = k := ⟨_, rfl⟩
      obtain ⟨l, hl⟩ : ∃ l, i - q = l := ⟨_, rfl⟩
      have HK := Lib.hid hk
      have HLQ := Lib.hid hl
      obtain ⟨n1, hn1⟩ : ∃ n1, i - k = n1 := ⟨_, rfl⟩
      obtain ⟨n2, hn2⟩ : ∃ n2, i - l = n2 := ⟨_, rfl⟩
      obtain ⟨dd, hdd⟩ : ∃ dd, n2 - n1 = dd := ⟨_, rfl⟩
      have HNN := Lib.hid (show n1 + k = i ∧ n2 + l = i ∧ n1 + dd = n2 ∧ l + dd = k by have := HRQ.out; omega)
      have HA : Hid (Calls Try.prog 12 #[.pointer (some ⟨b, 0, none⟩)] wr fun e w' => ∃ v', e = .returned v' ∧ OwnEv w' wr.heap.size v' (es.drop k) ∧ Below wr.heap.size wr w') := Lib.hid (by
        have h := lg1_all HL.out.fst (by rw [HN.out]; have := HM.out; omega)
        rw [HN.out, HK.out] at h
        exact h)
      have HL1 : Hid (((es.drop k).length = n1) ∧ (es.drop l).length = n2) := Lib.hid (by rw [List.length_drop, List.length_drop, HN.out]; have := HNN.out; omega)
      clear HTA hk hl hn1 hn2 hdd
      go_wp2_with fail
      (with_reducible refine HA.out.mono ?_)
      rintro e w4 ⟨v4, rfl, ho4, hb4⟩
      have H4 := Lib.hid (HL.out.keep hb4)
      obtain ⟨a4, c4, rfl, _⟩ := ho4.len
      rw [HL1.out.1] at ho4 ⊢
      have HO4 := Lib.hid ho4
      have HB : Hid (Calls Try.prog 12 #[.pointer (some ⟨d, 0, none⟩)] w4 fun e w' => ∃ v', e = .returned v' ∧ OwnEv w' w4.heap.size v' (es.drop l) ∧ Below w4.heap.size w4 w') := Lib.hid (by
        have h := lg1_all H4.out.snd (by rw [HN.out]; have := HM.out; omega)
        rw [HN.out, HLQ.out] at h
        exact h)
      clear ho4 hb4 HA HL
      go_wp2_with fail
      (with_reducible refine HB.out.mono ?_)
      rintro e w5 ⟨v5, rfl, ho5, hb5⟩
      have H5 := Lib.hid (H4.out.keep hb5)
      obtain ⟨a5, c5, rfl, hc5⟩ := ho5.len
      rw [HL1.out.2] at ho5 hc5 ⊢
      obtain ⟨a6, hs6, hd6⟩ := evcut_from (a0 := a5) hc5 dd (by have := HNN.out; omega)
      have hn21 : n2 - dd = n1 := by have := HNN.out; omega
      rw [hn21] at hs6 hd6
      have hE6 := hd6 w5 _ ho5.els
      rw [List.drop_drop, HNN.out.2.2.2] at hE6
      have HSM := Lib.hid (evsame_to (.slice a6 n1 (c5 - dd)) (.slice a4 n1 c4) (es.drop k) w5 hE6 (HO4.out.els.below fun g o y h => h.below hb5) (by rw [HL1.out.1]; have := HNN.out; have := HM.out; unfold maxLen; omega))
      have HL5 : Hid (Calls Try.prog 15 #[.pointer (some ⟨b, 0, none⟩)] w5 fun e w' => e = .returned (.int .i64 (k : Int)) ∧ w' = w5) := Lib.hid (by
        have h := lg1_lost H5.out.fst
        rw [HN.out, HK.out] at h
        exact h)
      obtain ⟨c6, hc6⟩ : ∃ c6, c5 - dd = c6 := ⟨_, rfl⟩
      rw [hc6] at hs6 HSM
      have HNB := Lib.hid (show n2 ≤ 100000 ∧ i ≤ 100000 by have := HNN.out; have := HM.out; omega)
      have e1n : n1 ≤ n2 := by have := HNN.out; omega
      have e1' : (n1 : Int) ≤ (n2 : Int) := by omega
      have e1 : decide ((n1 : Int) ≤ (n2 : Int)) = true := decide_eq_true e1'
      have e3 : (n2 : Int) - (n1 : Int) = (dd : Int) := by have := HNN.out; omega
      have HEQ := Lib.hid (show ((n1 : Int) + (k : Int)) = (n2 : Int) + (l : Int) by have := HNN.out; omega)
      have e2 : wrap64 ((n2 : Int) - (n1 : Int)) = (dd : Int) := wrap_dif n2 n1 dd HNN.out.2.2.1 HNB.out.1
      have e4 : wrap64 ((n1 : Int) + (k : Int)) = (i : Int) := wrap_sum n1 k i HNN.out.1 HNB.out.2
      have e5 : wrap64 ((n2 : Int) + (l : Int)) = (i : Int) := wrap_sum n2 l i HNN.out.2.1 HNB.out.2
      clear e3 ho5 hb5 hc5 hd6 hE6 hn21 hc6 HB H4 HO4
      go_wp2_with fail
      (with_reducible refine HSM.out.mono ?_)
      rintro e w6 ⟨rfl, hb6⟩
      have H6 := Lib.hid (H5.out.keep hb6)
      have HL6 : Hid (Calls Try.prog 15 #[.pointer (some ⟨b, 0, none⟩)] w6 fun e w' => e = .returned (.int .i64 (k : Int)) ∧ w' = w6) := Lib.hid (by
        have h := lg1_lost H6.out.fst
        rw [HN.out, HK.out] at h
        exact h)
      have HM6 : Hid (Calls Try.prog 15 #[.pointer (some ⟨d, 0, none⟩)] w6 fun e w' => e = .returned (.int .i64 (l : Int)) ∧ w' = w6) := Lib.hid (by
        have h := lg1_lost H6.out.snd
        rw [HN.out, HLQ.out] at h
        exact h)
      clear hb6
      go_wp2_with fail
      (with_reducible refine HL6.out.mono ?_)
      rintro e w7 ⟨rfl, rfl⟩
      go_wp2_with fail
      (with_reducible refine HM6.out.mono ?_)
      rintro e w8 ⟨rfl, rfl⟩
      go_wp2_with fail
      go_ret
      exact ⟨by simp; try exact HEQ.out, H6.out.2⟩
theorem more_out (size more : Int) (v : Value) (N : Nat) (w : World) (hcap : ∃ a c, v = .slice a N c) (hm : 2000 < N ∨ (¬ 2000 < N ∧ more < size)) : Calls Try.prog 5 #[.int .i64 size, .int .i64 more, v] w fun e w' => e = .returned (.bool true) ∧ Below w.heap.size w w' := by
  obtain ⟨a0, c, rfl⟩ := hcap
  obtain ⟨r, hr, hr1⟩ := room_of size
  obtain ⟨q, hq, hq1⟩ := room_of more
  have HS := Lib.hid (small_true w)
  have HR := Lib.hid hr
  have HQ := Lib.hid hq
  clear hr hr1 hq hq1
  rcases (show ((2000 : Int) < (N : Int) ∧ 2000 < N) ∨ (¬ (2000 : Int) < (N : Int) ∧ ¬ 2000 < N ∧ more < size) by omega) with ⟨h1, h2⟩ | ⟨h1, h2, h3⟩
  all_goals
    clear hm
    go_enter Try.func5, Try.ntmps5
    go_wp2_with fail
    (with_reducible refine HS.out.mono ?_)
    rintro e w1 ⟨rfl, hb1⟩
    have HB1 := Lib.hid hb1
    clear hb1 HS
    go_wp2_with fail
    (with_reducible refine (evnew_to size r HR.out w1).mono ?_)
    rintro e w2 ⟨rfl, hw⟩
    have HB2 : Hid (Below w.heap.size w w2) := Lib.hid (by rw [hw]; exact below_alloc HB1.out _)
    clear hw HB1
    go_wp2_with fail
    (with_reducible refine (evnew_to more q HQ.out w2).mono ?_)
    rintro e w3 ⟨rfl, hw⟩
    have HB3 : Hid (Below w.heap.size w w3) := Lib.hid (by rw [hw]; exact below_alloc HB2.out _)
    clear hw HB2
    go_wp2_with fail
    go_ret
    exact ⟨rfl, HB3.out⟩
theorem more_any (size more : Int) (v : Value) (es : List Ev) (w : World) (hes : Els REv 3 w v es) (hcap : ∃ a c, v = .slice a es.length c ∧ es.length ≤ c) : Calls Try.prog 5 #[.int .i64 size, .int .i64 more, v] w fun e w' => e = .returned (.bool true) ∧ Below w.heap.size w w' := by
  have h2 : ∃ a c, v = .slice a es.length c := let ⟨a, c, h, _⟩ := hcap; ⟨a, c, h⟩
  by_cases hm : es.length ≤ 2000
  · by_cases hs : more < size
    · exact more_out size more v es.length w h2 (.inr ⟨by omega, hs⟩)
    · exact more_main size more v es w hes hcap hm hs
  · exact more_out size more v es.length w h2 (.inl (by omega))
end Go.Proofs.Ytabhfbdfahidoaa

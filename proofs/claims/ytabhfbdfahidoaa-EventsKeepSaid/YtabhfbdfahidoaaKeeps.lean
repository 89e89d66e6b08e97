/-
  EventsKeep: what a log has, event by event, is what the document's has.
-/
import Derived.Test.YtabhfbdfahidoaaSmall
namespace Go.Proofs.Ytabhfbdfahidoaa
open Go.RowKit

set_option maxHeartbeats 4000000 in
set_option maxRecDepth 10000 in
theorem keeps_main (size : Int) (v : Value) (es : List Ev) (w : World) (hes : Els REv 3 w v es) (hm : es.length ≤ 300) : Calls Try.prog 3 #[.int .i64 size, v] w fun e w' => e = .returned (.bool true) ∧ Below w.heap.size w w' := by
  obtain ⟨a0, c, rfl⟩ := hes.len
  obtain ⟨r, hr, hr1⟩ := room_of size
  have HS := Lib.hid (small_true w)
  have HE := Lib.hid hes
  obtain ⟨N, hN⟩ : ∃ N, es.length = N := ⟨_, rfl⟩
  rw [hN] at hm HE ⊢
  have HN := Lib.hid hN
  have HR := Lib.hid hr
  have HR1 := Lib.hid hr1
  have HM := Lib.hid hm
  have p0 : decide (300 < (N : Int)) = false := by simp; omega
  have p0' : ¬ (300 < (N : Int)) := by omega
  clear hN hr hr1 hes hm
  go_enter Try.func3, Try.ntmps3
  go_wp2_with fail
  (with_reducible refine HS.out.mono ?_)
  rintro e w1 ⟨rfl, hb1⟩
  have HB1 := Lib.hid hb1
  clear hb1 HS
  go_wp2_with fail
  (with_reducible refine (evnew_to size r HR.out w1).mono ?_)
  rintro e w2 ⟨rfl, hw⟩
  have H2 : Hid (Lg1 w w2 w1.heap.size r []) := Lib.hid (by rw [hw]; exact lg1_new w1 r HR1.out.1 HR1.out.2 HB1.out)
  clear hw
  obtain ⟨b, hb⟩ : ∃ b, b = w1.heap.size := ⟨_, rfl⟩
  rw [← hb] at H2
  rw [← hb]
  clear hb HB1
  go_wp2_with fail
  (with_reducible refine (evrnew_to size r HR.out w2).mono ?_)
  rintro e w3 ⟨rfl, hw⟩
  have H3 : Hid (LgR w w3 b w2.heap.size r [] []) := Lib.hid (by rw [hw]; exact lgr_new H2.out)
  clear hw
  obtain ⟨d, hd⟩ : ∃ d, d = w2.heap.size := ⟨_, rfl⟩
  rw [← hd] at H3
  rw [← hd]
  clear hd H2
  go_wp2_with fail
  go_loopw [8, 9, 10] (fun x _ _ wr => ∃ i : Nat, i ≤ N ∧ x = .int .i64 (i : Int) ∧ Hid (LgR w wr b d r (es.take i) (es.take i))) (fun x _ _ _ => N - (intOf x).toNat)
  case atStart => exact ⟨0, by omega, rfl, H3⟩
  case round =>
    obtain ⟨i, hi, rfl, HL⟩ := hrel
    by_cases hlt : i < N
    · have hltI : (i : Int) < (N : Int) := by omega
      have hkw : wrap64 ((i : Int) + 1) = (i : Int) + 1 := IntWalk.wrap64_in _ (by have := HM.out; omega)
      obtain ⟨y, hy⟩ : ∃ y, es[i]? = some y := ⟨_, List.getElem?_eq_getElem (by rw [HN.out]; exact hlt)⟩
      obtain ⟨g1, o1, e1, hr1⟩ := HE.out.at_ hy
      subst e1
      have HY := Lib.hid hr1
      obtain ⟨c0, c1, c2⟩ := hr1.below HL.out.2
      have HT : Hid (es.take i ++ [y] = es.take (i + 1)) := Lib.hid (by rw [List.take_add_one, hy]; rfl)
      have HLL := Lib.hid (show (es.take i).length ≤ 1000 by rw [List.length_take]; have := HM.out; have := HN.out; omega)
      obtain ⟨ys, hys⟩ : ∃ ys, es.take (i + 1) = ys := ⟨_, rfl⟩
      have HYL := Lib.hid (show ys.length ≤ 1000 by rw [← hys, List.length_take]; have := HM.out; have := HN.out; omega)
      have HYS := Lib.hid hys
      rw [hys] at HT
      clear hr1 hy hys
      go_wp2_with fail
      (with_reducible refine (lgr_add HL.out (by have := HLL.out; omega) y).mono ?_)
      rintro e w4 ⟨rfl, h4⟩
      rw [HT.out] at h4
      have H4 := Lib.hid h4
      clear h4 c0 c1 c2
      obtain ⟨c0, c1, c2⟩ := HY.out.below H4.out.2
      go_wp2_with fail
      (with_reducible refine (lgr_radd H4.out (by have := HLL.out; omega) y).mono ?_)
      rintro e w5 ⟨rfl, h5⟩
      rw [HT.out] at h5
      have H5 := Lib.hid h5
      clear h5 c0 c1 c2 H4 HL
      go_wp2_with fail
      (with_reducible refine (lg1_all H5.out.fst (by have := HYL.out; omega)).mono ?_)
      rintro e w6 ⟨v6, rfl, ho6, hb6⟩
      have H6 := Lib.hid (H5.out.keep hb6)
      have HO6 := Lib.hid ho6
      obtain ⟨a6, c6, rfl, _⟩ := ho6.len
      obtain ⟨k, hk⟩ : ∃ k, ys.length - r = k := ⟨_, rfl⟩
      have HK := Lib.hid hk
      rw [hk] at HO6 ⊢
      obtain ⟨n6, hn6⟩ : ∃ n6, (ys.drop k).length = n6 := ⟨_, rfl⟩
      have HN6 := Lib.hid hn6
      rw [hn6] at HO6 ⊢
      have HBY := Lib.hid (show w5.heap.size ≤ w6.heap.size from hb6.size)
      have hnb : n6 ≤ 1000 := by have h1 := HYL.out; have h2 := HN6.out; rw [List.length_drop] at h2; omega
      have HRA : Hid (Calls Try.prog 14 #[.pointer (some ⟨d, 0, none⟩)] w6 fun e w' => ∃ v', e = .returned v' ∧ Els REv 3 w6 v' (ys.drop k) ∧ Below w6.heap.size w6 w') := Lib.hid (by
        have h := lgr_rall H6.out (by have := HYL.out; omega)
        rw [HK.out] at h
        exact h)
      have HB6 := Lib.hid hb6
      clear ho6 hb6 hk hn6
      go_wp2_with fail
      (with_reducible refine HRA.out.mono ?_)
      rintro e w7 ⟨v7, rfl, he7, hb7⟩
      have HB7 := Lib.hid (below_call HB6.out hb7)
      have HSM := Lib.hid (evsame_to (.slice a6 n6 c6) v7 (ys.drop k) w7 (by have h := (HO6.out.below hb7).els; exact h) (he7.below fun g o y h => h.below hb7) (by rw [HN6.out]; unfold maxLen; omega))
      have HO7 := Lib.hid (HO6.out.below hb7)
      clear he7 hb7 HRA H6
      go_wp2_with fail
      (with_reducible refine HSM.out.mono ?_)
      rintro e w8 ⟨rfl, hb8⟩
      have HB8 := Lib.hid (HB7.out.trans (hb8.mono HB7.out.size))
      have H8 := Lib.hid (H5.out.keep HB8.out)
      have HL8 : Hid (Calls Try.prog 15 #[.pointer (some ⟨b, 0, none⟩)] w8 fun e w' => e = .returned (.int .i64 (k : Int)) ∧ w' = w8) := Lib.hid (by
        have h := lg1_lost H8.out.fst
        rw [HK.out] at h
        exact h)
      have HM8 : Hid (Calls Try.prog 16 #[.pointer (some ⟨d, 0, none⟩)] w8 fun e w' => e = .returned (.int .i64 (k : Int)) ∧ Below w8.heap.size w8 w') := Lib.hid (by
        have h := lgr_rlost H8.out (by have := HYL.out; omega)
        rw [HK.out] at h
        exact h)
      have HO8 := Lib.hid (HO7.out.below hb8)
      clear hb8 HSM
      go_wp2_with fail
      (with_reducible refine HL8.out.mono ?_)
      rintro e w9 ⟨rfl, rfl⟩
      go_wp2_with fail
      (with_reducible refine HM8.out.mono ?_)
      rintro e w10 ⟨rfl, hb10⟩
      have HB10 := Lib.hid (HB8.out.trans (hb10.mono HB8.out.size))
      have HO10 := Lib.hid (HO8.out.below hb10)
      clear hb10 HM8 HL8 HO8 HO7 HO6 HB8 HB7 HB6 H8
      go_wp2_with fail
      go_loopw [10] (fun x wx => ∃ j : Nat, j ≤ n6 ∧ x = .int .i64 (j : Int) ∧ Hid (∃ fs, fs.length = n6 ∧ OwnEv wx w5.heap.size (.slice a6 n6 c6) fs) ∧ Hid (Below w5.heap.size w5 wx)) (fun x _ => n6 - (intOf x).toNat)
      case atStart => exact ⟨0, by omega, rfl, Lib.hid ⟨_, HN6.out, HO10.out⟩, HB10⟩
      case round =>
        obtain ⟨j, hj, rfl, HF, HBx⟩ := hrel
        by_cases hlt : j < n6
        · have hltI2 : (j : Int) < (n6 : Int) := by omega
          have hj0 : (0 : Int) ≤ (j : Int) := by omega
          have hkw : wrap64 ((j : Int) + 1) = (j : Int) + 1 := IntWalk.wrap64_in _ (by omega)
          obtain ⟨fs, hfl, hof⟩ := HF.out
          obtain ⟨g, c', e0, _, hg5, _⟩ := hof.form (by omega)
          simp only [Value.slice.injEq] at e0
          obtain ⟨rfl, _, hcc⟩ := e0
          obtain ⟨z, hz⟩ : ∃ z, fs[j]? = some z := ⟨_, List.getElem?_eq_getElem (by omega)⟩
          obtain ⟨x0, x1, x2⟩ := hof.at_ hz
          have z0 := hof.frz (j * 3)
          have z1 := hof.frz (j * 3 + 1)
          have z2 := hof.frz (j * 3 + 2)
          have HF2 := Lib.hid (hof.set_ hfl.symm (k := j) (by omega) ⟨0, -7, 0⟩)
          have HFL : Hid ((fs.set j ⟨0, -7, 0⟩).length = n6) := Lib.hid (by rw [List.length_set]; exact hfl)
          have HBS := Lib.hid (bel_set (bel_set (bel_set HBx.out hg5 (j * 3) (.int .u64 0)) hg5 (j * 3 + 1) (.int .i64 (-7))) hg5 (j * 3 + 2) (.int .i64 0))
          clear hof hz hfl hcc hg5 HF HBx
          go_wp2_with fail
          go_roundw
          case rel => exact ⟨j + 1, by omega, by go_num, Lib.hid ⟨_, HFL.out, HF2.out⟩, HBS⟩
          case measure => (try rw [hkw]); clear hkw; simp [intOf]; omega
        · have hltI2 : ¬ (j : Int) < (n6 : Int) := by omega
          have HX := Lib.hid (H5.out.keep HBx.out)
          rw [← HYS.out] at HX
          go_wp2_with fail
          go_roundw
          case rel => exact ⟨i + 1, by omega, by go_num, HX⟩
          case measure => (try rw [hkw]); clear hkw; simp [intOf]; omega
    · obtain rfl : i = N := by omega
      have hltI : ¬ (i : Int) < (i : Int) := by omega
      have HTA := Lib.hid (show es.take i = es from List.take_of_length_le (by rw [HN.out]; exact Nat.le_refl _))
      rw [HTA.out] at HL
      have hb3 : i ≤ 300 := HM.out
      have HA := Lib.hid (lg1_all HL.out.fst (by rw [HN.out]; omega))
      clear HTA
      go_wp2_with fail
      (with_reducible refine HA.out.mono ?_)
      rintro e w4 ⟨v4, rfl, ho4, hb4⟩
      have H4 := Lib.hid (HL.out.keep hb4)
      have HO4 := Lib.hid ho4.els
      have HRA := Lib.hid (lgr_rall H4.out (by rw [HN.out]; omega))
      clear ho4 hb4 HA HL
      go_wp2_with fail
      (with_reducible refine HRA.out.mono ?_)
      rintro e w5 ⟨v5, rfl, he5, hb5⟩
      have H5 := Lib.hid (H4.out.keep hb5)
      have HSM := Lib.hid (evsame_to v4 v5 _ w5 (HO4.out.below fun g o y h => h.below hb5) (he5.below fun g o y h => h.below hb5) (by rw [List.length_drop, HN.out]; unfold maxLen; omega))
      clear he5 hb5 HRA H4 HO4
      go_wp2_with fail
      (with_reducible refine HSM.out.mono ?_)
      rintro e w6 ⟨rfl, hb6⟩
      have H6 := Lib.hid (H5.out.keep hb6)
      clear hb6
      go_wp2_with fail
      go_ret
      exact ⟨rfl, H6.out.2⟩
theorem keeps_out (size : Int) (v : Value) (N : Nat) (w : World) (hcap : ∃ a c, v = .slice a N c) (hm : 300 < N) : Calls Try.prog 3 #[.int .i64 size, v] w fun e w' => e = .returned (.bool true) ∧ Below w.heap.size w w' := by
  obtain ⟨a0, c, rfl⟩ := hcap
  obtain ⟨r, hr, hr1⟩ := room_of size
  have HS := Lib.hid (small_true w)
  have HR := Lib.hid hr
  have q0' : 300 < (N : Int) := by omega
  clear hr hr1
  go_enter Try.func3, Try.ntmps3
  go_wp2_with fail
  (with_reducible refine HS.out.mono ?_)
  rintro e w1 ⟨rfl, hb1⟩
  have HB1 := Lib.hid hb1
  clear hb1 HS
  go_wp2_with fail
  (with_reducible refine (evnew_to size r HR.out w1).mono ?_)
  rintro e w2 ⟨rfl, hw⟩
  have HB2 : Hid (Below w.heap.size w w2) := Lib.hid (by rw [hw]; exact below_alloc HB1.out _)
  clear hw
  go_wp2_with fail
  go_ret
  exact ⟨rfl, HB2.out⟩
theorem keeps_any (size : Int) (v : Value) (es : List Ev) (w : World) (hes : Els REv 3 w v es) : Calls Try.prog 3 #[.int .i64 size, v] w fun e w' => e = .returned (.bool true) ∧ Below w.heap.size w w' := by
  by_cases hm : es.length ≤ 300
  · exact keeps_main size v es w hes hm
  · exact keeps_out size v es.length w hes.len (by omega)
end Go.Proofs.Ytabhfbdfahidoaa

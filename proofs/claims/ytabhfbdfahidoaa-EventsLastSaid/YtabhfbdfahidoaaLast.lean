/-
  EventsLast: a log has the last events, as many as it has room for.
-/
import Derived.Test.YtabhfbdfahidoaaSmall
namespace Go.Proofs.Ytabhfbdfahidoaa
open Go.RowKit

set_option maxHeartbeats 4000000 in
theorem last_main (size : Int) (v : Value) (es : List Ev) (w : World) (hes : Els REv 3 w v es) (hcap : ∃ a c, v = .slice a es.length c ∧ es.length ≤ c) (hm : es.length ≤ 2000) : Calls Try.prog 4 #[.int .i64 size, v] w fun e w' => e = .returned (.bool true) ∧ Below w.heap.size w w' := by
  obtain ⟨a0, c, rfl, hc⟩ := hcap
  obtain ⟨r, hr, hr1⟩ := room_of size
  have HS := Lib.hid (small_true w)
  have HE := Lib.hid hes
  obtain ⟨N, hN⟩ : ∃ N, es.length = N := ⟨_, rfl⟩
  rw [hN] at hm hc HE ⊢
  have HN := Lib.hid hN
  have HR := Lib.hid hr
  have HR1 := Lib.hid hr1
  have HM := Lib.hid hm
  obtain ⟨k, hk⟩ : ∃ k, N - r = k := ⟨_, rfl⟩
  have HK := Lib.hid hk
  obtain ⟨a1, hs1, hd1⟩ := evcut_from (a0 := a0) hc k (by omega)
  obtain ⟨nn, hnn⟩ : ∃ nn, N - k = nn := ⟨_, rfl⟩
  obtain ⟨ck, hck⟩ : ∃ ck, c - k = ck := ⟨_, rfl⟩
  rw [hnn, hck] at hs1 hd1
  have HNN := Lib.hid (show nn + k = N by omega)
  have HD1 := Lib.hid hd1
  clear hN hr hr1 hes hd1 hc hk hnn hck
  have q0 : decide (2000 < (N : Int)) = false := by simp; omega
  have q0' : ¬ (2000 < (N : Int)) := by omega
  go_enter Try.func4, Try.ntmps4
  go_wp2_with fail
  (with_reducible refine HS.out.mono ?_)
  rintro e w1 ⟨rfl, hb1⟩
  have HB1 := Lib.hid hb1
  clear hb1 HS
  go_wp2_with fail
  (with_reducible refine (evnew_to size r HR.out w1).mono ?_)
  rintro e w2 ⟨rfl, hw⟩
  have H2 : Hid (Lg1 w w2 w1.heap.size r []) := Lib.hid (by rw [hw]; exact lg1_new w1 r HR1.out.1 HR1.out.2 HB1.out)
  clear hw
  obtain ⟨b, hb⟩ : ∃ b, b = w1.heap.size := ⟨_, rfl⟩
  rw [← hb] at H2
  rw [← hb]
  clear hb HB1
  go_wp2_with fail
  go_loopw [7] (fun x wr => ∃ i : Nat, i ≤ N ∧ x = .int .i64 (i : Int) ∧ Hid (Lg1 w wr b r (es.take i))) (fun x _ => N - (intOf x).toNat)
  case atStart => exact ⟨0, by omega, rfl, H2⟩
  case round =>
    obtain ⟨i, hi, rfl, HL⟩ := hrel
    by_cases hlt : i < N
    · have hltI : (i : Int) < (N : Int) := by omega
      have hkw : wrap64 ((i : Int) + 1) = (i : Int) + 1 := IntWalk.wrap64_in _ (by have := HM.out; omega)
      obtain ⟨y, hy⟩ : ∃ y, es[i]? = some y := ⟨_, List.getElem?_eq_getElem (by rw [HN.out]; exact hlt)⟩
      obtain ⟨g1, o1, e1, hr1⟩ := HE.out.at_ hy
      subst e1
      obtain ⟨c0, c1, c2⟩ := hr1.below HL.out.2
      have HT : Hid (es.take i ++ [y] = es.take (i + 1)) := Lib.hid (by rw [List.take_add_one, hy]; rfl)
      have HLL := Lib.hid (show (es.take i).length ≤ 1000000 by rw [List.length_take]; have := HM.out; have := HN.out; omega)
      clear hr1 hy
      go_wp2_with fail
      (with_reducible refine (lg1_add HL.out HLL.out y).mono ?_)
      rintro e w3 ⟨rfl, h3⟩
      rw [HT.out] at h3
      have H3 := Lib.hid h3
      clear h3
      go_wp2_with fail
      go_roundw
      case rel => exact ⟨i + 1, by omega, by go_num, H3⟩
      case measure => (try rw [hkw]); clear hkw; simp [intOf]; omega
    · obtain rfl : i = N := by omega
      have hltI : ¬ (i : Int) < (i : Int) := by omega
      have HTA := Lib.hid (show es.take i = es from List.take_of_length_le (by rw [HN.out]; exact Nat.le_refl _))
      rw [HTA.out] at HL
      clear HTA
      go_upto_region 9 with fail
      go_cut [8] (fun z wx => z = .int .i64 (nn : Int) ∧ wx = wr)
      case first =>
        have hnn := HNN.out
        have hkk := HK.out
        have hrr := HR.out
        clear hs1
        go_wp2_with fail
        all_goals (go_meet; exact ⟨by first | rfl | (congr 1; omega), rfl⟩)
      case rest =>
        obtain ⟨rfl, rfl⟩ := hcut
        have hw1 : IntKind.i64.wrap ((i : Int) - (nn : Int)) = (k : Int) := by rw [IntKind.wrap_i64]; have := HNN.out; have := HM.out; omega
        have HA : Hid (Calls Try.prog 12 #[.pointer (some ⟨b, 0, none⟩)] wc.drew fun e w' => ∃ v', e = .returned v' ∧ OwnEv w' wc.drew.heap.size v' (es.drop k) ∧ Below wc.drew.heap.size wc.drew w') := Lib.hid (by
          have h := lg1_all (HL.out.keep (bel_drew wc)) (by rw [HN.out]; have := HM.out; omega)
          rw [HN.out, HK.out] at h
          exact h)
        have HLO : Hid (∀ W, Lg1 w W b r es → Calls Try.prog 15 #[.pointer (some ⟨b, 0, none⟩)] W fun e w' => e = .returned (.int .i64 (k : Int)) ∧ w' = W) := Lib.hid (by
          intro W h
          have h := lg1_lost h
          rw [HN.out, HK.out] at h
          exact h)
        go_wp2_with fail
        go_region_held3 (fun _ => True) (exact trivial)
          (first
            | (go_at_call 12; (with_reducible refine HA.out.mono ?_); rintro e w3 ⟨v3, rfl, ho3, hb3⟩
               have HB3 := Lib.hid (below_call (bel_drew wc) hb3); have HO3 := Lib.hid ho3.els; have HL3 := Lib.hid (HL.out.keep HB3.out)
               have HSM := Lib.hid (evsame_to v3 (.slice a1 nn ck) (es.drop k) w3 HO3.out (HD1.out w3 es (HE.out.below fun g o y h => h.below HL3.out.2)) (by rw [List.length_drop, HN.out]; have := HM.out; unfold maxLen; omega))
               clear ho3 hb3)
            | (go_at_call 13; (with_reducible refine HSM.out.mono ?_); rintro e w4 ⟨rfl, hb4⟩
               have HL4 := Lib.hid (HL3.out.keep hb4)
               clear hb4)
            | (go_at_call 15; (with_reducible refine (HLO.out _ HL4.out).mono ?_); rintro e w5 ⟨rfl, rfl⟩))
        go_wp2_with fail
        go_ret
        exact ⟨rfl, HL4.out.2⟩
theorem last_out (size : Int) (v : Value) (es : List Ev) (w : World) (hcap : ∃ a c, v = .slice a es.length c ∧ es.length ≤ c) (hm : ¬ es.length ≤ 2000) : Calls Try.prog 4 #[.int .i64 size, v] w fun e w' => e = .returned (.bool true) ∧ Below w.heap.size w w' := by
  obtain ⟨a0, c, rfl, hc⟩ := hcap
  obtain ⟨r, hr, hr1⟩ := room_of size
  have HS := Lib.hid (small_true w)
  obtain ⟨N, hN⟩ : ∃ N, es.length = N := ⟨_, rfl⟩
  rw [hN] at hm hc ⊢
  have HR := Lib.hid hr
  have q0 : decide (2000 < (N : Int)) = true := by simp; omega
  have q0' : 2000 < (N : Int) := by omega
  have q0n : 2000 < N := by omega
  clear hN hr hr1 hc hm
  go_enter Try.func4, Try.ntmps4
  go_wp2_with fail
  (with_reducible refine HS.out.mono ?_)
  rintro e w1 ⟨rfl, hb1⟩
  have HB1 := Lib.hid hb1
  clear hb1 HS
  go_wp2_with fail
  (with_reducible refine (evnew_to size r HR.out w1).mono ?_)
  rintro e w2 ⟨rfl, hw⟩
  have HB2 : Hid (Below w.heap.size w w2) := Lib.hid (by rw [hw]; exact below_alloc HB1.out _)
  clear hw
  go_wp2_with fail
  go_ret
  exact ⟨rfl, HB2.out⟩
theorem last_any (size : Int) (v : Value) (es : List Ev) (w : World) (hes : Els REv 3 w v es) (hcap : ∃ a c, v = .slice a es.length c ∧ es.length ≤ c) : Calls Try.prog 4 #[.int .i64 size, v] w fun e w' => e = .returned (.bool true) ∧ Below w.heap.size w w' := by
  by_cases hm : es.length ≤ 2000
  · exact last_main size v es w hes hcap hm
  · exact last_out size v es w hcap hm
end Go.Proofs.Ytabhfbdfahidoaa

/-
  EventsCount: as many events as were added are there, or lost, and no more than there is room for are there.
-/
import Derived.Test.YtabhfbdfahidoaaSmall
namespace Go.Proofs.Ytabhfbdfahidoaa
open Go.RowKit

/-- The first i events that are added. -/
def cnt (i : Nat) : List Ev := (List.range i).map fun (j : Nat) => ⟨0, 0, (j : Int)⟩
theorem cnt_len (i : Nat) : (cnt i).length = i := by simp [cnt]
theorem cnt_next (i : Nat) : cnt i ++ [⟨0, 0, (i : Int)⟩] = cnt (i + 1) := by simp [cnt, List.range_succ]
theorem cnt_at (N k i : Nat) (h : k + i < N) : ((cnt N).drop k)[i]? = some ⟨0, 0, ((k + i : Nat) : Int)⟩ := by
  rw [List.getElem?_drop]
  simp only [cnt, List.getElem?_map, List.getElem?_range h]
  rfl
set_option maxHeartbeats 4000000 in
theorem count_main (size : Int) (N : Nat) (w : World) (hm : N ≤ 3000) : Calls Try.prog 6 #[.int .i64 size, .int .i64 (N : Int)] w fun e w' => e = .returned (.bool true) ∧ Below w.heap.size w w' := by
  obtain ⟨r, hr, hr1⟩ := room_of size
  have HS := Lib.hid (small_true w)
  have HR := Lib.hid hr
  have HR1 := Lib.hid hr1
  have HM := Lib.hid hm
  obtain ⟨k, hk⟩ : ∃ k, N - r = k := ⟨_, rfl⟩
  have HK := Lib.hid hk
  obtain ⟨nn, hnn⟩ : ∃ nn, N - k = nn := ⟨_, rfl⟩
  have HNN := Lib.hid (show nn + k = N by omega)
  have q0 : decide ((N : Int) < 0) = false := by simp
  have q1 : decide (3000 < (N : Int)) = false := by simp; omega
  have q1' : ¬ (3000 < (N : Int)) := by omega
  clear hr hr1 hk hnn
  go_enter Try.func6, Try.ntmps6
  go_wp2_with fail
  (with_reducible refine HS.out.mono ?_)
  rintro e w1 ⟨rfl, hb1⟩
  have HB1 := Lib.hid hb1
  clear hb1 HS
  go_wp2_with fail
  (with_reducible refine (evnew_to size r HR.out w1).mono ?_)
  rintro e w2 ⟨rfl, hw⟩
  have H2 : Hid (Lg1 w w2 w1.heap.size r (cnt 0)) := Lib.hid (by rw [hw]; exact lg1_new w1 r HR1.out.1 HR1.out.2 HB1.out)
  clear hw
  obtain ⟨b, hb⟩ : ∃ b, b = w1.heap.size := ⟨_, rfl⟩
  rw [← hb] at H2
  rw [← hb]
  clear hb HB1
  go_wp2_with fail
  go_loopw [7] (fun x wr => ∃ i : Nat, i ≤ N ∧ x = .int .i64 (i : Int) ∧ Hid (Lg1 w wr b r (cnt i))) (fun x _ => N - (intOf x).toNat)
  case atStart => exact ⟨0, by omega, rfl, H2⟩
  case round =>
    obtain ⟨i, hi, rfl, HL⟩ := hrel
    by_cases hlt : i < N
    · have hltI : (i : Int) < (N : Int) := by omega
      have hkw : wrap64 ((i : Int) + 1) = (i : Int) + 1 := IntWalk.wrap64_in _ (by have := HM.out; omega)
      have HLL := Lib.hid (show (cnt i).length ≤ 1000000 by rw [cnt_len]; have := HM.out; omega)
      go_wp2_with fail
      (with_reducible refine (lg1_add HL.out HLL.out ⟨0, 0, (i : Int)⟩).mono ?_)
      rintro e w3 ⟨rfl, h3⟩
      rw [cnt_next] at h3
      have H3 := Lib.hid h3
      clear h3
      go_wp2_with fail
      go_roundw
      case rel => exact ⟨i + 1, by omega, by go_num, H3⟩
      case measure => (try rw [hkw]); clear hkw; simp [intOf]; omega
    · obtain rfl : i = N := by omega
      have hltI : ¬ (i : Int) < (i : Int) := by omega
      have HA : Hid (Calls Try.prog 12 #[.pointer (some ⟨b, 0, none⟩)] wr fun e w' => ∃ v', e = .returned v' ∧ OwnEv w' wr.heap.size v' ((cnt i).drop k) ∧ Below wr.heap.size wr w') := Lib.hid (by
        have h := lg1_all HL.out (by rw [cnt_len]; have := HM.out; omega)
        rw [cnt_len, HK.out] at h
        exact h)
      go_wp2_with fail
      (with_reducible refine HA.out.mono ?_)
      rintro e w3 ⟨v3, rfl, ho3, hb3⟩
      have H3 := Lib.hid (HL.out.keep hb3)
      obtain ⟨a3, c3, rfl, _⟩ := ho3.len
      have HNL : Hid (((cnt i).drop k).length = nn) := Lib.hid (by rw [List.length_drop, cnt_len]; have := HNN.out; omega)
      rw [HNL.out] at ho3 ⊢
      have HO3 := Lib.hid ho3.els
      have hnb : nn ≤ 3000 := by have := HNN.out; omega
      clear ho3 hb3 HA HL
      go_wp2_with fail
      go_loopw [9] (fun x wx => ∃ j : Nat, j ≤ nn ∧ x = .int .i64 (j : Int) ∧ w3 = wx) (fun x _ => nn - (intOf x).toNat)
      case atStart => exact ⟨0, by omega, rfl, rfl⟩
      case round =>
        obtain ⟨j, hj, rfl, hwx⟩ := hrel
        subst hwx
        by_cases hlt : j < nn
        · have hltI : (j : Int) < (nn : Int) := by omega
          have hkw : wrap64 ((j : Int) + 1) = (j : Int) + 1 := IntWalk.wrap64_in _ (by omega)
          obtain ⟨g1, o1, e1, x0, x1, x2⟩ := HO3.out.at_ (cnt_at i k j (by have := HNN.out; omega))
          subst e1
          dsimp only at x2
          obtain ⟨z, hz⟩ : ∃ z : Int, ((k + j : Nat) : Int) = z := ⟨_, rfl⟩
          rw [hz] at x2
          have hzf : (z != (i : Int) - (nn : Int) + (j : Int)) = false := by have := HNN.out; simp; omega
          clear x0 x1 hz
          go_wp2_with fail
          go_roundw
          case rel => exact ⟨j + 1, by omega, by go_num, trivial⟩
          case measure => (try rw [hkw]); clear hkw; simp [intOf]; omega
        · obtain rfl : j = nn := by omega
          have hltI2 : ¬ (j : Int) < (j : Int) := by omega
          have HLO : Hid (Calls Try.prog 15 #[.pointer (some ⟨b, 0, none⟩)] w3 fun e w' => e = .returned (.int .i64 (k : Int)) ∧ w' = w3) := Lib.hid (by
            have h := lg1_lost H3.out
            rw [cnt_len, HK.out] at h
            exact h)
          have hw3 : wrap64 ((j : Int) + (k : Int)) = (i : Int) := by rw [IntWalk.wrap64_in _ (by have := HNN.out; omega)]; have := HNN.out; omega
          have d1 : decide ((j : Int) ≤ 1024) = true := by have := HR1.out; have := HNN.out; have := HK.out; simp; omega
          have d1' : (j : Int) ≤ 1024 := by have := HR1.out; have := HNN.out; have := HK.out; omega
          have d1n : j ≤ 1024 := by omega
          obtain ⟨mx, hmx⟩ : ∃ mx : Int, mx = if size < 1 then 1 else size := ⟨_, rfl⟩
          have hjm : (j : Int) ≤ (if size < 1 then 1 else size) := by
            have := HR1.out; have := HNN.out; have := HK.out
            rcases HR.out with ⟨h1, h2⟩ | ⟨h1, h2, h3⟩ | ⟨h1, h2⟩
            · rw [if_pos h1]; omega
            · rw [if_neg (by omega)]; omega
            · rw [if_neg (by omega)]; omega
          have HJM := Lib.hid hjm
          clear hjm hmx
          rcases (show (size < 1 ∧ (j : Int) ≤ 1) ∨ (¬ size < 1 ∧ (j : Int) ≤ size) by
            have h := HJM.out
            by_cases h1 : size < 1
            · rw [if_pos h1] at h; exact .inl ⟨h1, h⟩
            · rw [if_neg h1] at h; exact .inr ⟨h1, h⟩) with ⟨h1, h2⟩ | ⟨h1, h2⟩
          all_goals
            go_wp2_with fail
            (with_reducible refine HLO.out.mono ?_)
            rintro e w4 ⟨rfl, rfl⟩
            go_wp2_with fail
            go_ret
            exact ⟨by simp; try omega, H3.out.2⟩
theorem count_out (size : Int) (n : Int) (w : World) (h : n < 0 ∨ 3000 < n) : Calls Try.prog 6 #[.int .i64 size, .int .i64 n] w fun e w' => e = .returned (.bool true) ∧ Below w.heap.size w w' := by
  obtain ⟨r, hr, hr1⟩ := room_of size
  have HS := Lib.hid (small_true w)
  have HR := Lib.hid hr
  clear hr hr1
  rcases (show n < 0 ∨ (¬ n < 0 ∧ 3000 < n) by omega) with h1 | ⟨h1, h2⟩
  all_goals
    clear h
    go_enter Try.func6, Try.ntmps6
    go_wp2_with fail
    (with_reducible refine HS.out.mono ?_)
    rintro e w1 ⟨rfl, hb1⟩
    have HB1 := Lib.hid hb1
    clear hb1 HS
    go_wp2_with fail
    (with_reducible refine (evnew_to size r HR.out w1).mono ?_)
    rintro e w2 ⟨rfl, hw⟩
    have HB2 : Hid (Below w.heap.size w w2) := Lib.hid (by rw [hw]; exact below_alloc HB1.out _)
    clear hw
    go_wp2_with fail
    go_ret
    exact ⟨rfl, HB2.out⟩
theorem count_any (size n : Int) (w : World) : Calls Try.prog 6 #[.int .i64 size, .int .i64 n] w fun e w' => e = .returned (.bool true) ∧ Below w.heap.size w w' := by
  by_cases h : n < 0 ∨ 3000 < n
  · exact count_out size n w h
  · have h1 := count_main size n.toNat w (by omega)
    rw [show ((n.toNat : Nat) : Int) = n by omega] at h1
    exact h1
end Go.Proofs.Ytabhfbdfahidoaa

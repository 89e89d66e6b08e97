/-
  The walk of crossbucklaw10.PairLies: true, whatever it is given.
-/
import Derived.Test.YtemomgbgfelooaaSmall
import Derived.Test.YtemomgbgfelooaaSlices
namespace Go.Proofs.Ytemomgbgfelooaa
open Go.RowKit

theorem lies_out (v : Value) (xs : List Int) (w : World) (hv : Sl (Value.int .i64) w v xs) (hl : 200 < xs.length) : Calls Try.prog 7 #[v] w fun e w' => e = .returned (.bool true) ∧ Below w.heap.size w w' := by
  obtain ⟨a, c, ev⟩ := hv.len
  obtain ⟨n, hn⟩ : ∃ n, n = xs.length := ⟨_, rfl⟩
  rw [← hn] at ev hl
  subst ev
  have hlI : (200 : Int) < (n : Int) := by omega
  clear hv hn hl
  go_enter Try.func7, Try.ntmps7
  go_wp2_with fail
  (with_reducible refine (small_true _).mono ?_)
  rintro e w1 ⟨rfl, hb⟩
  have HB1 := Lib.hid hb
  clear hb
  go_wp2_with fail
  go_ret
  exact ⟨rfl, HB1.out⟩
theorem bit_cases (m : Int) : (m % 4 = 0 ∧ qr m = 0 ∧ bits .and .i64 (m % 4) 1 = 0 ∧ bits .and .i64 (m % 4) 2 = 0) ∨ (m % 4 = 1 ∧ qr m = 1 ∧ bits .and .i64 (m % 4) 1 = 1 ∧ bits .and .i64 (m % 4) 2 = 0)
    ∨ (m % 4 = 2 ∧ qr m = 3 ∧ bits .and .i64 (m % 4) 1 = 0 ∧ bits .and .i64 (m % 4) 2 = 2) ∨ (m % 4 = 3 ∧ qr m = 2 ∧ bits .and .i64 (m % 4) 1 = 1 ∧ bits .and .i64 (m % 4) 2 = 2) := by
  rcases qr_cases m with ⟨h, e⟩ | ⟨h, e⟩ | ⟨h, e⟩ | ⟨h, e⟩ <;> rw [h, e] <;> decide
set_option maxHeartbeats 4000000 in
theorem lies_main (v : Value) (xs : List Int) (w : World) (hv : Sl (Value.int .i64) w v xs) (hl : xs.length ≤ 200) : Calls Try.prog 7 #[v] w fun e w' => e = .returned (.bool true) ∧ Below w.heap.size w w' := by
  obtain ⟨a, c, ev⟩ := hv.len
  obtain ⟨n, hn⟩ : ∃ n, n = xs.length := ⟨_, rfl⟩
  rw [← hn] at ev hl
  subst ev
  have HV := Lib.hid hv
  have HN := Lib.hid hn
  have hlI : ¬ (200 : Int) < (n : Int) := by omega
  clear hv hn
  go_enter Try.func7, Try.ntmps7
  go_wp2_with fail
  (with_reducible refine (small_true _).mono ?_)
  rintro e w1 ⟨rfl, hb⟩
  have HB0 := Lib.hid (below_alloc hb (.cells #[.int .i64 0, .int .i64 0, .bool false] 23))
  have HP0 := Lib.hid (box3 w1 0 0 false)
  have HG := Lib.hid (show w.heap.size ≤ w1.heap.size from hb.size)
  obtain ⟨g, hg⟩ : ∃ g, g = w1.heap.size := ⟨_, rfl⟩
  rw [← hg] at HP0 HG
  clear hb
  go_wp2_with fail
  rw [← hg]
  clear hg
  go_loopw [5, 6] (fun i _ wr => ∃ (k : Nat) (l s : Int), k ≤ n ∧ i = .int .i64 (k : Int) ∧ Hid (Below w.heap.size w wr) ∧ Hid (Blk wr g #[.int .i64 l, .int .i64 s, .bool false] 23) ∧ Hid (-(k : Int) ≤ s ∧ s ≤ k ∧ qr l = s % 4)) (fun i _ _ => n - (intOf i).toNat)
  case atStart => exact ⟨0, 0, 0, by omega, rfl, HB0, HP0, Lib.hid ⟨by omega, by omega, rfl⟩⟩
  case round =>
    obtain ⟨k, l, s, hk, rfl, HB, HP, HS⟩ := hrel
    clear HB0 HP0
    by_cases hlt : k < n
    · obtain ⟨g2, o2, cap, m, ev, _, hg2, hm, hc⟩ := HV.out.at_ k (by rw [← HN.out]; exact hlt)
      simp only [Value.slice.injEq] at ev
      obtain ⟨rfl, en, rfl⟩ := ev
      clear en
      have hc := below_cell HB.out hc
      have HPd := Lib.hid (HP.out.below (bel_drew wr))
      have HBd := Lib.hid (below_call HB.out (bel_drew wr))
      have hltI : (k : Int) < (n : Int) := by omega
      obtain ⟨c0, c1, c2⟩ := HP.out.three
      clear hm hg2
      by_cases hj : way l m = 2
      · have HC := Lib.hid (step_to _ _ _ _ _ _ _ (stp_jump (s := s) false hj) ⟨by have := HS.out; omega, by have := HS.out; omega⟩)
        clear hj
        go_wp2_with fail
        go_still_tail 5, (by kernel_rfl)
        change wpList _ _ _ _ _ wr.drew
        generalize wr.drew = w2 at *
        clear c0 c1 c2 hc HP HB
        go_wp2_with fail
        (with_reducible refine (HC.out _).mono ?_)
        rintro e w3 ⟨rfl, hb⟩
        have HB3 := Lib.hid (below_call HBd.out hb)
        have HP3 := Lib.hid (HPd.out.below hb)
        obtain ⟨c0, c1, c2⟩ := HP3.out.three
        obtain ⟨f0, f1, f2, _⟩ := HP3.out.frz4
        clear hb HBd HPd HC
        go_wp2_with fail
        go_ret
        exact ⟨rfl, bel_put3 HB3.out HG.out _ _ _⟩
      · obtain ⟨s', he, hs0, hs1, hq, _⟩ := stp_go (s := s) (m := m) false hj (by have := HS.out; omega) (by have := HS.out; omega)
        have HC := Lib.hid (step_to _ _ _ _ _ _ _ he ⟨by have := HS.out; omega, by have := HS.out; omega⟩)
        have ha := and3 s'
        have hqm : s' % 4 = qr m := by have := HS.out.2.2; have := qr_range m; omega
        have hqm' : qr (m % 4) = s' % 4 := by rw [qr_mod, hqm]
        rw [hqm] at ha
        have HS' := Lib.hid (show -((k + 1 : Nat) : Int) ≤ s' ∧ s' ≤ ((k + 1 : Nat) : Int) ∧ qr (m % 4) = s' % 4 from ⟨by have := HS.out; omega, by have := HS.out; omega, hqm'⟩)
        clear hj he hs0 hs1 hq hqm hqm'
        rcases bit_cases m with ⟨e4, eq, b1, b2⟩ | ⟨e4, eq, b1, b2⟩ | ⟨e4, eq, b1, b2⟩ | ⟨e4, eq, b1, b2⟩
        all_goals
          rw [e4] at HC HS' b1 b2
          rw [eq] at ha
          clear e4 eq
          go_wp2_with fail
          go_still_tail 5, (by kernel_rfl)
          change wpList _ _ _ _ _ wr.drew
          generalize wr.drew = w2 at *
          clear c0 c1 c2 hc HP HB
          go_wp2_with fail
          (with_reducible refine (HC.out _).mono ?_)
          rintro e w3 ⟨rfl, hb⟩
          have HB3 := Lib.hid (below_call HBd.out hb)
          have HP3 := Lib.hid (HPd.out.below hb)
          obtain ⟨c0, c1, c2⟩ := HP3.out.three
          obtain ⟨f0, f1, f2, _⟩ := HP3.out.frz4
          clear hb HBd HPd HC
          go_wp2_with fail
          go_roundw
          case rel => exact ⟨k + 1, _, _, by omega, by go_num, Lib.hid (bel_put3 HB3.out HG.out _ _ _), Lib.hid (HP3.out.put3 _ _ _), HS'⟩
          case measure => simp [intOf]; omega
    · have hltI : ¬ (k : Int) < (n : Int) := by omega
      go_wp2_with fail
      go_ret
      exact ⟨rfl, HB.out⟩
theorem lies_any (v : Value) (xs : List Int) (w : World) (hv : Sl (Value.int .i64) w v xs) : Calls Try.prog 7 #[v] w fun e w' => e = .returned (.bool true) ∧ Below w.heap.size w w' := by
  by_cases h : xs.length ≤ 200
  · exact lies_main v xs w hv h
  · exact lies_out v xs w hv (by omega)
end Go.Proofs.Ytemomgbgfelooaa

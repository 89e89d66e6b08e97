/-
  The walk of crossbucklaw10.PairAxles: true, whatever it is given.
-/
import Derived.Test.YtemomgbgfelooaaSmall
namespace Go.Proofs.Ytemomgbgfelooaa
open Go.RowKit

abbrev bk4 : Array Value := #[.int .i64 2, .int .i64 3, .int .i64 1, .int .i64 0]
theorem bk4_at (k : Nat) (h : k < 4) : bk4[k]? = some (.int .i64 (rbk (k + 1))) := by
  match k, h with
  | 0, _ => rfl
  | 1, _ => rfl
  | 2, _ => rfl
  | 3, _ => rfl
  | n + 4, h => omega
theorem ron_mod (k : Nat) : ron (k % 4 + 1) = ron (k + 1) := by unfold ron; rw [show (k % 4 + 1) % 4 = (k + 1) % 4 by omega]
theorem rbk_mod (k : Nat) : rbk (k % 4 + 1) = rbk (k + 1) := by unfold rbk; rw [show (k % 4 + 1) % 4 = (k + 1) % 4 by omega]
theorem ron_four (n : Nat) : ron (4 * n) = 0 := by unfold ron; rw [show 4 * n % 4 = 0 by omega]; rfl
theorem rbk_four (n : Nat) : rbk (4 * n) = 0 := by unfold rbk; rw [show 4 * n % 4 = 0 by omega]; rfl
set_option maxHeartbeats 1000000 in
theorem axles_out (n m : Int) (w : World) (h : ¬ ((0 ≤ n ∧ n ≤ 500) ∧ 0 ≤ m ∧ m ≤ 500)) : Calls Try.prog 5 #[.int .i64 n, .int .i64 m] w fun e w' => e = .returned (.bool true) ∧ Below w.heap.size w w' := by
  rcases (show n < 0 ∨ (0 ≤ n ∧ 500 < n) ∨ ((0 ≤ n ∧ n ≤ 500) ∧ m < 0) ∨ ((0 ≤ n ∧ n ≤ 500) ∧ 0 ≤ m ∧ 500 < m) by omega) with h1 | ⟨h1, h2⟩ | ⟨⟨h1, h2⟩, h3⟩ | ⟨⟨h1, h2⟩, h3, h4⟩
  all_goals
    clear h
    go_enter Try.func5, Try.ntmps5
    go_wp2_with fail
    (with_reducible refine (small_true _).mono ?_)
    rintro e w1 ⟨rfl, hb⟩
    have HB1 := Lib.hid hb
    clear hb
    go_wp2_with fail
    go_ret
    exact ⟨rfl, HB1.out⟩
set_option maxHeartbeats 4000000 in
theorem axles_main (n m : Nat) (hn : n ≤ 500) (hm : m ≤ 500) (w : World) : Calls Try.prog 5 #[.int .i64 (n : Int), .int .i64 (m : Int)] w fun e w' => e = .returned (.bool true) ∧ Below w.heap.size w w' := by
  have p0 : ¬ ((n : Int) < 0) := by omega
  have p1 : ¬ (500 < (n : Int)) := by omega
  have p2 : ¬ ((m : Int) < 0) := by omega
  have p3 : ¬ (500 < (m : Int)) := by omega
  go_enter Try.func5, Try.ntmps5
  go_wp2_with fail
  (with_reducible refine (small_true _).mono ?_)
  rintro e w1 ⟨rfl, hb⟩
  have e1 : (w1.alloc (.cells #[.int .i64 0, .int .i64 0, .bool false] 23)).heap.size = w1.heap.size + 1 := by simp
  have e2 : ((w1.alloc (.cells #[.int .i64 0, .int .i64 0, .bool false] 23)).alloc (.cells on4 3)).heap.size = w1.heap.size + 2 := by simp
  have k1 := below_alloc (Below.refl _ (w1.alloc (.cells #[.int .i64 0, .int .i64 0, .bool false] 23))) (.cells on4 3)
  have k2 := below_alloc (Below.refl _ ((w1.alloc (.cells #[.int .i64 0, .int .i64 0, .bool false] 23)).alloc (.cells on4 3))) (.cells bk4 3)
  have HP0 := Lib.hid (((box3 w1 0 0 false).below k1).below k2)
  have HO0 := Lib.hid ((blk_new (w1.alloc (.cells #[.int .i64 0, .int .i64 0, .bool false] 23)) on4 3).below k2)
  have HK0 := Lib.hid (blk_new ((w1.alloc (.cells #[.int .i64 0, .int .i64 0, .bool false] 23)).alloc (.cells on4 3)) bk4 3)
  rw [e1] at HO0
  rw [e2] at HK0
  have HB0 := Lib.hid ((below_alloc hb (.cells #[.int .i64 0, .int .i64 0, .bool false] 23)).trans (k1.mono (by have := hb.size; omega)))
  have HB1 := Lib.hid (HB0.out.trans (k2.mono HB0.out.size))
  have HG := Lib.hid (show w.heap.size ≤ w1.heap.size from hb.size)
  obtain ⟨g, hg⟩ : ∃ g, g = w1.heap.size := ⟨_, rfl⟩
  rw [← hg] at HP0 HO0 HK0 HG
  clear hb e1 e2 k1 k2 HB0 p0 p1 p2 p3
  go_wp2_with fail
  rw [← hg]
  clear hg
  go_loopw [9] (fun i wr => ∃ k : Nat, k ≤ 4 * n ∧ i = .int .i64 (k : Int) ∧ Hid (Below w.heap.size w wr) ∧ Hid (Blk wr g #[.int .i64 (ron k), .int .i64 (k : Int), .bool false] 23) ∧ Hid (Blk wr (g + 1) on4 3) ∧ Hid (Blk wr (g + 2) bk4 3)) (fun i _ => 4 * n - (intOf i).toNat)
  case atStart => exact ⟨0, by omega, rfl, HB1, HP0, HO0, HK0⟩
  case round =>
    obtain ⟨k, hk, rfl, HB, HP, HO, HK⟩ := hrel
    clear HB1 HP0 HO0 HK0
    by_cases hlt : k < 4 * n
    · have HPd := Lib.hid (HP.out.below (bel_drew wr))
      have HOd := Lib.hid (HO.out.below (bel_drew wr))
      have HKd := Lib.hid (HK.out.below (bel_drew wr))
      have HBd := Lib.hid (below_call HB.out (bel_drew wr))
      have hltI : (k : Int) < 4 * (n : Int) := by omega
      have HS := Lib.hid (step_to _ _ _ _ _ _ _ (stp_on k (s := (k : Int)) false (by omega)) ⟨by omega, by omega⟩)
      obtain ⟨e, he⟩ : ∃ e, e = k % 4 := ⟨_, rfl⟩
      have c3 := HO.out.cell e (on4_at e (by omega))
      rw [he, ron_mod, ← he] at c3
      have hrm : (k : Int).tmod 4 = (e : Int) := by rw [Int.tmod_eq_emod_of_nonneg (by omega)]; omega
      have he4 : e < 4 := by omega
      have he4I : (e : Int) < 4 := by omega
      obtain ⟨c0, c1, c2⟩ := HP.out.three
      clear he
      go_wp2_with fail
      go_still_tail 6, (by kernel_rfl)
      change wpList _ _ _ _ _ wr.drew
      generalize wr.drew = w2 at *
      clear c0 c1 c2 c3 HP HO HK HB hrm he4 he4I
      go_wp2_with fail
      (with_reducible refine (HS.out _).mono ?_)
      rintro e w3 ⟨rfl, hb⟩
      have HB3 := Lib.hid (below_call HBd.out hb)
      have HP3 := Lib.hid (HPd.out.below hb)
      have HO3 := Lib.hid (HOd.out.below hb)
      have HK3 := Lib.hid (HKd.out.below hb)
      obtain ⟨c0, c1, c2⟩ := HP3.out.three
      obtain ⟨f0, f1, f2, _⟩ := HP3.out.frz4
      clear hb HBd HPd HOd HKd HS
      go_wp2_with fail
      go_roundw
      case rel => exact ⟨k + 1, by omega, by go_num, Lib.hid (bel_put3 HB3.out HG.out _ _ _), Lib.hid (HP3.out.put3 _ _ _), Lib.hid (HO3.out.far3 (by omega) _ _ _), Lib.hid (HK3.out.far3 (by omega) _ _ _)⟩
      case measure => simp [intOf]; omega
    · have HKN := Lib.hid (show k = 4 * n by omega)
      have HP1 := Lib.hid (show Blk wr g #[.int .i64 0, .int .i64 (4 * (n : Int)), .bool false] 23 by have := HP.out; rw [HKN.out, ron_four] at this; rw [show ((4 * n : Nat) : Int) = 4 * (n : Int) by omega] at this; exact this)
      have hltI : ¬ (k : Int) < 4 * (n : Int) := by omega
      obtain ⟨c0, c1, c2⟩ := HP1.out.three
      clear HP HO hlt
      go_wp2_with fail
      (with_reducible refine (axles_to 0 (4 * (n : Int)) false (n : Int) (by omega) _).mono ?_)
      rintro e w3 ⟨rfl, hb⟩
      have HB3 := Lib.hid (below_call HB.out hb)
      have HP3 := Lib.hid (HP1.out.below hb)
      have HK3 := Lib.hid (HK.out.below hb)
      clear hb HB HP1 HK c0 c1 c2
      go_wp2_with fail
      go_loopw [11] (fun i wq => ∃ j : Nat, j ≤ 4 * m ∧ i = .int .i64 (j : Int) ∧ Hid (Below w.heap.size w wq) ∧ Hid (Blk wq g #[.int .i64 (rbk j), .int .i64 (4 * (n : Int) - (j : Int)), .bool false] 23) ∧ Hid (Blk wq (g + 2) bk4 3)) (fun i _ => 4 * m - (intOf i).toNat)
      case atStart => exact ⟨0, by omega, rfl, HB3, Lib.hid (by have := HP3.out; rw [show (4 * (n : Int) - ((0 : Nat) : Int)) = 4 * (n : Int) by omega]; exact this), HK3⟩
      case round =>
        obtain ⟨j, hj, rfl, HB, HP, HK⟩ := hrel
        clear HB3 HP3 HK3
        by_cases hlt : j < 4 * m
        · have HPd := Lib.hid (HP.out.below (bel_drew wr))
          have HKd := Lib.hid (HK.out.below (bel_drew wr))
          have HBd := Lib.hid (below_call HB.out (bel_drew wr))
          have hltJ : (j : Int) < 4 * (m : Int) := by omega
          have HS := Lib.hid (step_to _ _ _ _ _ _ _ (stp_bk j (s := 4 * (n : Int) - (j : Int)) false (by omega)) ⟨by omega, by omega⟩)
          obtain ⟨e, he⟩ : ∃ e, e = j % 4 := ⟨_, rfl⟩
          have c3 := HK.out.cell e (bk4_at e (by omega))
          rw [he, rbk_mod, ← he] at c3
          have hrm : (j : Int).tmod 4 = (e : Int) := by rw [Int.tmod_eq_emod_of_nonneg (by omega)]; omega
          have he4 : e < 4 := by omega
          have he4I : (e : Int) < 4 := by omega
          obtain ⟨c0, c1, c2⟩ := HP.out.three
          obtain ⟨s, hs⟩ : ∃ s, s = 4 * (n : Int) - (j : Int) := ⟨_, rfl⟩
          rw [← hs] at c1 HS HPd
          have HSS := Lib.hid hs
          clear he hs
          go_wp2_with fail
          go_still_tail 6, (by kernel_rfl)
          change wpList _ _ _ _ _ wr.drew
          generalize wr.drew = w2 at *
          clear c0 c1 c2 c3 HP HK HB hrm he4 he4I
          go_wp2_with fail
          (with_reducible refine (HS.out _).mono ?_)
          rintro e w3 ⟨rfl, hb⟩
          have HB3 := Lib.hid (below_call HBd.out hb)
          have HP3 := Lib.hid (HPd.out.below hb)
          have HK3 := Lib.hid (HKd.out.below hb)
          obtain ⟨c0, c1, c2⟩ := HP3.out.three
          obtain ⟨f0, f1, f2, _⟩ := HP3.out.frz4
          clear hb HBd HPd HKd HS
          go_wp2_with fail
          go_roundw
          case rel =>
            refine ⟨j + 1, by omega, by go_num, Lib.hid (bel_put3 HB3.out HG.out _ _ _), Lib.hid ?_, Lib.hid (HK3.out.far3 (by omega) _ _ _)⟩
            rw [show 4 * (n : Int) - ((j + 1 : Nat) : Int) = s - 1 by have := HSS.out; omega]
            exact HP3.out.put3 _ _ _
          case measure => simp [intOf]; omega
        · have HJM := Lib.hid (show j = 4 * m by omega)
          have HP1 := Lib.hid (show Blk wr g #[.int .i64 0, .int .i64 (4 * (n : Int) - 4 * (m : Int)), .bool false] 23 by have := HP.out; rw [HJM.out, rbk_four] at this; rw [show ((4 * m : Nat) : Int) = 4 * (m : Int) by omega] at this; exact this)
          have hltJ : ¬ (j : Int) < 4 * (m : Int) := by omega
          have q1 : ((n : Int) == (n : Int)) = true := by simp
          obtain ⟨c0, c1, c2⟩ := HP1.out.three
          clear HP hlt
          go_wp2_with fail
          (with_reducible refine (axles_to 0 (4 * (n : Int) - 4 * (m : Int)) false ((n : Int) - (m : Int)) (by omega) _).mono ?_)
          rintro e w4 ⟨rfl, hb⟩
          have HB4 := Lib.hid (below_call HB.out hb)
          have HP4 := Lib.hid (HP1.out.below hb)
          clear hb HB HP1 c0 c1 c2
          obtain ⟨c0, c1, c2⟩ := HP4.out.three
          go_wp2_with fail
          (with_reducible refine (rest_to 0 (4 * (n : Int) - 4 * (m : Int)) false true rfl _).mono ?_)
          rintro e w5 ⟨rfl, hb⟩
          have HB5 := Lib.hid (below_call HB4.out hb)
          clear hb HB4 HP4 c0 c1 c2
          go_wp2_with fail
          go_ret
          exact ⟨by simp, HB5.out⟩
theorem pairAxles_any (n m : Int) (w : World) : Calls Try.prog 5 #[.int .i64 n, .int .i64 m] w fun e w' => e = .returned (.bool true) ∧ Below w.heap.size w w' := by
  by_cases h : (0 ≤ n ∧ n ≤ 500) ∧ 0 ≤ m ∧ m ≤ 500
  · obtain ⟨n', rfl⟩ : ∃ k : Nat, n = (k : Int) := ⟨n.toNat, by omega⟩
    obtain ⟨m', rfl⟩ : ∃ k : Nat, m = (k : Int) := ⟨m.toNat, by omega⟩
    exact axles_main n' m' (by omega) (by omega) w
  · exact axles_out n m w h
end Go.Proofs.Ytemomgbgfelooaa

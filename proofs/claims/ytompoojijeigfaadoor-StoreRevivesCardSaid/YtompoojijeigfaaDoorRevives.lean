/-
  The walk of crossbucklaw15.StoreRevives: true, whatever it is given.
-/
import Derived.Test.YtompoojijeigfaaDoorSmall
import Derived.Deep.RegionHeld3
namespace Go.Proofs.YtompoojijeigfaaDoor
open Go.RowKit

set_option maxHeartbeats 2000000 in
set_option maxRecDepth 10000 in
theorem revives_any (v : Value) (ys : List (BitVec 8)) (w : World) (hv : Byts w v ys) (hl : ys.length ≤ 140737488351232) (after : Int) (ha : after ≤ 9223372036854775807) :
    Calls Tryd.prog 6 #[v, .int .i64 after] w fun e w' => e = .returned (.bool true) ∧ Below w.heap.size w w' := by
  obtain ⟨av, cv, ev⟩ := hv.len
  obtain ⟨n, hn⟩ : ∃ n, n = ys.length := ⟨_, rfl⟩
  have HN := Lib.hid hn
  rw [← hn] at ev hl
  have HV := Lib.hid hv
  have HL := Lib.hid hl
  have HA := Lib.hid ha
  have HS := Lib.hid (small_true w)
  subst ev
  clear hv hn hl ha
  go_enter Tryd.func6, Tryd.ntmps6
  go_wp2_with fail
  (with_reducible refine HS.out.mono ?_)
  rintro e w1 ⟨rfl, hb⟩
  have HB := Lib.hid hb
  obtain ⟨m, hm⟩ : ∃ m : Nat, m = min n 65536 := ⟨_, rfl⟩
  have HNEW := Lib.hid (mine_new (n : Int) m (by omega) hb)
  have HMm := Lib.hid hm
  clear hb hm HS
  go_wp2_with fail
  (with_reducible refine HNEW.out.mono ?_)
  rintro e w2 ⟨s, B, rfl, hM, hb⟩
  have HM := Lib.hid hM
  clear hM hb HNEW HB
  by_cases c0 : n = 0
  · subst c0
    go_wp2_with fail
    go_ret
    exact ⟨rfl, HM.out.bel⟩
  have q0 : decide ((n : Int) < 1) = false := decide_eq_false (by omega)
  by_cases c1 : 2000 < n
  · have q1 : decide (2000 < (n : Int)) = true := decide_eq_true (by omega)
    go_wp2_with fail
    go_ret
    exact ⟨rfl, HM.out.bel⟩
  have q1 : decide (2000 < (n : Int)) = false := decide_eq_false (by omega)
  have r1 : decide (2000 < n) = false := decide_eq_false (by omega)
  by_cases c2 : after < 0
  · have q2 : decide (after < 0) = true := decide_eq_true c2
    go_wp2_with fail
    go_ret
    exact ⟨rfl, HM.out.bel⟩
  have q2 : decide (after < 0) = false := decide_eq_false c2
  obtain ⟨k, rfl⟩ : ∃ k : Nat, after = (k : Int) := ⟨after.toNat, by omega⟩
  by_cases c3 : n ≤ k
  · have q3 : decide ((n : Int) ≤ (k : Int)) = true := decide_eq_true (by omega)
    have r3 : decide (n ≤ k) = true := decide_eq_true c3
    go_wp2_with fail
    go_ret
    exact ⟨rfl, HM.out.bel⟩
  have q3 : decide ((n : Int) ≤ (k : Int)) = false := decide_eq_false (by omega)
  have r3 : decide (n ≤ k) = false := decide_eq_false c3
  obtain rfl : m = n := by have := HMm.out; omega
  have HN1 := Lib.hid (show 1 ≤ m by omega)
  have HKM := Lib.hid (show k < m by omega)
  clear c0 c1 c2 c3 HMm
  obtain ⟨X0, HX0⟩ : ∃ X0, Hid (X0 = List.replicate m 255#8) := ⟨_, Lib.hid rfl⟩
  rw [← HX0.out] at HM
  have HL0 := Lib.hid (show X0.length = m by rw [HX0.out]; simp)
  clear HX0
  have HK := Lib.hid (kill_to HM.out.sto (k : Int) k (by omega) HA.out)
  go_wp2_with fail
  (with_reducible refine HK.out.mono ?_)
  rintro e w3 ⟨rfl, hs, hk⟩
  have HM3 := Lib.hid (HM.out.call hs hk)
  clear HK HM hs hk q0 q1 r1 q2 q3 r3
  have HW := Lib.hid (write_to HM3.out.sto 0 0 rfl _ ys (HV.out.below HM3.out.bel) (by rw [HL0.out, ← HN.out]; omega) k 0 (.inr ⟨rfl, by have := HN.out; have := HKM.out; omega, by omega⟩) true 7 (.inr ⟨by have := HN.out; have := HKM.out; omega, rfl, rfl⟩))
  go_wp2_with fail
  (with_reducible refine HW.out.mono ?_)
  rintro e w4 ⟨ve, rfl, he, hs, hk⟩
  have HE4 := Lib.hid (HM3.out.err he)
  have HM4 := Lib.hid (HM3.out.call hs hk)
  obtain ⟨X1, HX1⟩ : ∃ X1, Hid (X1 = splice X0 0 (ys.take k)) := ⟨_, Lib.hid rfl⟩
  rw [← HX1.out] at HM4
  have HL1 := Lib.hid (show X1.length = m by rw [HX1.out, length_splice _ _ _ (by rw [List.length_take, HL0.out, ← HN.out]; omega), HL0.out])
  have HZZ := Lib.hid (show (X1.drop 0).take m = X1 by rw [List.drop_zero, List.take_of_length_le (by rw [HL1.out]; omega)])
  clear HW HM3 he hs hk HX1 HL0
  have HR := Lib.hid (read_to HM4.out.sto 0 (m : Int) 0 m rfl rfl HN1.out (by rw [HL1.out]; omega))
  rw [HZZ.out] at HR
  go_wp2_with fail
  (with_reducible refine HR.out.mono ?_)
  rintro e w5 ⟨v1, rfl, ho, hb⟩
  obtain ⟨a1, c1, e1⟩ := ho.byts.len
  rw [HL1.out] at e1
  subst e1
  have HZ1 := Lib.hid ho.far
  have HLT4 := Lib.hid HM4.out.lt
  have HE5 := Lib.hid (HE4.out.below hb)
  have HM5 := Lib.hid (HM4.out.below hb)
  clear HR HM4 HE4 ho hb
  have HR := Lib.hid (revive_to HM5.out.sto)
  go_wp2_with fail
  (with_reducible refine HR.out.mono ?_)
  rintro e w6 ⟨rfl, hs, hk⟩
  have HZ1' := Lib.hid (HZ1.out.keep hk HLT4.out)
  have HE6 := Lib.hid (HE5.out.keep hk)
  have HM6 := Lib.hid (HM5.out.call hs hk)
  clear HR HM5 HE5 HZ1 hs hk
  have HR := Lib.hid (read_to HM6.out.sto 0 (m : Int) 0 m rfl rfl HN1.out (by rw [HL1.out]; omega))
  rw [HZZ.out] at HR
  go_wp2_with fail
  (with_reducible refine HR.out.mono ?_)
  rintro e w7 ⟨v2, rfl, ho, hb⟩
  obtain ⟨a2, c2, e2⟩ := ho.byts.len
  rw [HL1.out] at e2
  subst e2
  have HZ2 := Lib.hid ho.far
  have HLT6 := Lib.hid HM6.out.lt
  have HZ1 := Lib.hid (HZ1'.out.below hb)
  have HE7 := Lib.hid (HE6.out.below hb)
  have HM7 := Lib.hid (HM6.out.below hb)
  clear HR HM6 HE6 HZ1' ho hb HZZ
  have HT := Lib.hid (show ys.take m = ys by rw [List.take_of_length_le (by rw [← HN.out]; omega)])
  have HW := Lib.hid (write_to HM7.out.sto 0 0 rfl _ ys (HV.out.below HM7.out.bel) (by rw [HL1.out, ← HN.out]; omega) m 0 (.inl ⟨rfl, HN.out, rfl⟩) false 0 (.inl ⟨HN.out, rfl, rfl⟩))
  rw [HT.out, splice_whole X1 ys (by rw [HL1.out, HN.out])] at HW
  go_wp2_with fail
  (with_reducible refine HW.out.mono ?_)
  rintro e w8 ⟨vf, rfl, he, hs, hk⟩
  obtain rfl := he.nil
  have HZ1' := Lib.hid (HZ1.out.keep hk HLT4.out)
  have HZ2' := Lib.hid (HZ2.out.keep hk HLT6.out)
  have HE8 := Lib.hid (HE7.out.keep hk)
  have HM8 := Lib.hid (HM7.out.call hs hk)
  clear HW HM7 HE7 HZ1 HZ2 he hs hk
  have HW := Lib.hid (write_to HM8.out.sto 0 0 rfl _ ys (HV.out.below HM8.out.bel) (by omega) m 0 (.inl ⟨rfl, HN.out, rfl⟩) false 0 (.inl ⟨HN.out, rfl, rfl⟩))
  rw [HT.out, splice_whole ys ys rfl] at HW
  go_wp2_with fail
  (with_reducible refine HW.out.mono ?_)
  rintro e wx ⟨vg, rfl, he, hs, hk⟩
  obtain rfl := he.nil
  have HZ1 := Lib.hid (HZ1'.out.keep hk HLT4.out).1
  have HZ2 := Lib.hid (HZ2'.out.keep hk HLT6.out).1
  have HE := Lib.hid (HE8.out.keep hk)
  have HM := Lib.hid (HM8.out.call hs hk)
  have HVx := Lib.hid (HV.out.below HM.out.bel)
  obtain ⟨n, HNm⟩ : ∃ n, Hid (n = m) := ⟨_, Lib.hid rfl⟩
  clear HW HM8 HE8 HZ1' HZ2' he hs hk HT HLT4 HLT6 HL1 HKM HA
  obtain rfl := HNm.out
  have Hn1 := HN1
  have HLn := Lib.hid (show 0 + n ≤ ys.length by rw [← HN.out]; omega)
  have HZ := Lib.hid (show (ys.drop 0).take n = ys by rw [List.drop_zero, List.take_of_length_le (by rw [← HN.out]; omega)])
  have HNN := HN
  clear HN HN1 HNm HV
  have HV := HVx
  go_wp2_with fail
  refine wp_region_held_drew (S := fun w' => Below wx.heap.size wx w') (by kernel_rfl) (bel_drew wx) (fun hHeld => ?_)
  refine wpAnyH_take (i := 0) (oi := ?_) (v := ?_) ?_ (by kernel_rfl) (by kernel_rfl) (by kernel_rfl) ?_ (Or.inl ⟨?_, ?_⟩) hHeld ?_
  rotate_left 2
  · (simp only [List.getElem?_toArray, List.getElem?_cons_zero]; rfl)
  · exact (fun _ _ _ h => h)
  · rfl
  · (intro w hSw; (try dsimp only at hSw); go_simp; try with_reducible rfl)
  (try simp only [Act.put, List.setIfInBounds_toArray, List.set_cons_zero, List.set_cons_succ])
  refine wpAnyH_take (i := 1) (oi := ?_) (v := ?_) ?_ (by kernel_rfl) (by kernel_rfl) (by kernel_rfl) ?_ (Or.inl ⟨?_, ?_⟩) hHeld ?_
  rotate_left 2
  · (simp only [List.getElem?_toArray, List.getElem?_cons_zero, List.getElem?_cons_succ]; rfl)
  · exact (fun _ _ _ h => h)
  · rfl
  · (intro w hSw; (try dsimp only at hSw); go_simp; try with_reducible rfl)
  (try simp only [Act.put, List.setIfInBounds_toArray, List.set_cons_zero, List.set_cons_succ])
  refine wpAnyH_take (i := 2) (oi := ?_) (v := ?_) ?_ (by kernel_rfl) (by kernel_rfl) (by kernel_rfl) ?_ (Or.inl ⟨?_, ?_⟩) hHeld ?_
  rotate_left 2
  · (simp only [List.getElem?_toArray, List.getElem?_cons_zero, List.getElem?_cons_succ]; rfl)
  · exact (fun _ _ _ h => h)
  · rfl
  · (intro w hSw; (try dsimp only at hSw); go_simp; try with_reducible rfl)
  (try simp only [Act.put, List.setIfInBounds_toArray, List.set_cons_zero, List.set_cons_succ])
  refine wpAnyH_ready (rs := [3]) (by kernel_rfl) (by simp) ?_
  refine AllReadyH.cons (o := ?_) ?_ (fun K hK => ?_) AllReadyH.nil
  rotate_left
  · (simp only [List.getElem?_toArray, List.getElem?_cons_zero, List.getElem?_cons_succ]; rfl)
  go_simp
  (with_reducible refine ((HE.out.below hHeld).code).mono ?_)
  rintro e w' ⟨rfl, rfl⟩
  go_wp2_with fail
  refine hK.out _ _ hHeld (fun hHeld => ?_)
  clear hK K
  (try simp only [Act.put, List.setIfInBounds_toArray, List.set_cons_zero, List.set_cons_succ])
  refine wpAnyH_take (i := 4) (oi := ?_) (v := ?_) ?_ (by kernel_rfl) (by kernel_rfl) (by kernel_rfl) ?_ (Or.inl ⟨?_, ?_⟩) hHeld ?_
  rotate_left 2
  · (simp only [List.getElem?_toArray, List.getElem?_cons_zero, List.getElem?_cons_succ]; rfl)
  · exact (fun _ _ _ h => h)
  · rfl
  · (intro w hSw; (try dsimp only at hSw); go_simp; try with_reducible rfl)
  (try simp only [Act.put, List.setIfInBounds_toArray, List.set_cons_zero, List.set_cons_succ])
  refine wpAnyH_take (i := 5) (oi := ?_) (v := ?_) ?_ (by kernel_rfl) (by kernel_rfl) (by kernel_rfl) ?_ (Or.inl ⟨?_, ?_⟩) hHeld ?_
  rotate_left 2
  · (simp only [List.getElem?_toArray, List.getElem?_cons_zero, List.getElem?_cons_succ]; rfl)
  · exact (fun _ _ _ h => h)
  · rfl
  · (intro w hSw; (try dsimp only at hSw); go_simp; try with_reducible rfl)
  (try simp only [Act.put, List.setIfInBounds_toArray, List.set_cons_zero, List.set_cons_succ])
  refine wpAnyH_take (i := 6) (oi := ?_) (v := ?_) ?_ (by kernel_rfl) (by kernel_rfl) (by kernel_rfl) ?_ (Or.inl ⟨?_, ?_⟩) hHeld ?_
  rotate_left 2
  · (simp only [List.getElem?_toArray, List.getElem?_cons_zero, List.getElem?_cons_succ]; rfl)
  · exact (fun _ _ _ h => h)
  · rfl
  · (intro w hSw; (try dsimp only at hSw); go_simp; try with_reducible rfl)
  (try simp only [Act.put, List.setIfInBounds_toArray, List.set_cons_zero, List.set_cons_succ])
  refine wpAnyH_take (i := 7) (oi := ?_) (v := ?_) ?_ (by kernel_rfl) (by kernel_rfl) (by kernel_rfl) ?_ (Or.inl ⟨?_, ?_⟩) hHeld ?_
  rotate_left 2
  · (simp only [List.getElem?_toArray, List.getElem?_cons_zero, List.getElem?_cons_succ]; rfl)
  · exact (fun _ _ _ h => h)
  · rfl
  · (intro w hSw; (try dsimp only at hSw); go_simp; try with_reducible rfl)
  (try simp only [Act.put, List.setIfInBounds_toArray, List.set_cons_zero, List.set_cons_succ])
  refine wpAnyH_take (i := 8) (oi := ?_) (v := ?_) ?_ (by kernel_rfl) (by kernel_rfl) (by kernel_rfl) ?_ (Or.inl ⟨?_, ?_⟩) hHeld ?_
  rotate_left 2
  · (simp only [List.getElem?_toArray, List.getElem?_cons_zero, List.getElem?_cons_succ]; rfl)
  · exact (fun _ _ _ h => h)
  · rfl
  · (intro w hSw; (try dsimp only at hSw); have hq := txt_run _ _ _ (HZ1.out.below hSw); go_simp; try with_reducible rfl)
  (try simp only [Act.put, List.setIfInBounds_toArray, List.set_cons_zero, List.set_cons_succ])
  refine wpAnyH_take (i := 9) (oi := ?_) (v := ?_) ?_ (by kernel_rfl) (by kernel_rfl) (by kernel_rfl) ?_ (Or.inl ⟨?_, ?_⟩) hHeld ?_
  rotate_left 2
  · (simp only [List.getElem?_toArray, List.getElem?_cons_zero, List.getElem?_cons_succ]; rfl)
  · exact (fun _ _ _ h => h)
  · rfl
  · (intro w hSw; (try dsimp only at hSw); go_simp; try with_reducible rfl)
  (try simp only [Act.put, List.setIfInBounds_toArray, List.set_cons_zero, List.set_cons_succ])
  refine wpAnyH_take (i := 10) (oi := ?_) (v := ?_) ?_ (by kernel_rfl) (by kernel_rfl) (by kernel_rfl) ?_ (Or.inl ⟨?_, ?_⟩) hHeld ?_
  rotate_left 2
  · (simp only [List.getElem?_toArray, List.getElem?_cons_zero, List.getElem?_cons_succ]; rfl)
  · exact (fun _ _ _ h => h)
  · rfl
  · (intro w hSw; (try dsimp only at hSw); have hq := txt_run _ _ _ (HZ2.out.below hSw); go_simp; try with_reducible rfl)
  (try simp only [Act.put, List.setIfInBounds_toArray, List.set_cons_zero, List.set_cons_succ])
  refine wpAnyH_take (i := 11) (oi := ?_) (v := ?_) ?_ (by kernel_rfl) (by kernel_rfl) (by kernel_rfl) ?_ (Or.inl ⟨?_, ?_⟩) hHeld ?_
  rotate_left 2
  · (simp only [List.getElem?_toArray, List.getElem?_cons_zero, List.getElem?_cons_succ]; rfl)
  · exact (fun _ _ _ h => h)
  · rfl
  · (intro w hSw; (try dsimp only at hSw); go_simp; try with_reducible rfl)
  (try simp only [Act.put, List.setIfInBounds_toArray, List.set_cons_zero, List.set_cons_succ])
  refine wpAnyH_take (i := 12) (oi := ?_) (v := ?_) ?_ (by kernel_rfl) (by kernel_rfl) (by kernel_rfl) ?_ (Or.inl ⟨?_, ?_⟩) hHeld ?_
  rotate_left 2
  · (simp only [List.getElem?_toArray, List.getElem?_cons_zero, List.getElem?_cons_succ]; rfl)
  · exact (fun _ _ _ h => h)
  · rfl
  · (intro w hSw; (try dsimp only at hSw); go_simp; try with_reducible rfl)
  (try simp only [Act.put, List.setIfInBounds_toArray, List.set_cons_zero, List.set_cons_succ])
  refine wpAnyH_take (i := 13) (oi := ?_) (v := ?_) ?_ (by kernel_rfl) (by kernel_rfl) (by kernel_rfl) ?_ (Or.inl ⟨?_, ?_⟩) hHeld ?_
  rotate_left 2
  · (simp only [List.getElem?_toArray, List.getElem?_cons_zero, List.getElem?_cons_succ]; rfl)
  · exact (fun _ _ _ h => h)
  · rfl
  · (intro w hSw; (try dsimp only at hSw); go_simp; try with_reducible rfl)
  (try simp only [Act.put, List.setIfInBounds_toArray, List.set_cons_zero, List.set_cons_succ])
  refine wpAnyH_take (i := 14) (oi := ?_) (v := ?_) ?_ (by kernel_rfl) (by kernel_rfl) (by kernel_rfl) ?_ (Or.inl ⟨?_, ?_⟩) hHeld ?_
  rotate_left 2
  · (simp only [List.getElem?_toArray, List.getElem?_cons_zero, List.getElem?_cons_succ]; rfl)
  · exact (fun _ _ _ h => h)
  · rfl
  · (intro w hSw; (try dsimp only at hSw); go_simp; try with_reducible rfl)
  (try simp only [Act.put, List.setIfInBounds_toArray, List.set_cons_zero, List.set_cons_succ])
  refine wpAnyH_take (i := 15) (oi := ?_) (v := ?_) ?_ (by kernel_rfl) (by kernel_rfl) (by kernel_rfl) ?_ (Or.inl ⟨?_, ?_⟩) hHeld ?_
  rotate_left 2
  · (simp only [List.getElem?_toArray, List.getElem?_cons_zero, List.getElem?_cons_succ]; rfl)
  · exact (fun _ _ _ h => h)
  · rfl
  · (intro w hSw; (try dsimp only at hSw); go_simp; try with_reducible rfl)
  (try simp only [Act.put, List.setIfInBounds_toArray, List.set_cons_zero, List.set_cons_succ])
  refine wpAnyH_take (i := 16) (oi := ?_) (v := ?_) ?_ (by kernel_rfl) (by kernel_rfl) (by kernel_rfl) ?_ (Or.inl ⟨?_, ?_⟩) hHeld ?_
  rotate_left 2
  · (simp only [List.getElem?_toArray, List.getElem?_cons_zero, List.getElem?_cons_succ]; rfl)
  · exact (fun _ _ _ h => h)
  · rfl
  · (intro w hSw; (try dsimp only at hSw); go_simp; try with_reducible rfl)
  (try simp only [Act.put, List.setIfInBounds_toArray, List.set_cons_zero, List.set_cons_succ])
  refine wpAnyH_take (i := 17) (oi := ?_) (v := ?_) ?_ (by kernel_rfl) (by kernel_rfl) (by kernel_rfl) ?_ (Or.inl ⟨?_, ?_⟩) hHeld ?_
  rotate_left 2
  · (simp only [List.getElem?_toArray, List.getElem?_cons_zero, List.getElem?_cons_succ]; rfl)
  · exact (fun _ _ _ h => h)
  · rfl
  · (intro w hSw; (try dsimp only at hSw); go_simp; try with_reducible rfl)
  (try simp only [Act.put, List.setIfInBounds_toArray, List.set_cons_zero, List.set_cons_succ])
  refine wpAnyH_take (i := 18) (oi := ?_) (v := ?_) ?_ (by kernel_rfl) (by kernel_rfl) (by kernel_rfl) ?_ (Or.inl ⟨?_, ?_⟩) hHeld ?_
  rotate_left 2
  · (simp only [List.getElem?_toArray, List.getElem?_cons_zero, List.getElem?_cons_succ]; rfl)
  · exact (fun _ _ _ h => h)
  · rfl
  · (intro w hSw; (try dsimp only at hSw); go_simp; try with_reducible rfl)
  (try simp only [Act.put, List.setIfInBounds_toArray, List.set_cons_zero, List.set_cons_succ])
  refine wpAnyH_take (i := 19) (oi := ?_) (v := ?_) ?_ (by kernel_rfl) (by kernel_rfl) (by kernel_rfl) ?_ (Or.inl ⟨?_, ?_⟩) hHeld ?_
  rotate_left 2
  · (simp only [List.getElem?_toArray, List.getElem?_cons_zero, List.getElem?_cons_succ]; rfl)
  · exact (fun _ _ _ h => h)
  · rfl
  · (intro w hSw; (try dsimp only at hSw); go_simp; try with_reducible rfl)
  (try simp only [Act.put, List.setIfInBounds_toArray, List.set_cons_zero, List.set_cons_succ])
  refine wpAnyH_take (i := 20) (oi := ?_) (v := ?_) ?_ (by kernel_rfl) (by kernel_rfl) (by kernel_rfl) ?_ (Or.inl ⟨?_, ?_⟩) hHeld ?_
  rotate_left 2
  · (simp only [List.getElem?_toArray, List.getElem?_cons_zero, List.getElem?_cons_succ]; rfl)
  · exact (fun _ _ _ h => h)
  · rfl
  · (intro w hSw; (try dsimp only at hSw); go_simp; try with_reducible rfl)
  (try simp only [Act.put, List.setIfInBounds_toArray, List.set_cons_zero, List.set_cons_succ])
  refine wpAnyH_take (i := 21) (oi := ?_) (v := ?_) ?_ (by kernel_rfl) (by kernel_rfl) (by kernel_rfl) ?_ (Or.inl ⟨?_, ?_⟩) hHeld ?_
  rotate_left 2
  · (simp only [List.getElem?_toArray, List.getElem?_cons_zero, List.getElem?_cons_succ]; rfl)
  · exact (fun _ _ _ h => h)
  · rfl
  · (intro w hSw; (try dsimp only at hSw); go_simp; try with_reducible rfl)
  (try simp only [Act.put, List.setIfInBounds_toArray, List.set_cons_zero, List.set_cons_succ])
  refine wpAnyH_take (i := 22) (oi := ?_) (v := ?_) ?_ (by kernel_rfl) (by kernel_rfl) (by kernel_rfl) ?_ (Or.inl ⟨?_, ?_⟩) hHeld ?_
  rotate_left 2
  · (simp only [List.getElem?_toArray, List.getElem?_cons_zero, List.getElem?_cons_succ]; rfl)
  · exact (fun _ _ _ h => h)
  · rfl
  · (intro w hSw; (try dsimp only at hSw); go_simp; try with_reducible rfl)
  (try simp only [Act.put, List.setIfInBounds_toArray, List.set_cons_zero, List.set_cons_succ])
  refine wpAnyH_take (i := 23) (oi := ?_) (v := ?_) ?_ (by kernel_rfl) (by kernel_rfl) (by kernel_rfl) ?_ (Or.inl ⟨?_, ?_⟩) hHeld ?_
  rotate_left 2
  · (simp only [List.getElem?_toArray, List.getElem?_cons_zero, List.getElem?_cons_succ]; rfl)
  · exact (fun _ _ _ h => h)
  · rfl
  · (intro w hSw; (try dsimp only at hSw); go_simp; try with_reducible rfl)
  (try simp only [Act.put, List.setIfInBounds_toArray, List.set_cons_zero, List.set_cons_succ])
  refine wpAnyH_take (i := 24) (oi := ?_) (v := ?_) ?_ (by kernel_rfl) (by kernel_rfl) (by kernel_rfl) ?_ (Or.inl ⟨?_, ?_⟩) hHeld ?_
  rotate_left 2
  · (simp only [List.getElem?_toArray, List.getElem?_cons_zero, List.getElem?_cons_succ]; rfl)
  · exact (fun _ _ _ h => h)
  · rfl
  · (intro w hSw; (try dsimp only at hSw); go_simp; try with_reducible rfl)
  (try simp only [Act.put, List.setIfInBounds_toArray, List.set_cons_zero, List.set_cons_succ])
  refine wpAnyH_take (i := 27) (oi := ?_) (v := ?_) ?_ (by kernel_rfl) (by kernel_rfl) (by kernel_rfl) ?_ (Or.inl ⟨?_, ?_⟩) hHeld ?_
  rotate_left 2
  · (simp only [List.getElem?_toArray, List.getElem?_cons_zero, List.getElem?_cons_succ]; rfl)
  · exact (fun _ _ _ h => h)
  · rfl
  · (intro w hSw; (try dsimp only at hSw); go_simp; try with_reducible rfl)
  (try simp only [Act.put, List.setIfInBounds_toArray, List.set_cons_zero, List.set_cons_succ])
  refine wpAnyH_take (i := 28) (oi := ?_) (v := ?_) ?_ (by kernel_rfl) (by kernel_rfl) (by kernel_rfl) ?_ (Or.inl ⟨?_, ?_⟩) hHeld ?_
  rotate_left 2
  · (simp only [List.getElem?_toArray, List.getElem?_cons_zero, List.getElem?_cons_succ]; rfl)
  · exact (fun _ _ _ h => h)
  · rfl
  · (intro w hSw; (try dsimp only at hSw); have hq := txt_run _ _ _ (HV.out.below hSw); go_simp; try with_reducible rfl)
  (try simp only [Act.put, List.setIfInBounds_toArray, List.set_cons_zero, List.set_cons_succ])
  refine wpAnyH_ready (rs := [25]) (by kernel_rfl) (by simp) ?_
  refine AllReadyH.cons (o := ?_) ?_ (fun K hK => ?_) AllReadyH.nil
  rotate_left
  · (simp only [List.getElem?_toArray, List.getElem?_cons_zero, List.getElem?_cons_succ]; rfl)
  go_simp
  (with_reducible refine (read_to (HM.out.sto.below hHeld) 0 (n : Int) 0 n rfl rfl Hn1.out HLn.out).mono ?_)
  rintro e wz ⟨vz, rfl, ho, hb⟩
  have HMz := Lib.hid ((HM.out.below hHeld).below hb)
  rw [HZ.out] at ho
  obtain ⟨az, cz, ez⟩ := ho.byts.len
  rw [← HNN.out] at ez
  subst ez
  have hz := txt_run _ _ _ ho.byts
  go_wp2_with fail
  refine hK.out _ _ (below_call hHeld hb) (fun hHeld => ?_)
  clear hK K
  (try simp only [Act.put, List.setIfInBounds_toArray, List.set_cons_zero, List.set_cons_succ])
  refine wpAnyH_ready (rs := [26]) (by kernel_rfl) (by simp) ?_
  refine AllReadyH.cons (o := ?_) ?_ (fun K hK => ?_) AllReadyH.nil
  rotate_left
  · (simp only [List.getElem?_toArray, List.getElem?_cons_zero, List.getElem?_cons_succ]; rfl)
  go_simp
  refine hK.out _ _ hHeld (fun hHeld => ?_)
  clear hK K
  (try simp only [Act.put, List.setIfInBounds_toArray, List.set_cons_zero, List.set_cons_succ])
  refine wpAnyH_take (i := 29) (oi := ?_) (v := ?_) ?_ (by kernel_rfl) (by kernel_rfl) (by kernel_rfl) ?_ (Or.inl ⟨?_, ?_⟩) hHeld ?_
  rotate_left 2
  · (simp only [List.getElem?_toArray, List.getElem?_cons_zero, List.getElem?_cons_succ]; rfl)
  · exact (fun _ _ _ h => h)
  · rfl
  · (intro w hSw; (try dsimp only at hSw); go_simp; try with_reducible rfl)
  (try simp only [Act.put, List.setIfInBounds_toArray, List.set_cons_zero, List.set_cons_succ])
  refine wpAnyH_take (i := 30) (oi := ?_) (v := ?_) ?_ (by kernel_rfl) (by kernel_rfl) (by kernel_rfl) ?_ (Or.inl ⟨?_, ?_⟩) hHeld ?_
  rotate_left 2
  · (simp only [List.getElem?_toArray, List.getElem?_cons_zero, List.getElem?_cons_succ]; rfl)
  · exact (fun _ _ _ h => h)
  · rfl
  · (intro w hSw; (try dsimp only at hSw); go_simp; try with_reducible rfl)
  (try simp only [Act.put, List.setIfInBounds_toArray, List.set_cons_zero, List.set_cons_succ])
  refine wpAnyH_take (i := 31) (oi := ?_) (v := ?_) ?_ (by kernel_rfl) (by kernel_rfl) (by kernel_rfl) ?_ (Or.inl ⟨?_, ?_⟩) hHeld ?_
  rotate_left 2
  · (simp only [List.getElem?_toArray, List.getElem?_cons_zero, List.getElem?_cons_succ]; rfl)
  · exact (fun _ _ _ h => h)
  · rfl
  · (intro w hSw; (try dsimp only at hSw); go_simp; try with_reducible rfl)
  (try simp only [Act.put, List.setIfInBounds_toArray, List.set_cons_zero, List.set_cons_succ])
  refine wpAnyH_done (by kernel_rfl) ?_ _
  go_wp2_with fail
  go_ret
  exact ⟨rfl, HMz.out.bel⟩
end Go.Proofs.YtompoojijeigfaaDoor

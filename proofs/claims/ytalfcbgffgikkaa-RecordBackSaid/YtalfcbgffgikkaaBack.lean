/-
  RecordBack: true is answered, and nothing older changes. Conditions: whatever it is given.
-/
import Derived.Test.YtalfcbgffgikkaaPr
import Derived.BigQuiet
import Derived.Deep.RegionHeld3
import Derived.Deep.CutRange
import Derived.Deep.DeepCutAuto
namespace Go.Proofs.Ytalfcbgffgikkaa
open Go.RowKit

set_option maxHeartbeats 4000000 in
set_option maxRecDepth 10000 in
theorem back_out (p wr j : Int) (a0 : Option Addr) (K c0 : Nat) (w : World) (h : 100 < K) : Calls Try.prog 4 #[.agg #[.int .i64 p, .int .i64 wr, .int .i64 j], .slice a0 K c0] w fun e w' => e = .returned (.bool true) ∧ Below w.heap.size w w' := by
  have HX := Lib.hid (blk_new w #[.int .i64 p, .int .i64 wr, .int .i64 j] 26)
  have HB := Lib.hid (below_alloc (Below.refl _ w) (.cells #[.int .i64 p, .int .i64 wr, .int .i64 j] 26))
  have h1 : 100 < (K : Int) := by omega
  clear h
  go_enter Try.func4, Try.ntmps4
  go_wp2_with fail
  (with_reducible refine (small_true _).mono ?_)
  rintro e w1 ⟨rfl, hb⟩
  replace HB := Lib.hid (below_call HB.out hb)
  replace HX := Lib.hid (HX.out.below hb)
  clear hb
  obtain ⟨x0, x1, x2⟩ := HX.out.three
  go_wp2_with fail
  go_ret
  exact ⟨rfl, HB.out⟩
set_option maxHeartbeats 4000000 in
set_option maxRecDepth 10000 in
theorem back_yes_some (p wr j : Int) (a0 : Option Addr) (K c0 : Nat) (xs : List (BitVec 8)) (p2 w2 j2 : Int) (w : World) (hv : Byts w (.slice a0 K c0) xs) (h : K ≤ 100) (hr : rcok ⟨p, wr, j⟩ = true) (hp : rcps xs = some ⟨p2, w2, j2⟩) : Calls Try.prog 4 #[.agg #[.int .i64 p, .int .i64 wr, .int .i64 j], .slice a0 K c0] w fun e w' => e = .returned (.bool true) ∧ Below w.heap.size w w' := by
  have HX := Lib.hid (blk_new w #[.int .i64 p, .int .i64 wr, .int .i64 j] 26)
  have HB := Lib.hid (below_alloc (Below.refl _ w) (.cells #[.int .i64 p, .int .i64 wr, .int .i64 j] 26))
  have HV := Lib.hid hv
  have h1 : ¬ 100 < (K : Int) := by omega
  have HA := Lib.hid (fun W => pr_yes ⟨p, wr, j⟩ p wr j rfl hr W)
  have HQ := Lib.hid (show rcout (rcps (rcpr ⟨p, wr, j⟩)) = (⟨p, wr, j⟩, true) by rw [rcps_pr hr]; rfl)
  have HP := Lib.hid (show rcout (rcps xs) = (⟨p2, w2, j2⟩, true) by rw [hp]; rfl)
  obtain ⟨hok, he⟩ := rcpr_ps hp
  have HC := Lib.hid (fun W => pr_yes ⟨p2, w2, j2⟩ p2 w2 j2 rfl hok W)
  rw [he] at HC
  clear hok he
  clear hv h hr hp
  go_enter Try.func4, Try.ntmps4
  go_wp2_with fail
  (with_reducible refine (small_true _).mono ?_)
  rintro e w1 ⟨rfl, hb⟩
  replace HB := Lib.hid (below_call HB.out hb)
  replace HX := Lib.hid (HX.out.below hb)
  clear hb
  obtain ⟨x0, x1, x2⟩ := HX.out.three
  go_wp2_with fail
  (with_reducible refine (HA.out _).mono ?_)
  rintro e w3 ⟨a3, c3, rfl, hv, hb⟩
  replace HB := Lib.hid (below_call HB.out hb)
  replace HX := Lib.hid (HX.out.below hb)
  have HV3 := Lib.hid hv
  clear hb hv x0 x1 x2
  go_wp2_with fail
  (with_reducible refine (rcparse_to _ _ p wr j true HQ.out _ HV3.out).mono ?_)
  rintro e w4 ⟨rfl, hb⟩
  replace HB := Lib.hid (below_alloc (below_call HB.out hb) (.cells #[.int .i64 p, .int .i64 wr, .int .i64 j] 26))
  replace HX := Lib.hid ((HX.out.below hb).below (below_alloc (Below.refl _ w4) (.cells #[.int .i64 p, .int .i64 wr, .int .i64 j] 26)))
  have HY := Lib.hid (blk_new w4 #[.int .i64 p, .int .i64 wr, .int .i64 j] 26)
  clear hb HV3 HQ
  obtain ⟨x0, x1, x2⟩ := HX.out.three
  obtain ⟨y0, y1, y2⟩ := HY.out.three
  have E1 := neq_rc p wr j p wr j false (by simp)
  go_wp2_with fail
  (with_reducible refine (rcparse_to _ xs p2 w2 j2 true HP.out _ (HV.out.below HB.out)).mono ?_)
  rintro e w5 ⟨rfl, hb⟩
  replace HB := Lib.hid (below_alloc (below_call HB.out hb) (.cells #[.int .i64 p2, .int .i64 w2, .int .i64 j2] 26))
  have HZ := Lib.hid (blk_new w5 #[.int .i64 p2, .int .i64 w2, .int .i64 j2] 26)
  clear hb HX
  obtain ⟨z0, z1, z2⟩ := HZ.out.three
  go_wp2_with fail
  refine wp_region_held_drew (S := (fun wx => Byts wx (.slice a0 K c0) xs ∧ Blk wx w5.heap.size #[.int .i64 p2, .int .i64 w2, .int .i64 j2] 26)) (by kernel_rfl) ⟨(HV.out.below HB.out).below (bel_drew _), HZ.out.below (bel_drew _)⟩ (fun hHeld => ?_)
  refine wpAnyH_take (i := 0) (oi := ?_) (v := ?_) ?_ (by kernel_rfl) (by kernel_rfl) (by kernel_rfl) ?_ (Or.inl ⟨?_, ?_⟩) hHeld ?_
  rotate_left 2
  · (simp only [List.getElem?_toArray, List.getElem?_cons_zero]; rfl)
  · exact (fun _ _ _ h => h)
  · rfl
  · (intro w hSw; (try dsimp only at hSw); go_simp; try with_reducible rfl)
  (try simp only [Act.put, List.setIfInBounds_toArray, List.set_cons_zero, List.set_cons_succ])
  refine wpAnyH_take (i := 1) (oi := ?_) (v := ?_) ?_ (by kernel_rfl) (by kernel_rfl) (by kernel_rfl) ?_ (Or.inl ⟨?_, ?_⟩) hHeld ?_
  rotate_left 2
  · (simp only [List.getElem?_toArray, List.getElem?_cons_zero, List.getElem?_cons_succ]; rfl)
  · exact (fun _ _ _ h => h)
  · rfl
  · (intro w hSw; (try dsimp only at hSw); go_simp; try with_reducible rfl)
  (try simp only [Act.put, List.setIfInBounds_toArray, List.set_cons_zero, List.set_cons_succ])
  refine wpAnyH_take (i := 2) (oi := ?_) (v := ?_) ?_ (by kernel_rfl) (by kernel_rfl) (by kernel_rfl) ?_ (Or.inl ⟨?_, ?_⟩) hHeld ?_
  rotate_left 2
  · (simp only [List.getElem?_toArray, List.getElem?_cons_zero, List.getElem?_cons_succ]; rfl)
  · exact (fun _ _ _ h => h)
  · rfl
  · (intro w hSw; (try dsimp only at hSw); obtain ⟨q0, q1, q2⟩ := hSw.2.three; go_simp; try with_reducible rfl)
  (try simp only [Act.put, List.setIfInBounds_toArray, List.set_cons_zero, List.set_cons_succ])
  refine wpAnyH_take (i := 5) (oi := ?_) (v := ?_) ?_ (by kernel_rfl) (by kernel_rfl) (by kernel_rfl) ?_ (Or.inl ⟨?_, ?_⟩) hHeld ?_
  rotate_left 2
  · (simp only [List.getElem?_toArray, List.getElem?_cons_zero, List.getElem?_cons_succ]; rfl)
  · exact (fun _ _ _ h => h)
  · rfl
  · (intro w hSw; (try dsimp only at hSw); go_simp; try with_reducible rfl)
  (try simp only [Act.put, List.setIfInBounds_toArray, List.set_cons_zero, List.set_cons_succ])
  refine wpAnyH_take (i := 6) (oi := ?_) (v := ?_) ?_ (by kernel_rfl) (by kernel_rfl) (by kernel_rfl) ?_ (Or.inl ⟨?_, ?_⟩) hHeld ?_
  rotate_left 2
  · (simp only [List.getElem?_toArray, List.getElem?_cons_zero, List.getElem?_cons_succ]; rfl)
  · exact (fun _ _ _ h => h)
  · rfl
  · (intro w hSw; (try dsimp only at hSw); have hcv := txt_run _ _ _ hSw.1; go_simp; try with_reducible rfl)
  (try simp only [Act.put, List.setIfInBounds_toArray, List.set_cons_zero, List.set_cons_succ])
  refine wpAnyH_ready (rs := [3]) (by kernel_rfl) (by simp) ?_
  refine AllReadyH.cons (o := ?_) ?_ (fun K hK => ?_) AllReadyH.nil
  rotate_left
  · (simp only [List.getElem?_toArray, List.getElem?_cons_zero, List.getElem?_cons_succ]; rfl)
  go_simp
  (with_reducible refine (HC.out _).mono ?_)
  rintro e w6 ⟨a6, c6, rfl, hv, hb⟩
  have HV6 := Lib.hid hv
  have HB6 := Lib.hid (below_call HB.out (Below.trans (bel_drew _) hb))
  have hcv := txt_run _ _ _ hv
  have htx := txt_same xs
  clear hv
  go_wp2_with fail
  refine hK.out _ _ ⟨hHeld.1.below hb, hHeld.2.below hb⟩ (fun hHeld => ?_)
  clear hK K
  (try simp only [Act.put, List.setIfInBounds_toArray, List.set_cons_zero, List.set_cons_succ])
  refine wpAnyH_ready (rs := [4]) (by kernel_rfl) (by simp) ?_
  refine AllReadyH.cons (o := ?_) ?_ (fun K hK => ?_) AllReadyH.nil
  rotate_left
  · (simp only [List.getElem?_toArray, List.getElem?_cons_zero, List.getElem?_cons_succ]; rfl)
  go_simp
  refine hK.out _ _ hHeld (fun hHeld => ?_)
  clear hK K
  (try simp only [Act.put, List.setIfInBounds_toArray, List.set_cons_zero, List.set_cons_succ])
  refine wpAnyH_take (i := 7) (oi := ?_) (v := ?_) ?_ (by kernel_rfl) (by kernel_rfl) (by kernel_rfl) ?_ (Or.inl ⟨?_, ?_⟩) hHeld ?_
  rotate_left 2
  · (simp only [List.getElem?_toArray, List.getElem?_cons_zero, List.getElem?_cons_succ]; rfl)
  · exact (fun _ _ _ h => h)
  · rfl
  · (intro w hSw; (try dsimp only at hSw); go_simp; try with_reducible rfl)
  (try simp only [Act.put, List.setIfInBounds_toArray, List.set_cons_zero, List.set_cons_succ])
  refine wpAnyH_take (i := 8) (oi := ?_) (v := ?_) ?_ (by kernel_rfl) (by kernel_rfl) (by kernel_rfl) ?_ (Or.inl ⟨?_, ?_⟩) hHeld ?_
  rotate_left 2
  · (simp only [List.getElem?_toArray, List.getElem?_cons_zero, List.getElem?_cons_succ]; rfl)
  · exact (fun _ _ _ h => h)
  · rfl
  · (intro w hSw; (try dsimp only at hSw); go_simp; try with_reducible rfl)
  (try simp only [Act.put, List.setIfInBounds_toArray, List.set_cons_zero, List.set_cons_succ])
  refine wpAnyH_take (i := 9) (oi := ?_) (v := ?_) ?_ (by kernel_rfl) (by kernel_rfl) (by kernel_rfl) ?_ (Or.inl ⟨?_, ?_⟩) hHeld ?_
  rotate_left 2
  · (simp only [List.getElem?_toArray, List.getElem?_cons_zero, List.getElem?_cons_succ]; rfl)
  · exact (fun _ _ _ h => h)
  · rfl
  · (intro w hSw; (try dsimp only at hSw); go_simp; try with_reducible rfl)
  (try simp only [Act.put, List.setIfInBounds_toArray, List.set_cons_zero, List.set_cons_succ])
  refine wpAnyH_done (by kernel_rfl) ?_ _
  go_wp2_with fail
  go_ret
  exact ⟨rfl, HB6.out⟩
set_option maxHeartbeats 4000000 in
set_option maxRecDepth 10000 in
theorem back_yes_none (p wr j : Int) (a0 : Option Addr) (K c0 : Nat) (xs : List (BitVec 8)) (w : World) (hv : Byts w (.slice a0 K c0) xs) (h : K ≤ 100) (hr : rcok ⟨p, wr, j⟩ = true) (hp : rcps xs = none) : Calls Try.prog 4 #[.agg #[.int .i64 p, .int .i64 wr, .int .i64 j], .slice a0 K c0] w fun e w' => e = .returned (.bool true) ∧ Below w.heap.size w w' := by
  have HX := Lib.hid (blk_new w #[.int .i64 p, .int .i64 wr, .int .i64 j] 26)
  have HB := Lib.hid (below_alloc (Below.refl _ w) (.cells #[.int .i64 p, .int .i64 wr, .int .i64 j] 26))
  have HV := Lib.hid hv
  have h1 : ¬ 100 < (K : Int) := by omega
  have HA := Lib.hid (fun W => pr_yes ⟨p, wr, j⟩ p wr j rfl hr W)
  have HQ := Lib.hid (show rcout (rcps (rcpr ⟨p, wr, j⟩)) = (⟨p, wr, j⟩, true) by rw [rcps_pr hr]; rfl)
  have HP := Lib.hid (show rcout (rcps xs) = (⟨0, 0, 0⟩, false) by rw [hp]; rfl)
  clear hv h hr hp
  go_enter Try.func4, Try.ntmps4
  go_wp2_with fail
  (with_reducible refine (small_true _).mono ?_)
  rintro e w1 ⟨rfl, hb⟩
  replace HB := Lib.hid (below_call HB.out hb)
  replace HX := Lib.hid (HX.out.below hb)
  clear hb
  obtain ⟨x0, x1, x2⟩ := HX.out.three
  go_wp2_with fail
  (with_reducible refine (HA.out _).mono ?_)
  rintro e w3 ⟨a3, c3, rfl, hv, hb⟩
  replace HB := Lib.hid (below_call HB.out hb)
  replace HX := Lib.hid (HX.out.below hb)
  have HV3 := Lib.hid hv
  clear hb hv x0 x1 x2
  go_wp2_with fail
  (with_reducible refine (rcparse_to _ _ p wr j true HQ.out _ HV3.out).mono ?_)
  rintro e w4 ⟨rfl, hb⟩
  replace HB := Lib.hid (below_alloc (below_call HB.out hb) (.cells #[.int .i64 p, .int .i64 wr, .int .i64 j] 26))
  replace HX := Lib.hid ((HX.out.below hb).below (below_alloc (Below.refl _ w4) (.cells #[.int .i64 p, .int .i64 wr, .int .i64 j] 26)))
  have HY := Lib.hid (blk_new w4 #[.int .i64 p, .int .i64 wr, .int .i64 j] 26)
  clear hb HV3 HQ
  obtain ⟨x0, x1, x2⟩ := HX.out.three
  obtain ⟨y0, y1, y2⟩ := HY.out.three
  have E1 := neq_rc p wr j p wr j false (by simp)
  go_wp2_with fail
  (with_reducible refine (rcparse_to _ xs 0 0 0 false HP.out _ (HV.out.below HB.out)).mono ?_)
  rintro e w5 ⟨rfl, hb⟩
  replace HB := Lib.hid (below_alloc (below_call HB.out hb) (.cells #[.int .i64 0, .int .i64 0, .int .i64 0] 26))
  have HZ := Lib.hid (blk_new w5 #[.int .i64 0, .int .i64 0, .int .i64 0] 26)
  clear hb HX
  obtain ⟨z0, z1, z2⟩ := HZ.out.three
  have E2 := eql_rc 0 0 0 0 0 0 true rfl
  go_wp2_with fail
  go_ret
  exact ⟨rfl, HB.out⟩
set_option maxHeartbeats 4000000 in
set_option maxRecDepth 10000 in
theorem back_no_some (p wr j : Int) (a0 : Option Addr) (K c0 : Nat) (xs : List (BitVec 8)) (p2 w2 j2 : Int) (w : World) (hv : Byts w (.slice a0 K c0) xs) (h : K ≤ 100) (hr : rcok ⟨p, wr, j⟩ = false) (hp : rcps xs = some ⟨p2, w2, j2⟩) : Calls Try.prog 4 #[.agg #[.int .i64 p, .int .i64 wr, .int .i64 j], .slice a0 K c0] w fun e w' => e = .returned (.bool true) ∧ Below w.heap.size w w' := by
  have HX := Lib.hid (blk_new w #[.int .i64 p, .int .i64 wr, .int .i64 j] 26)
  have HB := Lib.hid (below_alloc (Below.refl _ w) (.cells #[.int .i64 p, .int .i64 wr, .int .i64 j] 26))
  have HV := Lib.hid hv
  have h1 : ¬ 100 < (K : Int) := by omega
  have HA := Lib.hid (fun W => pr_no ⟨p, wr, j⟩ p wr j rfl hr W)
  have HP := Lib.hid (show rcout (rcps xs) = (⟨p2, w2, j2⟩, true) by rw [hp]; rfl)
  obtain ⟨hok, he⟩ := rcpr_ps hp
  have HC := Lib.hid (fun W => pr_yes ⟨p2, w2, j2⟩ p2 w2 j2 rfl hok W)
  rw [he] at HC
  clear hok he
  clear hv h hr hp
  go_enter Try.func4, Try.ntmps4
  go_wp2_with fail
  (with_reducible refine (small_true _).mono ?_)
  rintro e w1 ⟨rfl, hb⟩
  replace HB := Lib.hid (below_call HB.out hb)
  replace HX := Lib.hid (HX.out.below hb)
  clear hb
  obtain ⟨x0, x1, x2⟩ := HX.out.three
  go_wp2_with fail
  (with_reducible refine (HA.out _).mono ?_)
  rintro e w3 ⟨a3, c3, rfl, hv, hb⟩
  replace HB := Lib.hid (below_call HB.out hb)
  replace HX := Lib.hid (HX.out.below hb)
  have HV3 := Lib.hid hv
  clear hb hv x0 x1 x2
  go_wp2_with fail
  (with_reducible refine (rcparse_to _ xs p2 w2 j2 true HP.out _ (HV.out.below HB.out)).mono ?_)
  rintro e w5 ⟨rfl, hb⟩
  replace HB := Lib.hid (below_alloc (below_call HB.out hb) (.cells #[.int .i64 p2, .int .i64 w2, .int .i64 j2] 26))
  have HZ := Lib.hid (blk_new w5 #[.int .i64 p2, .int .i64 w2, .int .i64 j2] 26)
  clear hb HX
  obtain ⟨z0, z1, z2⟩ := HZ.out.three
  go_wp2_with fail
  refine wp_region_held_drew (S := (fun wx => Byts wx (.slice a0 K c0) xs ∧ Blk wx w5.heap.size #[.int .i64 p2, .int .i64 w2, .int .i64 j2] 26)) (by kernel_rfl) ⟨(HV.out.below HB.out).below (bel_drew _), HZ.out.below (bel_drew _)⟩ (fun hHeld => ?_)
  refine wpAnyH_take (i := 0) (oi := ?_) (v := ?_) ?_ (by kernel_rfl) (by kernel_rfl) (by kernel_rfl) ?_ (Or.inl ⟨?_, ?_⟩) hHeld ?_
  rotate_left 2
  · (simp only [List.getElem?_toArray, List.getElem?_cons_zero]; rfl)
  · exact (fun _ _ _ h => h)
  · rfl
  · (intro w hSw; (try dsimp only at hSw); go_simp; try with_reducible rfl)
  (try simp only [Act.put, List.setIfInBounds_toArray, List.set_cons_zero, List.set_cons_succ])
  refine wpAnyH_take (i := 1) (oi := ?_) (v := ?_) ?_ (by kernel_rfl) (by kernel_rfl) (by kernel_rfl) ?_ (Or.inl ⟨?_, ?_⟩) hHeld ?_
  rotate_left 2
  · (simp only [List.getElem?_toArray, List.getElem?_cons_zero, List.getElem?_cons_succ]; rfl)
  · exact (fun _ _ _ h => h)
  · rfl
  · (intro w hSw; (try dsimp only at hSw); go_simp; try with_reducible rfl)
  (try simp only [Act.put, List.setIfInBounds_toArray, List.set_cons_zero, List.set_cons_succ])
  refine wpAnyH_take (i := 2) (oi := ?_) (v := ?_) ?_ (by kernel_rfl) (by kernel_rfl) (by kernel_rfl) ?_ (Or.inl ⟨?_, ?_⟩) hHeld ?_
  rotate_left 2
  · (simp only [List.getElem?_toArray, List.getElem?_cons_zero, List.getElem?_cons_succ]; rfl)
  · exact (fun _ _ _ h => h)
  · rfl
  · (intro w hSw; (try dsimp only at hSw); obtain ⟨q0, q1, q2⟩ := hSw.2.three; go_simp; try with_reducible rfl)
  (try simp only [Act.put, List.setIfInBounds_toArray, List.set_cons_zero, List.set_cons_succ])
  refine wpAnyH_take (i := 5) (oi := ?_) (v := ?_) ?_ (by kernel_rfl) (by kernel_rfl) (by kernel_rfl) ?_ (Or.inl ⟨?_, ?_⟩) hHeld ?_
  rotate_left 2
  · (simp only [List.getElem?_toArray, List.getElem?_cons_zero, List.getElem?_cons_succ]; rfl)
  · exact (fun _ _ _ h => h)
  · rfl
  · (intro w hSw; (try dsimp only at hSw); go_simp; try with_reducible rfl)
  (try simp only [Act.put, List.setIfInBounds_toArray, List.set_cons_zero, List.set_cons_succ])
  refine wpAnyH_take (i := 6) (oi := ?_) (v := ?_) ?_ (by kernel_rfl) (by kernel_rfl) (by kernel_rfl) ?_ (Or.inl ⟨?_, ?_⟩) hHeld ?_
  rotate_left 2
  · (simp only [List.getElem?_toArray, List.getElem?_cons_zero, List.getElem?_cons_succ]; rfl)
  · exact (fun _ _ _ h => h)
  · rfl
  · (intro w hSw; (try dsimp only at hSw); have hcv := txt_run _ _ _ hSw.1; go_simp; try with_reducible rfl)
  (try simp only [Act.put, List.setIfInBounds_toArray, List.set_cons_zero, List.set_cons_succ])
  refine wpAnyH_ready (rs := [3]) (by kernel_rfl) (by simp) ?_
  refine AllReadyH.cons (o := ?_) ?_ (fun K hK => ?_) AllReadyH.nil
  rotate_left
  · (simp only [List.getElem?_toArray, List.getElem?_cons_zero, List.getElem?_cons_succ]; rfl)
  go_simp
  (with_reducible refine (HC.out _).mono ?_)
  rintro e w6 ⟨a6, c6, rfl, hv, hb⟩
  have HV6 := Lib.hid hv
  have HB6 := Lib.hid (below_call HB.out (Below.trans (bel_drew _) hb))
  have hcv := txt_run _ _ _ hv
  have htx := txt_same xs
  clear hv
  go_wp2_with fail
  refine hK.out _ _ ⟨hHeld.1.below hb, hHeld.2.below hb⟩ (fun hHeld => ?_)
  clear hK K
  (try simp only [Act.put, List.setIfInBounds_toArray, List.set_cons_zero, List.set_cons_succ])
  refine wpAnyH_ready (rs := [4]) (by kernel_rfl) (by simp) ?_
  refine AllReadyH.cons (o := ?_) ?_ (fun K hK => ?_) AllReadyH.nil
  rotate_left
  · (simp only [List.getElem?_toArray, List.getElem?_cons_zero, List.getElem?_cons_succ]; rfl)
  go_simp
  refine hK.out _ _ hHeld (fun hHeld => ?_)
  clear hK K
  (try simp only [Act.put, List.setIfInBounds_toArray, List.set_cons_zero, List.set_cons_succ])
  refine wpAnyH_take (i := 7) (oi := ?_) (v := ?_) ?_ (by kernel_rfl) (by kernel_rfl) (by kernel_rfl) ?_ (Or.inl ⟨?_, ?_⟩) hHeld ?_
  rotate_left 2
  · (simp only [List.getElem?_toArray, List.getElem?_cons_zero, List.getElem?_cons_succ]; rfl)
  · exact (fun _ _ _ h => h)
  · rfl
  · (intro w hSw; (try dsimp only at hSw); go_simp; try with_reducible rfl)
  (try simp only [Act.put, List.setIfInBounds_toArray, List.set_cons_zero, List.set_cons_succ])
  refine wpAnyH_take (i := 8) (oi := ?_) (v := ?_) ?_ (by kernel_rfl) (by kernel_rfl) (by kernel_rfl) ?_ (Or.inl ⟨?_, ?_⟩) hHeld ?_
  rotate_left 2
  · (simp only [List.getElem?_toArray, List.getElem?_cons_zero, List.getElem?_cons_succ]; rfl)
  · exact (fun _ _ _ h => h)
  · rfl
  · (intro w hSw; (try dsimp only at hSw); go_simp; try with_reducible rfl)
  (try simp only [Act.put, List.setIfInBounds_toArray, List.set_cons_zero, List.set_cons_succ])
  refine wpAnyH_take (i := 9) (oi := ?_) (v := ?_) ?_ (by kernel_rfl) (by kernel_rfl) (by kernel_rfl) ?_ (Or.inl ⟨?_, ?_⟩) hHeld ?_
  rotate_left 2
  · (simp only [List.getElem?_toArray, List.getElem?_cons_zero, List.getElem?_cons_succ]; rfl)
  · exact (fun _ _ _ h => h)
  · rfl
  · (intro w hSw; (try dsimp only at hSw); go_simp; try with_reducible rfl)
  (try simp only [Act.put, List.setIfInBounds_toArray, List.set_cons_zero, List.set_cons_succ])
  refine wpAnyH_done (by kernel_rfl) ?_ _
  go_wp2_with fail
  go_ret
  exact ⟨rfl, HB6.out⟩
set_option maxHeartbeats 4000000 in
set_option maxRecDepth 10000 in
theorem back_no_none (p wr j : Int) (a0 : Option Addr) (K c0 : Nat) (xs : List (BitVec 8)) (w : World) (hv : Byts w (.slice a0 K c0) xs) (h : K ≤ 100) (hr : rcok ⟨p, wr, j⟩ = false) (hp : rcps xs = none) : Calls Try.prog 4 #[.agg #[.int .i64 p, .int .i64 wr, .int .i64 j], .slice a0 K c0] w fun e w' => e = .returned (.bool true) ∧ Below w.heap.size w w' := by
  have HX := Lib.hid (blk_new w #[.int .i64 p, .int .i64 wr, .int .i64 j] 26)
  have HB := Lib.hid (below_alloc (Below.refl _ w) (.cells #[.int .i64 p, .int .i64 wr, .int .i64 j] 26))
  have HV := Lib.hid hv
  have h1 : ¬ 100 < (K : Int) := by omega
  have HA := Lib.hid (fun W => pr_no ⟨p, wr, j⟩ p wr j rfl hr W)
  have HP := Lib.hid (show rcout (rcps xs) = (⟨0, 0, 0⟩, false) by rw [hp]; rfl)
  clear hv h hr hp
  go_enter Try.func4, Try.ntmps4
  go_wp2_with fail
  (with_reducible refine (small_true _).mono ?_)
  rintro e w1 ⟨rfl, hb⟩
  replace HB := Lib.hid (below_call HB.out hb)
  replace HX := Lib.hid (HX.out.below hb)
  clear hb
  obtain ⟨x0, x1, x2⟩ := HX.out.three
  go_wp2_with fail
  (with_reducible refine (HA.out _).mono ?_)
  rintro e w3 ⟨a3, c3, rfl, hv, hb⟩
  replace HB := Lib.hid (below_call HB.out hb)
  replace HX := Lib.hid (HX.out.below hb)
  have HV3 := Lib.hid hv
  clear hb hv x0 x1 x2
  go_wp2_with fail
  (with_reducible refine (rcparse_to _ xs 0 0 0 false HP.out _ (HV.out.below HB.out)).mono ?_)
  rintro e w5 ⟨rfl, hb⟩
  replace HB := Lib.hid (below_alloc (below_call HB.out hb) (.cells #[.int .i64 0, .int .i64 0, .int .i64 0] 26))
  have HZ := Lib.hid (blk_new w5 #[.int .i64 0, .int .i64 0, .int .i64 0] 26)
  clear hb HX
  obtain ⟨z0, z1, z2⟩ := HZ.out.three
  have E2 := eql_rc 0 0 0 0 0 0 true rfl
  go_wp2_with fail
  go_ret
  exact ⟨rfl, HB.out⟩
theorem back_any (p wr j : Int) (v : Value) (xs : List (BitVec 8)) (w : World) (hv : Byts w v xs) : Calls Try.prog 4 #[.agg #[.int .i64 p, .int .i64 wr, .int .i64 j], v] w fun e w' => e = .returned (.bool true) ∧ Below w.heap.size w w' := by
  obtain ⟨a0, c0, rfl⟩ := hv.len
  obtain ⟨K, hK⟩ : ∃ n, n = xs.length := ⟨_, rfl⟩
  rw [← hK] at hv ⊢
  by_cases h : 100 < K
  · exact back_out p wr j a0 K c0 w h
  · cases hr : rcok ⟨p, wr, j⟩
    · cases hp : rcps xs with
      | none => exact back_no_none p wr j a0 K c0 xs w hv (by omega) hr hp
      | some r => exact back_no_some p wr j a0 K c0 xs r.p r.w r.j w hv (by omega) hr hp
    · cases hp : rcps xs with
      | none => exact back_yes_none p wr j a0 K c0 xs w hv (by omega) hr hp
      | some r => exact back_yes_some p wr j a0 K c0 xs r.p r.w r.j w hv (by omega) hr hp
end Go.Proofs.Ytalfcbgffgikkaa

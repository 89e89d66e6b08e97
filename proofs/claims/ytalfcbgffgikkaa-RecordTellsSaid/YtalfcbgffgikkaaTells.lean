/-
  RecordTells: true is answered, and nothing older changes. Conditions: whatever it is given.
-/
import Derived.Test.YtalfcbgffgikkaaPr
import Derived.Test.YtalfcbgffgikkaaRcRef
import Derived.Test.YtalfcbgffgikkaaHeldMore
namespace Go.Proofs.Ytalfcbgffgikkaa
open Go.RowKit

set_option maxHeartbeats 4000000 in
set_option maxRecDepth 10000 in
theorem tells_many (rp rs : Int) (a0 : Option Addr) (K c0 : Nat) (p wr j : Int) (a1 : Option Addr) (M c1 : Nat) (w : World) (h : 100 < K) : Calls Try.prog 3 #[.agg #[.int .i64 rp, .int .i64 rs], .slice a0 K c0, .agg #[.int .i64 p, .int .i64 wr, .int .i64 j], .slice a1 M c1] w fun e w' => e = .returned (.bool true) ∧ Below w.heap.size w w' := by
  have hX := (blk_new w #[.int .i64 rp, .int .i64 rs] 23).below (below_alloc (Below.refl _ _) (.cells #[.int .i64 p, .int .i64 wr, .int .i64 j] 26))
  have hY := blk_new (w.alloc (.cells #[.int .i64 rp, .int .i64 rs] 23)) #[.int .i64 p, .int .i64 wr, .int .i64 j] 26
  simp only [World.size_alloc] at hY
  have HX := Lib.hid hX
  have HY := Lib.hid hY
  have HB := Lib.hid (below_alloc (below_alloc (Below.refl _ w) (.cells #[.int .i64 rp, .int .i64 rs] 23)) (.cells #[.int .i64 p, .int .i64 wr, .int .i64 j] 26))
  clear hX hY
  have h1 : 100 < (K : Int) := by omega
  clear h
  go_enter Try.func3, Try.ntmps3
  go_wp2_with fail
  (with_reducible refine (small_true _).mono ?_)
  rintro e w1 ⟨rfl, hb⟩
  replace HB := Lib.hid (below_call HB.out hb)
  replace HX := Lib.hid (HX.out.below hb)
  replace HY := Lib.hid (HY.out.below hb)
  clear hb
  go_wp2_with fail
  go_ret
  exact ⟨rfl, HB.out⟩
set_option maxHeartbeats 4000000 in
set_option maxRecDepth 10000 in
theorem tells_long (rp rs : Int) (a0 : Option Addr) (K c0 : Nat) (p wr j : Int) (a1 : Option Addr) (M c1 : Nat) (w : World) (h0 : K ≤ 100) (h : 100 < M) : Calls Try.prog 3 #[.agg #[.int .i64 rp, .int .i64 rs], .slice a0 K c0, .agg #[.int .i64 p, .int .i64 wr, .int .i64 j], .slice a1 M c1] w fun e w' => e = .returned (.bool true) ∧ Below w.heap.size w w' := by
  have hX := (blk_new w #[.int .i64 rp, .int .i64 rs] 23).below (below_alloc (Below.refl _ _) (.cells #[.int .i64 p, .int .i64 wr, .int .i64 j] 26))
  have hY := blk_new (w.alloc (.cells #[.int .i64 rp, .int .i64 rs] 23)) #[.int .i64 p, .int .i64 wr, .int .i64 j] 26
  simp only [World.size_alloc] at hY
  have HX := Lib.hid hX
  have HY := Lib.hid hY
  have HB := Lib.hid (below_alloc (below_alloc (Below.refl _ w) (.cells #[.int .i64 rp, .int .i64 rs] 23)) (.cells #[.int .i64 p, .int .i64 wr, .int .i64 j] 26))
  clear hX hY
  have h1 : ¬ 100 < (K : Int) := by omega
  have h2 : 100 < (M : Int) := by omega
  clear h0 h
  go_enter Try.func3, Try.ntmps3
  go_wp2_with fail
  (with_reducible refine (small_true _).mono ?_)
  rintro e w1 ⟨rfl, hb⟩
  replace HB := Lib.hid (below_call HB.out hb)
  replace HX := Lib.hid (HX.out.below hb)
  replace HY := Lib.hid (HY.out.below hb)
  clear hb
  go_wp2_with fail
  go_ret
  exact ⟨rfl, HB.out⟩
set_option maxHeartbeats 4000000 in
set_option maxRecDepth 10000 in
theorem tells_main (rp rs : Int) (a0 : Option Addr) (K c0 : Nat) (p wr j : Int) (a1 : Option Addr) (M c1 : Nat) (ls : List Tk) (xs : List (BitVec 8)) (p2 w2 j2 : Int) (q2 : Bool) (w : World) (hv : Els RTk 11 w (.slice a0 K c0) ls) (hl : ls.length = K) (hu : Byts w (.slice a1 M c1) xs) (h0 : K ≤ 100) (h : M ≤ 100) (hp : rcout (rcps xs) = (⟨p2, w2, j2⟩, q2)) : Calls Try.prog 3 #[.agg #[.int .i64 rp, .int .i64 rs], .slice a0 K c0, .agg #[.int .i64 p, .int .i64 wr, .int .i64 j], .slice a1 M c1] w fun e w' => e = .returned (.bool true) ∧ Below w.heap.size w w' := by
  have hX := (blk_new w #[.int .i64 rp, .int .i64 rs] 23).below (below_alloc (Below.refl _ _) (.cells #[.int .i64 p, .int .i64 wr, .int .i64 j] 26))
  have hY := blk_new (w.alloc (.cells #[.int .i64 rp, .int .i64 rs] 23)) #[.int .i64 p, .int .i64 wr, .int .i64 j] 26
  simp only [World.size_alloc] at hY
  have HX := Lib.hid hX
  have HY := Lib.hid hY
  have HB := Lib.hid (below_alloc (below_alloc (Below.refl _ w) (.cells #[.int .i64 rp, .int .i64 rs] 23)) (.cells #[.int .i64 p, .int .i64 wr, .int .i64 j] 26))
  clear hX hY
  have HV := Lib.hid hv
  have HU := Lib.hid hu
  have h1 : ¬ 100 < (K : Int) := by omega
  have h2 : ¬ 100 < (M : Int) := by omega
  obtain ⟨ox, oy, hxy⟩ : ∃ x y, rcof rp ls = ⟨rp, x, y⟩ := ⟨_, _, rfl⟩
  have HO := Lib.hid (fun W (hW : Els RTk 11 W (.slice a0 K c0) ls) => rcof_to rp rs _ ls W hW ox oy hxy)
  have HQ := Lib.hid (fun W (hW : Els RTk 11 W (.slice a0 K c0) ls) => rcrof_to rp rs _ ls W hW ox oy hxy)
  have HP := Lib.hid hp
  have E1 := eql_rc rp ox oy rp ox oy true (by simp)
  have E2 := eql_rc p2 w2 j2 p2 w2 j2 true (by simp)
  have E3 := txt_same (rcpr ⟨p, wr, j⟩)
  have E4 : (q2 == q2) = true := by simp
  clear hv hu h0 h hl hp hxy
  go_enter Try.func3, Try.ntmps3
  go_wp2_with fail
  (with_reducible refine (small_true _).mono ?_)
  rintro e w1 ⟨rfl, hb⟩
  replace HB := Lib.hid (below_call HB.out hb)
  replace HX := Lib.hid (HX.out.below hb)
  replace HY := Lib.hid (HY.out.below hb)
  clear hb
  go_wp2_with fail
  (with_reducible refine (rcparse_to _ xs p2 w2 j2 q2 HP.out _ (HU.out.below HB.out)).mono ?_)
  rintro e w2a ⟨rfl, hb⟩
  replace HB := Lib.hid (below_alloc (below_call HB.out hb) (.cells #[.int .i64 p2, .int .i64 w2, .int .i64 j2] 26))
  replace HX := Lib.hid ((HX.out.below hb).below (below_alloc (Below.refl _ w2a) (.cells #[.int .i64 p2, .int .i64 w2, .int .i64 j2] 26)))
  replace HY := Lib.hid ((HY.out.below hb).below (below_alloc (Below.refl _ w2a) (.cells #[.int .i64 p2, .int .i64 w2, .int .i64 j2] 26)))
  have HS := Lib.hid (blk_new w2a #[.int .i64 p2, .int .i64 w2, .int .i64 j2] 26)
  clear hb
  go_wp2_with fail
  (with_reducible refine (rcrparse_to _ xs p2 w2 j2 q2 HP.out _ (HU.out.below HB.out)).mono ?_)
  rintro e w3a ⟨rfl, hb⟩
  replace HB := Lib.hid (below_alloc (below_call HB.out hb) (.cells #[.int .i64 p2, .int .i64 w2, .int .i64 j2] 26))
  replace HX := Lib.hid ((HX.out.below hb).below (below_alloc (Below.refl _ w3a) (.cells #[.int .i64 p2, .int .i64 w2, .int .i64 j2] 26)))
  replace HY := Lib.hid ((HY.out.below hb).below (below_alloc (Below.refl _ w3a) (.cells #[.int .i64 p2, .int .i64 w2, .int .i64 j2] 26)))
  replace HS := Lib.hid ((HS.out.below hb).below (below_alloc (Below.refl _ w3a) (.cells #[.int .i64 p2, .int .i64 w2, .int .i64 j2] 26)))
  have HT := Lib.hid (blk_new w3a #[.int .i64 p2, .int .i64 w2, .int .i64 j2] 26)
  clear hb
  go_wp2_with fail
  refine wp_region_held_drew (S := (fun wx => Els RTk 11 wx (.slice a0 K c0) ls ∧ Blk wx w.heap.size #[.int .i64 rp, .int .i64 rs] 23 ∧ Blk wx (w.heap.size + 1) #[.int .i64 p, .int .i64 wr, .int .i64 j] 26 ∧ Blk wx w2a.heap.size #[.int .i64 p2, .int .i64 w2, .int .i64 j2] 26 ∧ Blk wx w3a.heap.size #[.int .i64 p2, .int .i64 w2, .int .i64 j2] 26)) (by kernel_rfl) ⟨(HV.out.below (fun _ _ _ h => h.below HB.out)).below (fun _ _ _ h => h.below (bel_drew _)), HX.out.below (bel_drew _), HY.out.below (bel_drew _), HS.out.below (bel_drew _), HT.out.below (bel_drew _)⟩ (fun hHeld => ?_)
  refine wpAnyH_take (i := 0) (oi := ?_) (v := ?_) ?_ (by kernel_rfl) (by kernel_rfl) (by kernel_rfl) ?_ (Or.inl ⟨?_, ?_⟩) hHeld ?_
  rotate_left 2
  · (simp only [List.getElem?_toArray, List.getElem?_cons_zero]; rfl)
  · exact (fun _ _ _ h => h)
  · rfl
  · (intro w hSw; (try dsimp only at hSw); go_simp; try with_reducible rfl)
  (try simp only [Act.put, List.setIfInBounds_toArray, List.set_cons_zero, List.set_cons_succ])
  refine wpAnyH_take (i := 1) (oi := ?_) (v := ?_) ?_ (by kernel_rfl) (by kernel_rfl) (by kernel_rfl) ?_ (Or.inl ⟨?_, ?_⟩) hHeld ?_
  rotate_left 2
  · (simp only [List.getElem?_toArray, List.getElem?_cons_zero, List.getElem?_cons_succ]; rfl)
  · exact (fun _ _ _ h => h)
  · rfl
  · (intro w hSw; (try dsimp only at hSw); go_simp; try with_reducible rfl)
  (try simp only [Act.put, List.setIfInBounds_toArray, List.set_cons_zero, List.set_cons_succ])
  refine wpAnyH_take (i := 2) (oi := ?_) (v := ?_) ?_ (by kernel_rfl) (by kernel_rfl) (by kernel_rfl) ?_ (Or.inl ⟨?_, ?_⟩) hHeld ?_
  rotate_left 2
  · (simp only [List.getElem?_toArray, List.getElem?_cons_zero, List.getElem?_cons_succ]; rfl)
  · exact (fun _ _ _ h => h)
  · rfl
  · (intro w hSw; (try dsimp only at hSw); obtain ⟨c0, c1⟩ := box2 hSw.2.1; go_simp; try with_reducible rfl)
  (try simp only [Act.put, List.setIfInBounds_toArray, List.set_cons_zero, List.set_cons_succ])
  refine wpAnyH_take (i := 3) (oi := ?_) (v := ?_) ?_ (by kernel_rfl) (by kernel_rfl) (by kernel_rfl) ?_ (Or.inl ⟨?_, ?_⟩) hHeld ?_
  rotate_left 2
  · (simp only [List.getElem?_toArray, List.getElem?_cons_zero, List.getElem?_cons_succ]; rfl)
  · exact (fun _ _ _ h => h)
  · rfl
  · (intro w hSw; (try dsimp only at hSw); go_simp; try with_reducible rfl)
  (try simp only [Act.put, List.setIfInBounds_toArray, List.set_cons_zero, List.set_cons_succ])
  refine wpAnyH_take (i := 5) (oi := ?_) (v := ?_) ?_ (by kernel_rfl) (by kernel_rfl) (by kernel_rfl) ?_ (Or.inl ⟨?_, ?_⟩) hHeld ?_
  rotate_left 2
  · (simp only [List.getElem?_toArray, List.getElem?_cons_zero, List.getElem?_cons_succ]; rfl)
  · exact (fun _ _ _ h => h)
  · rfl
  · (intro w hSw; (try dsimp only at hSw); obtain ⟨c0, c1⟩ := box2 hSw.2.1; go_simp; try with_reducible rfl)
  (try simp only [Act.put, List.setIfInBounds_toArray, List.set_cons_zero, List.set_cons_succ])
  refine wpAnyH_take (i := 6) (oi := ?_) (v := ?_) ?_ (by kernel_rfl) (by kernel_rfl) (by kernel_rfl) ?_ (Or.inl ⟨?_, ?_⟩) hHeld ?_
  rotate_left 2
  · (simp only [List.getElem?_toArray, List.getElem?_cons_zero, List.getElem?_cons_succ]; rfl)
  · exact (fun _ _ _ h => h)
  · rfl
  · (intro w hSw; (try dsimp only at hSw); go_simp; try with_reducible rfl)
  (try simp only [Act.put, List.setIfInBounds_toArray, List.set_cons_zero, List.set_cons_succ])
  refine wpAnyH_ready (rs := [4]) (by kernel_rfl) (by simp) ?_
  refine AllReadyH.cons (o := ?_) ?_ (fun K hK => ?_) AllReadyH.nil
  rotate_left
  · (simp only [List.getElem?_toArray, List.getElem?_cons_zero, List.getElem?_cons_succ]; rfl)
  go_simp
  (with_reducible refine (HO.out _ hHeld.1).mono ?_)
  rintro e w5 ⟨rfl, hb⟩
  replace HB := Lib.hid (below_call HB.out (Below.trans (bel_drew _) hb))
  go_wp2_with fail
  refine hK.out _ _ ⟨hHeld.1.below (fun _ _ _ h => h.below hb), hHeld.2.1.below hb, hHeld.2.2.1.below hb, hHeld.2.2.2.1.below hb, hHeld.2.2.2.2.below hb⟩ (fun hHeld => ?_)
  clear hK K
  (try simp only [Act.put, List.setIfInBounds_toArray, List.set_cons_zero, List.set_cons_succ])
  refine wpAnyH_ready (rs := [7]) (by kernel_rfl) (by simp) ?_
  refine AllReadyH.cons (o := ?_) ?_ (fun K hK => ?_) AllReadyH.nil
  rotate_left
  · (simp only [List.getElem?_toArray, List.getElem?_cons_zero, List.getElem?_cons_succ]; rfl)
  go_simp
  (with_reducible refine (HQ.out _ (by first | assumption | exact hHeld.1)).mono ?_)
  rintro e w6 ⟨rfl, hb⟩
  replace HB := Lib.hid (below_call HB.out hb)
  go_wp2_with fail
  refine hK.out _ _ ⟨hHeld.1.below (fun _ _ _ h => h.below hb), hHeld.2.1.below hb, hHeld.2.2.1.below hb, hHeld.2.2.2.1.below hb, hHeld.2.2.2.2.below hb⟩ (fun hHeld => ?_)
  clear hK K
  (try simp only [Act.put, List.setIfInBounds_toArray, List.set_cons_zero, List.set_cons_succ])
  refine wpAnyH_take (i := 8) (oi := ?_) (v := ?_) ?_ (by kernel_rfl) (by kernel_rfl) (by kernel_rfl) ?_ (Or.inl ⟨?_, ?_⟩) hHeld ?_
  rotate_left 2
  · (simp only [List.getElem?_toArray, List.getElem?_cons_zero, List.getElem?_cons_succ]; rfl)
  · exact (fun _ _ _ h => h)
  · rfl
  · (intro w hSw; (try dsimp only at hSw); go_simp; try with_reducible rfl)
  (try simp only [Act.put, List.setIfInBounds_toArray, List.set_cons_zero, List.set_cons_succ])
  refine wpAnyH_take (i := 9) (oi := ?_) (v := ?_) ?_ (by kernel_rfl) (by kernel_rfl) (by kernel_rfl) ?_ (Or.inl ⟨?_, ?_⟩) hHeld ?_
  rotate_left 2
  · (simp only [List.getElem?_toArray, List.getElem?_cons_zero, List.getElem?_cons_succ]; rfl)
  · exact (fun _ _ _ h => h)
  · rfl
  · (intro w hSw; (try dsimp only at hSw); go_simp; try with_reducible rfl)
  (try simp only [Act.put, List.setIfInBounds_toArray, List.set_cons_zero, List.set_cons_succ])
  refine wpAnyH_take (i := 10) (oi := ?_) (v := ?_) ?_ (by kernel_rfl) (by kernel_rfl) (by kernel_rfl) ?_ (Or.inl ⟨?_, ?_⟩) hHeld ?_
  rotate_left 2
  · (simp only [List.getElem?_toArray, List.getElem?_cons_zero, List.getElem?_cons_succ]; rfl)
  · exact (fun _ _ _ h => h)
  · rfl
  · (intro w hSw; (try dsimp only at hSw); go_simp; try with_reducible rfl)
  (try simp only [Act.put, List.setIfInBounds_toArray, List.set_cons_zero, List.set_cons_succ])
  refine wpAnyH_take (i := 11) (oi := ?_) (v := ?_) ?_ (by kernel_rfl) (by kernel_rfl) (by kernel_rfl) ?_ (Or.inl ⟨?_, ?_⟩) hHeld ?_
  rotate_left 2
  · (simp only [List.getElem?_toArray, List.getElem?_cons_zero, List.getElem?_cons_succ]; rfl)
  · exact (fun _ _ _ h => h)
  · rfl
  · (intro w hSw; (try dsimp only at hSw); obtain ⟨c0, c1, c2⟩ := hSw.2.2.1.three; go_simp; try with_reducible rfl)
  (try simp only [Act.put, List.setIfInBounds_toArray, List.set_cons_zero, List.set_cons_succ])
  refine wpAnyH_take (i := 14) (oi := ?_) (v := ?_) ?_ (by kernel_rfl) (by kernel_rfl) (by kernel_rfl) ?_ (Or.inl ⟨?_, ?_⟩) hHeld ?_
  rotate_left 2
  · (simp only [List.getElem?_toArray, List.getElem?_cons_zero, List.getElem?_cons_succ]; rfl)
  · exact (fun _ _ _ h => h)
  · rfl
  · (intro w hSw; (try dsimp only at hSw); obtain ⟨c0, c1, c2⟩ := hSw.2.2.1.three; go_simp; try with_reducible rfl)
  (try simp only [Act.put, List.setIfInBounds_toArray, List.set_cons_zero, List.set_cons_succ])
  refine wpAnyH_ready (rs := [12]) (by kernel_rfl) (by simp) ?_
  refine AllReadyH.cons (o := ?_) ?_ (fun K hK => ?_) AllReadyH.nil
  rotate_left
  · (simp only [List.getElem?_toArray, List.getElem?_cons_zero, List.getElem?_cons_succ]; rfl)
  go_simp
  (with_reducible refine (rcprint_to ⟨p, wr, j⟩ p wr j rfl _).mono ?_)
  rintro e w7 ⟨v7, rfl, hv, hb⟩
  have HV7 := Lib.hid hv
  replace HB := Lib.hid (below_call HB.out hb)
  clear hv
  go_wp2_with fail
  refine hK.out _ _ ⟨hHeld.1.below (fun _ _ _ h => h.below hb), hHeld.2.1.below hb, hHeld.2.2.1.below hb, hHeld.2.2.2.1.below hb, hHeld.2.2.2.2.below hb⟩ (fun hHeld => ?_)
  clear hK K
  (try simp only [Act.put, List.setIfInBounds_toArray, List.set_cons_zero, List.set_cons_succ])
  refine wpAnyH_more (S' := (fun wx => Byts wx v7 (rcpr ⟨p, wr, j⟩) ∧ Els RTk 11 wx (.slice a0 K c0) ls ∧ Blk wx w.heap.size #[.int .i64 rp, .int .i64 rs] 23 ∧ Blk wx (w.heap.size + 1) #[.int .i64 p, .int .i64 wr, .int .i64 j] 26 ∧ Blk wx w2a.heap.size #[.int .i64 p2, .int .i64 w2, .int .i64 j2] 26 ∧ Blk wx w3a.heap.size #[.int .i64 p2, .int .i64 w2, .int .i64 j2] 26)) (fun _ h => h.2) _ _ _ _ ?_
  replace hHeld := And.intro HV7.out hHeld
  refine wpAnyH_take (i := 13) (oi := ?_) (v := ?_) ?_ (by kernel_rfl) (by kernel_rfl) (by kernel_rfl) ?_ (Or.inl ⟨?_, ?_⟩) hHeld ?_
  rotate_left 2
  · (simp only [List.getElem?_toArray, List.getElem?_cons_zero, List.getElem?_cons_succ]; rfl)
  · exact (fun _ _ _ h => h)
  · rfl
  · (intro w hSw; (try dsimp only at hSw); have hcv := txt_run _ _ _ hSw.1; go_simp; try with_reducible rfl)
  (try simp only [Act.put, List.setIfInBounds_toArray, List.set_cons_zero, List.set_cons_succ])
  refine wpAnyH_ready (rs := [15]) (by kernel_rfl) (by simp) ?_
  refine AllReadyH.cons (o := ?_) ?_ (fun K hK => ?_) AllReadyH.nil
  rotate_left
  · (simp only [List.getElem?_toArray, List.getElem?_cons_zero, List.getElem?_cons_succ]; rfl)
  go_simp
  (with_reducible refine (rcrprint_to ⟨p, wr, j⟩ p wr j rfl _).mono ?_)
  rintro e w8 ⟨v8, rfl, hv, hb⟩
  replace HB := Lib.hid (below_call HB.out hb)
  have hcv := txt_run _ _ _ hv
  clear hv
  go_wp2_with fail
  refine hK.out _ _ ⟨hHeld.1.below hb, hHeld.2.1.below (fun _ _ _ h => h.below hb), hHeld.2.2.1.below hb, hHeld.2.2.2.1.below hb, hHeld.2.2.2.2.1.below hb, hHeld.2.2.2.2.2.below hb⟩ (fun hHeld => ?_)
  clear hK K
  (try simp only [Act.put, List.setIfInBounds_toArray, List.set_cons_zero, List.set_cons_succ])
  refine wpAnyH_ready (rs := [16]) (by kernel_rfl) (by simp) ?_
  refine AllReadyH.cons (o := ?_) ?_ (fun K hK => ?_) AllReadyH.nil
  rotate_left
  · (simp only [List.getElem?_toArray, List.getElem?_cons_zero, List.getElem?_cons_succ]; rfl)
  go_simp
  refine hK.out _ _ hHeld (fun hHeld => ?_)
  clear hK K
  (try simp only [Act.put, List.setIfInBounds_toArray, List.set_cons_zero, List.set_cons_succ])
  refine wpAnyH_take (i := 17) (oi := ?_) (v := ?_) ?_ (by kernel_rfl) (by kernel_rfl) (by kernel_rfl) ?_ (Or.inl ⟨?_, ?_⟩) hHeld ?_
  rotate_left 2
  · (simp only [List.getElem?_toArray, List.getElem?_cons_zero, List.getElem?_cons_succ]; rfl)
  · exact (fun _ _ _ h => h)
  · rfl
  · (intro w hSw; (try dsimp only at hSw); go_simp; try with_reducible rfl)
  (try simp only [Act.put, List.setIfInBounds_toArray, List.set_cons_zero, List.set_cons_succ])
  refine wpAnyH_take (i := 18) (oi := ?_) (v := ?_) ?_ (by kernel_rfl) (by kernel_rfl) (by kernel_rfl) ?_ (Or.inl ⟨?_, ?_⟩) hHeld ?_
  rotate_left 2
  · (simp only [List.getElem?_toArray, List.getElem?_cons_zero, List.getElem?_cons_succ]; rfl)
  · exact (fun _ _ _ h => h)
  · rfl
  · (intro w hSw; (try dsimp only at hSw); go_simp; try with_reducible rfl)
  (try simp only [Act.put, List.setIfInBounds_toArray, List.set_cons_zero, List.set_cons_succ])
  refine wpAnyH_take (i := 19) (oi := ?_) (v := ?_) ?_ (by kernel_rfl) (by kernel_rfl) (by kernel_rfl) ?_ (Or.inl ⟨?_, ?_⟩) hHeld ?_
  rotate_left 2
  · (simp only [List.getElem?_toArray, List.getElem?_cons_zero, List.getElem?_cons_succ]; rfl)
  · exact (fun _ _ _ h => h)
  · rfl
  · (intro w hSw; (try dsimp only at hSw); go_simp; try with_reducible rfl)
  (try simp only [Act.put, List.setIfInBounds_toArray, List.set_cons_zero, List.set_cons_succ])
  refine wpAnyH_take (i := 20) (oi := ?_) (v := ?_) ?_ (by kernel_rfl) (by kernel_rfl) (by kernel_rfl) ?_ (Or.inl ⟨?_, ?_⟩) hHeld ?_
  rotate_left 2
  · (simp only [List.getElem?_toArray, List.getElem?_cons_zero, List.getElem?_cons_succ]; rfl)
  · exact (fun _ _ _ h => h)
  · rfl
  · (intro w hSw; (try dsimp only at hSw); obtain ⟨c0, c1, c2⟩ := hSw.2.2.2.2.1.three; go_simp; try with_reducible rfl)
  (try simp only [Act.put, List.setIfInBounds_toArray, List.set_cons_zero, List.set_cons_succ])
  refine wpAnyH_take (i := 21) (oi := ?_) (v := ?_) ?_ (by kernel_rfl) (by kernel_rfl) (by kernel_rfl) ?_ (Or.inl ⟨?_, ?_⟩) hHeld ?_
  rotate_left 2
  · (simp only [List.getElem?_toArray, List.getElem?_cons_zero, List.getElem?_cons_succ]; rfl)
  · exact (fun _ _ _ h => h)
  · rfl
  · (intro w hSw; (try dsimp only at hSw); obtain ⟨c0, c1, c2⟩ := hSw.2.2.2.2.2.three; go_simp; try with_reducible rfl)
  (try simp only [Act.put, List.setIfInBounds_toArray, List.set_cons_zero, List.set_cons_succ])
  refine wpAnyH_take (i := 22) (oi := ?_) (v := ?_) ?_ (by kernel_rfl) (by kernel_rfl) (by kernel_rfl) ?_ (Or.inl ⟨?_, ?_⟩) hHeld ?_
  rotate_left 2
  · (simp only [List.getElem?_toArray, List.getElem?_cons_zero, List.getElem?_cons_succ]; rfl)
  · exact (fun _ _ _ h => h)
  · rfl
  · (intro w hSw; (try dsimp only at hSw); go_simp; try with_reducible rfl)
  (try simp only [Act.put, List.setIfInBounds_toArray, List.set_cons_zero, List.set_cons_succ])
  refine wpAnyH_take (i := 23) (oi := ?_) (v := ?_) ?_ (by kernel_rfl) (by kernel_rfl) (by kernel_rfl) ?_ (Or.inl ⟨?_, ?_⟩) hHeld ?_
  rotate_left 2
  · (simp only [List.getElem?_toArray, List.getElem?_cons_zero, List.getElem?_cons_succ]; rfl)
  · exact (fun _ _ _ h => h)
  · rfl
  · (intro w hSw; (try dsimp only at hSw); go_simp; try with_reducible rfl)
  (try simp only [Act.put, List.setIfInBounds_toArray, List.set_cons_zero, List.set_cons_succ])
  refine wpAnyH_take (i := 24) (oi := ?_) (v := ?_) ?_ (by kernel_rfl) (by kernel_rfl) (by kernel_rfl) ?_ (Or.inl ⟨?_, ?_⟩) hHeld ?_
  rotate_left 2
  · (simp only [List.getElem?_toArray, List.getElem?_cons_zero, List.getElem?_cons_succ]; rfl)
  · exact (fun _ _ _ h => h)
  · rfl
  · (intro w hSw; (try dsimp only at hSw); go_simp; try with_reducible rfl)
  (try simp only [Act.put, List.setIfInBounds_toArray, List.set_cons_zero, List.set_cons_succ])
  refine wpAnyH_take (i := 25) (oi := ?_) (v := ?_) ?_ (by kernel_rfl) (by kernel_rfl) (by kernel_rfl) ?_ (Or.inl ⟨?_, ?_⟩) hHeld ?_
  rotate_left 2
  · (simp only [List.getElem?_toArray, List.getElem?_cons_zero, List.getElem?_cons_succ]; rfl)
  · exact (fun _ _ _ h => h)
  · rfl
  · (intro w hSw; (try dsimp only at hSw); go_simp; try with_reducible rfl)
  (try simp only [Act.put, List.setIfInBounds_toArray, List.set_cons_zero, List.set_cons_succ])
  refine wpAnyH_take (i := 26) (oi := ?_) (v := ?_) ?_ (by kernel_rfl) (by kernel_rfl) (by kernel_rfl) ?_ (Or.inl ⟨?_, ?_⟩) hHeld ?_
  rotate_left 2
  · (simp only [List.getElem?_toArray, List.getElem?_cons_zero, List.getElem?_cons_succ]; rfl)
  · exact (fun _ _ _ h => h)
  · rfl
  · (intro w hSw; (try dsimp only at hSw); go_simp; try with_reducible rfl)
  (try simp only [Act.put, List.setIfInBounds_toArray, List.set_cons_zero, List.set_cons_succ])
  refine wpAnyH_take (i := 27) (oi := ?_) (v := ?_) ?_ (by kernel_rfl) (by kernel_rfl) (by kernel_rfl) ?_ (Or.inl ⟨?_, ?_⟩) hHeld ?_
  rotate_left 2
  · (simp only [List.getElem?_toArray, List.getElem?_cons_zero, List.getElem?_cons_succ]; rfl)
  · exact (fun _ _ _ h => h)
  · rfl
  · (intro w hSw; (try dsimp only at hSw); go_simp; try with_reducible rfl)
  (try simp only [Act.put, List.setIfInBounds_toArray, List.set_cons_zero, List.set_cons_succ])
  refine wpAnyH_take (i := 28) (oi := ?_) (v := ?_) ?_ (by kernel_rfl) (by kernel_rfl) (by kernel_rfl) ?_ (Or.inl ⟨?_, ?_⟩) hHeld ?_
  rotate_left 2
  · (simp only [List.getElem?_toArray, List.getElem?_cons_zero, List.getElem?_cons_succ]; rfl)
  · exact (fun _ _ _ h => h)
  · rfl
  · (intro w hSw; (try dsimp only at hSw); go_simp; try with_reducible rfl)
  (try simp only [Act.put, List.setIfInBounds_toArray, List.set_cons_zero, List.set_cons_succ])
  refine wpAnyH_take (i := 29) (oi := ?_) (v := ?_) ?_ (by kernel_rfl) (by kernel_rfl) (by kernel_rfl) ?_ (Or.inl ⟨?_, ?_⟩) hHeld ?_
  rotate_left 2
  · (simp only [List.getElem?_toArray, List.getElem?_cons_zero, List.getElem?_cons_succ]; rfl)
  · exact (fun _ _ _ h => h)
  · rfl
  · (intro w hSw; (try dsimp only at hSw); go_simp; try with_reducible rfl)
  (try simp only [Act.put, List.setIfInBounds_toArray, List.set_cons_zero, List.set_cons_succ])
  refine wpAnyH_done (by kernel_rfl) ?_ _
  go_wp2_with fail
  go_ret
  exact ⟨rfl, HB.out⟩
theorem tells_any (rp rs : Int) (v u : Value) (ls : List Tk) (p wr j : Int) (xs : List (BitVec 8)) (w : World) (hv : Els RTk 11 w v ls) (hu : Byts w u xs) : Calls Try.prog 3 #[.agg #[.int .i64 rp, .int .i64 rs], v, .agg #[.int .i64 p, .int .i64 wr, .int .i64 j], u] w fun e w' => e = .returned (.bool true) ∧ Below w.heap.size w w' := by
  obtain ⟨a0, c0, rfl⟩ := hv.len
  obtain ⟨a1, c1, rfl⟩ := hu.len
  obtain ⟨K, hK⟩ : ∃ n, ls.length = n := ⟨_, rfl⟩
  obtain ⟨M, hM⟩ : ∃ n, xs.length = n := ⟨_, rfl⟩
  rw [hK] at hv ⊢
  rw [hM] at hu ⊢
  by_cases h0 : 100 < K
  · exact tells_many rp rs a0 K c0 p wr j a1 M c1 w h0
  · by_cases h : 100 < M
    · exact tells_long rp rs a0 K c0 p wr j a1 M c1 w (by omega) h
    · obtain ⟨r, hr⟩ : ∃ r, rcout (rcps xs) = r := ⟨_, rfl⟩
      obtain ⟨⟨p2, w2, j2⟩, q2⟩ := r
      exact tells_main rp rs a0 K c0 p wr j a1 M c1 ls xs p2 w2 j2 q2 w hv hK hu (by omega) (by omega) hr
end Go.Proofs.Ytalfcbgffgikkaa

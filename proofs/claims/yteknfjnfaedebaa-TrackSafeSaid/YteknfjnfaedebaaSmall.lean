/-
  The walk of crossbucklaw12.small: true.
-/
import Derived.Test.YteknfjnfaedebaaTkStep
namespace Go.Proofs.Yteknfjnfaedebaa
open Go.RowKit

/-- What small has made ahead of its two steps in one. -/
structure Sm (w wx : World) (gd ga gb : Nat) (D A B : Array Value) : Prop where
  bel : Below w.heap.size w wx
  d : Blk wx gd D 23
  a : Blk wx ga A 31
  b : Blk wx gb B 31
theorem Sm.call {w wx w' : World} {gd ga gb : Nat} {D A B : Array Value} (h : Sm w wx gd ga gb D A B) (hb : Below wx.heap.size wx w') : Sm w w' gd ga gb D A B := ⟨below_call h.bel hb, h.d.below hb, h.a.below hb, h.b.below hb⟩
theorem Sm.keep {w wx w' : World} {gd ga gb g4 : Nat} {D A B : Array Value} (h : Sm w wx gd ga gb D A B) (k : Keep (fun x => x = g4) wx w') (h4 : w.heap.size ≤ g4 ∧ gd ≠ g4 ∧ ga ≠ g4 ∧ gb ≠ g4) : Sm w w' gd ga gb D A B :=
  ⟨below_keep h.bel k (fun g e => by omega), h.d.keep k h4.2.1, h.a.keep k h4.2.2.1, h.b.keep k h4.2.2.2⟩
theorem Sm.free {w wx : World} {gd ga gb : Nat} {D A B : Array Value} (h : Sm w wx gd ga gb D A B) : w.heap.size ≤ wx.heap.size ∧ gd ≠ wx.heap.size ∧ ga ≠ wx.heap.size ∧ gb ≠ wx.heap.size :=
  ⟨h.bel.size, Nat.ne_of_lt h.d.lt, Nat.ne_of_lt h.a.lt, Nat.ne_of_lt h.b.lt⟩
set_option maxHeartbeats 8000000 in
set_option maxRecDepth 10000 in
theorem small_true (w : World) : Calls Try.prog 8 #[] w fun e w' => e = .returned (.bool true) ∧ Below w.heap.size w w' := by
  have HB := Lib.hid (below_alloc (Below.refl _ w) (.cells #[.int .i64 2, .int .i64 0, .int .i64 0] 23))
  have HKd := Lib.hid (blk_new w #[.int .i64 2, .int .i64 0, .int .i64 0] 23)
  go_enter Try.func8, Try.ntmps8
  obtain ⟨cd0, cd1, cd2⟩ := HKd.out.three
  go_wp2_with fail
  (with_reducible refine (tstep_to false 0 0 false 0 0 false false 0 false false true 0 0 0 0 2 0 0 false true 0 0 false 0 0 false true 0 false false (by kernel_rfl) (by unfold PosR; omega) _).mono ?_)
  rintro e w1 ⟨rfl, hb⟩
  clear cd0 cd1 cd2
  replace HB := Lib.hid (below_call HB.out hb)
  replace HKd := Lib.hid (HKd.out.below hb)
  clear hb
  replace HB := Lib.hid (below_alloc HB.out (.cells #[.bool true, .int .i64 0, .int .i64 0, .bool false, .int .i64 0, .int .i64 0, .bool false, .bool true, .int .i64 0, .bool false, .bool false] 31))
  replace HKd := Lib.hid (HKd.out.below (below_alloc (Below.refl _ w1) (.cells #[.bool true, .int .i64 0, .int .i64 0, .bool false, .int .i64 0, .int .i64 0, .bool false, .bool true, .int .i64 0, .bool false, .bool false] 31)))
  have HKa := Lib.hid (blk_new w1 #[.bool true, .int .i64 0, .int .i64 0, .bool false, .int .i64 0, .int .i64 0, .bool false, .bool true, .int .i64 0, .bool false, .bool false] 31)
  obtain ⟨cd0, cd1, cd2⟩ := HKd.out.three
  obtain ⟨ca0, ca1, ca2, ca3, ca4, ca5, ca6, ca7, ca8, ca9, ca10⟩ := HKa.out.c11
  go_wp2_with fail
  (with_reducible refine (tstep_to true 0 0 false 0 0 false true 0 false false true 4 0 0 0 2 0 0 false true 4 0 false 0 0 false false 1 false false (by kernel_rfl) (by unfold PosR; omega) _).mono ?_)
  rintro e w2 ⟨rfl, hb⟩
  clear cd0 cd1 cd2
  clear ca0 ca1 ca2 ca3 ca4 ca5 ca6 ca7 ca8 ca9 ca10
  replace HB := Lib.hid (below_call HB.out hb)
  replace HKd := Lib.hid (HKd.out.below hb)
  replace HKa := Lib.hid (HKa.out.below hb)
  clear hb
  replace HB := Lib.hid (below_alloc HB.out (.cells #[.bool true, .int .i64 4, .int .i64 0, .bool false, .int .i64 0, .int .i64 0, .bool false, .bool false, .int .i64 1, .bool false, .bool false] 31))
  replace HKd := Lib.hid (HKd.out.below (below_alloc (Below.refl _ w2) (.cells #[.bool true, .int .i64 4, .int .i64 0, .bool false, .int .i64 0, .int .i64 0, .bool false, .bool false, .int .i64 1, .bool false, .bool false] 31)))
  replace HKa := Lib.hid (HKa.out.below (below_alloc (Below.refl _ w2) (.cells #[.bool true, .int .i64 4, .int .i64 0, .bool false, .int .i64 0, .int .i64 0, .bool false, .bool false, .int .i64 1, .bool false, .bool false] 31)))
  have HKb := Lib.hid (blk_new w2 #[.bool true, .int .i64 4, .int .i64 0, .bool false, .int .i64 0, .int .i64 0, .bool false, .bool false, .int .i64 1, .bool false, .bool false] 31)
  have HS : Hid (Sm w _ w.heap.size w1.heap.size w2.heap.size #[.int .i64 2, .int .i64 0, .int .i64 0] #[.bool true, .int .i64 0, .int .i64 0, .bool false, .int .i64 0, .int .i64 0, .bool false, .bool true, .int .i64 0, .bool false, .bool false] #[.bool true, .int .i64 4, .int .i64 0, .bool false, .int .i64 0, .int .i64 0, .bool false, .bool false, .int .i64 1, .bool false, .bool false]) := Lib.hid ⟨HB.out, HKd.out, HKa.out, HKb.out⟩
  have S1 := Lib.hid (tstep_to true 4 0 false 0 0 false false 1 false false true 4 0 0 0 2 0 0 false true 4 0 false 0 0 false false 2 false false (by kernel_rfl) (by unfold PosR; omega))
  have S2 := Lib.hid (tstep_to true 4 0 false 0 0 false false 2 false false true 4 0 0 0 2 0 0 false true 4 0 false 0 0 false false 3 false true (by kernel_rfl) (by unfold PosR; omega))
  clear HB HKd HKa HKb
  go_upto_region 4 with fail
  go_cut [4] (fun s4 wx => ∃ g4 : Nat, s4 = .pointer (some ⟨g4, 0, none⟩) ∧ Hid (Sm w wx w.heap.size w1.heap.size w2.heap.size #[.int .i64 2, .int .i64 0, .int .i64 0] #[.bool true, .int .i64 0, .int .i64 0, .bool false, .int .i64 0, .int .i64 0, .bool false, .bool true, .int .i64 0, .bool false, .bool false] #[.bool true, .int .i64 4, .int .i64 0, .bool false, .int .i64 0, .int .i64 0, .bool false, .bool false, .int .i64 1, .bool false, .bool false]) ∧ Hid (Blk wx g4 #[.bool true, .int .i64 4, .int .i64 0, .bool false, .int .i64 0, .int .i64 0, .bool false, .bool false, .int .i64 3, .bool false, .bool true] 31))
  case first =>
    refine wp_region_held_drew (S := (fun wx => Sm w wx w.heap.size w1.heap.size w2.heap.size #[.int .i64 2, .int .i64 0, .int .i64 0] #[.bool true, .int .i64 0, .int .i64 0, .bool false, .int .i64 0, .int .i64 0, .bool false, .bool true, .int .i64 0, .bool false, .bool false] #[.bool true, .int .i64 4, .int .i64 0, .bool false, .int .i64 0, .int .i64 0, .bool false, .bool false, .int .i64 1, .bool false, .bool false])) (by kernel_rfl) (HS.out.call (bel_drew _)) (fun hHeld => ?_)
    refine wpAnyH_take (i := 0) (oi := ?_) (v := ?_) ?_ (by kernel_rfl) (by kernel_rfl) (by kernel_rfl) ?_ (Or.inl ⟨?_, ?_⟩) hHeld ?_
    rotate_left 2
    · (simp only [List.getElem?_toArray, List.getElem?_cons_zero]; rfl)
    · exact (fun _ _ _ h => h)
    · rfl
    · (intro w hSw; (try dsimp only at hSw); obtain ⟨z0, z1, z2, z3, z4, z5, z6, z7, z8, z9, z10⟩ := hSw.b.c11; go_simp; try with_reducible rfl)
    (try simp only [Act.put, List.setIfInBounds_toArray, List.set_cons_zero, List.set_cons_succ])
    refine wpAnyH_take (i := 1) (oi := ?_) (v := ?_) ?_ (by kernel_rfl) (by kernel_rfl) (by kernel_rfl) ?_ (Or.inl ⟨?_, ?_⟩) hHeld ?_
    rotate_left 2
    · (simp only [List.getElem?_toArray, List.getElem?_cons_zero, List.getElem?_cons_succ]; rfl)
    · exact (fun _ _ _ h => h)
    · rfl
    · (intro w hSw; (try dsimp only at hSw); go_simp; try with_reducible rfl)
    (try simp only [Act.put, List.setIfInBounds_toArray, List.set_cons_zero, List.set_cons_succ])
    refine wpAnyH_take (i := 2) (oi := ?_) (v := ?_) ?_ (by kernel_rfl) (by kernel_rfl) (by kernel_rfl) ?_ (Or.inl ⟨?_, ?_⟩) hHeld ?_
    rotate_left 2
    · (simp only [List.getElem?_toArray, List.getElem?_cons_zero, List.getElem?_cons_succ]; rfl)
    · exact (fun _ _ _ h => h)
    · rfl
    · (intro w hSw; (try dsimp only at hSw); obtain ⟨y0, y1, y2⟩ := hSw.d.three; go_simp; try with_reducible rfl)
    (try simp only [Act.put, List.setIfInBounds_toArray, List.set_cons_zero, List.set_cons_succ])
    refine wpAnyH_take (i := 4) (oi := ?_) (v := ?_) ?_ (by kernel_rfl) (by kernel_rfl) (by kernel_rfl) ?_ (Or.inl ⟨?_, ?_⟩) hHeld ?_
    rotate_left 2
    · (simp only [List.getElem?_toArray, List.getElem?_cons_zero, List.getElem?_cons_succ]; rfl)
    · exact (fun _ _ _ h => h)
    · rfl
    · (intro w hSw; (try dsimp only at hSw); go_simp; try with_reducible rfl)
    (try simp only [Act.put, List.setIfInBounds_toArray, List.set_cons_zero, List.set_cons_succ])
    refine wpAnyH_take (i := 5) (oi := ?_) (v := ?_) ?_ (by kernel_rfl) (by kernel_rfl) (by kernel_rfl) ?_ (Or.inl ⟨?_, ?_⟩) hHeld ?_
    rotate_left 2
    · (simp only [List.getElem?_toArray, List.getElem?_cons_zero, List.getElem?_cons_succ]; rfl)
    · exact (fun _ _ _ h => h)
    · rfl
    · (intro w hSw; (try dsimp only at hSw); obtain ⟨y0, y1, y2⟩ := hSw.d.three; go_simp; try with_reducible rfl)
    (try simp only [Act.put, List.setIfInBounds_toArray, List.set_cons_zero, List.set_cons_succ])
    have HS : Hid (Sm w _ w.heap.size w1.heap.size w2.heap.size #[.int .i64 2, .int .i64 0, .int .i64 0] #[.bool true, .int .i64 0, .int .i64 0, .bool false, .int .i64 0, .int .i64 0, .bool false, .bool true, .int .i64 0, .bool false, .bool false] #[.bool true, .int .i64 4, .int .i64 0, .bool false, .int .i64 0, .int .i64 0, .bool false, .bool false, .int .i64 1, .bool false, .bool false]) := Lib.hid hHeld
    clear hHeld
    generalize (w2.alloc (.cells #[.bool true, .int .i64 4, .int .i64 0, .bool false, .int .i64 0, .int .i64 0, .bool false, .bool false, .int .i64 1, .bool false, .bool false] 31)).drew = WR at *
    skip
    refine wpAnyH_ready (rs := [3, 7]) (by kernel_rfl) (by simp) ?_
    refine AllReadyH.cons (o := ?_) ?_ (fun K hK => ?_) ?_
    rotate_left
    · (simp only [List.getElem?_toArray, List.getElem?_cons_zero, List.getElem?_cons_succ]; rfl)
    · -- the inner call first
      go_simp
      (with_reducible refine (S1.out _).mono ?_)
      rintro e w4 ⟨rfl, hb⟩
      replace HS := Lib.hid (HS.out.call hb)
      clear hb
      go_wp2_with fail
      refine hK.out _ _ HS.out (fun hHeld => ?_)
      clear hK K
      (try simp only [Act.put, List.setIfInBounds_toArray, List.set_cons_zero, List.set_cons_succ])
      refine wpAnyH_ready (rs := [6, 7]) (by kernel_rfl) (by simp) ?_
      refine AllReadyH.cons (o := ?_) ?_ (fun K hK => ?_) ?_
      rotate_left
      · (simp only [List.getElem?_toArray, List.getElem?_cons_zero, List.getElem?_cons_succ]; rfl)
      · -- the outer call next
        go_simp
        (with_reducible refine (S2.out _).mono ?_)
        rintro e w5 ⟨rfl, hb⟩
        replace HS := Lib.hid (HS.out.call hb)
        clear hb
        go_wp2_with fail
        refine hK.out _ _ HS.out (fun hHeld => ?_)
        clear hK K
        (try simp only [Act.put, List.setIfInBounds_toArray, List.set_cons_zero, List.set_cons_succ])
        refine wpAnyH_ready (rs := [7]) (by kernel_rfl) (by simp) ?_
        refine AllReadyH.cons (o := ?_) ?_ (fun K hK => ?_) AllReadyH.nil
        rotate_left
        · (simp only [List.getElem?_toArray, List.getElem?_cons_zero, List.getElem?_cons_succ]; rfl)
        go_simp
        refine hK.out _ _ (HS.out.call (below_alloc (Below.refl _ w5) _)) (fun hHeld => ?_)
        clear hK K
        (try simp only [Act.put, List.setIfInBounds_toArray, List.set_cons_zero, List.set_cons_succ])
        refine wpAnyH_ready (rs := [8]) (by kernel_rfl) (by simp) ?_
        refine AllReadyH.cons (o := ?_) ?_ (fun K hK => ?_) AllReadyH.nil
        rotate_left
        · (simp only [List.getElem?_toArray, List.getElem?_cons_zero, List.getElem?_cons_succ]; rfl)
        have h0 := blk_new w5 #[.bool false, .int .i64 0, .int .i64 0, .bool false, .int .i64 0, .int .i64 0, .bool false, .bool false, .int .i64 0, .bool false, .bool false] 31
        obtain ⟨f0, f1, f2, f3, f4, f5, f6, f7, f8, f9, f10⟩ := h0.f11
        clear h0
        go_simp
        clear f0 f1 f2 f3 f4 f5 f6 f7 f8 f9 f10
        replace HS := Lib.hid (HS.out.call (below_alloc (Below.refl _ w5) (.cells #[.bool true, .int .i64 4, .int .i64 0, .bool false, .int .i64 0, .int .i64 0, .bool false, .bool false, .int .i64 3, .bool false, .bool true] 31)))
        have HC := Lib.hid (blk_new w5 #[.bool true, .int .i64 4, .int .i64 0, .bool false, .int .i64 0, .int .i64 0, .bool false, .bool false, .int .i64 3, .bool false, .bool true] 31)
        refine hK.out _ _ HS.out (fun hHeld => ?_)
        clear hK K
        (try simp only [Act.put, List.setIfInBounds_toArray, List.set_cons_zero, List.set_cons_succ])
        refine wpAnyH_done (by kernel_rfl) ?_ _
        generalize w5.alloc (.cells #[.bool true, .int .i64 4, .int .i64 0, .bool false, .int .i64 0, .int .i64 0, .bool false, .bool false, .int .i64 3, .bool false, .bool true] 31) = w9 at *
        generalize w5.heap.size = g4 at *
        go_wp2_with fail
        go_meet
        exact ⟨_, rfl, HS, HC⟩
      · refine AllReadyH.cons (o := ?_) ?_ (fun K hK => ?_) AllReadyH.nil
        rotate_left
        · (simp only [List.getElem?_toArray, List.getElem?_cons_zero, List.getElem?_cons_succ]; rfl)
        go_simp
        have HF := Lib.hid (HS.out.free)
        have HC := Lib.hid ((blk_new (w4) #[.bool false, .int .i64 0, .int .i64 0, .bool false, .int .i64 0, .int .i64 0, .bool false, .bool false, .int .i64 0, .bool false, .bool false] 31))
        replace HS := Lib.hid (HS.out.call (below_alloc (Below.refl _ (w4)) (.cells #[.bool false, .int .i64 0, .int .i64 0, .bool false, .int .i64 0, .int .i64 0, .bool false, .bool false, .int .i64 0, .bool false, .bool false] 31)))
        refine hK.out _ _ HS.out (fun hHeld => ?_)
        clear hK K
        (try simp only [Act.put, List.setIfInBounds_toArray, List.set_cons_zero, List.set_cons_succ])
        refine wpAnyH_ready (rs := [6]) (by kernel_rfl) (by simp) ?_
        refine AllReadyH.cons (o := ?_) ?_ (fun K hK => ?_) AllReadyH.nil
        rotate_left
        · (simp only [List.getElem?_toArray, List.getElem?_cons_zero, List.getElem?_cons_succ]; rfl)
        go_simp
        (with_reducible refine (S2.out _).mono ?_)
        rintro e w5 ⟨rfl, hb⟩
        replace HS := Lib.hid (HS.out.call hb)
        replace HC := Lib.hid (HC.out.below hb)
        clear hb
        go_wp2_with fail
        refine hK.out _ _ HS.out (fun hHeld => ?_)
        clear hK K
        (try simp only [Act.put, List.setIfInBounds_toArray, List.set_cons_zero, List.set_cons_succ])
        refine wpAnyH_ready (rs := [8]) (by kernel_rfl) (by simp) ?_
        refine AllReadyH.cons (o := ?_) ?_ (fun K hK => ?_) AllReadyH.nil
        rotate_left
        · (simp only [List.getElem?_toArray, List.getElem?_cons_zero, List.getElem?_cons_succ]; rfl)
        obtain ⟨f0, f1, f2, f3, f4, f5, f6, f7, f8, f9, f10⟩ := HC.out.f11
        obtain ⟨z0, z1, z2, z3, z4, z5, z6, z7, z8, z9, z10⟩ := HC.out.c11
        go_simp
        clear f0 f1 f2 f3 f4 f5 f6 f7 f8 f9 f10
        clear z0 z1 z2 z3 z4 z5 z6 z7 z8 z9 z10
        replace HS := Lib.hid (HS.out.keep (keep_putT w5 w4.heap.size (.bool true) (.int .i64 4) (.int .i64 0) (.bool false) (.int .i64 0) (.int .i64 0) (.bool false) (.bool false) (.int .i64 3) (.bool false) (.bool true)) HF.out)
        replace HC := Lib.hid (HC.out.putT (.bool true) (.int .i64 4) (.int .i64 0) (.bool false) (.int .i64 0) (.int .i64 0) (.bool false) (.bool false) (.int .i64 3) (.bool false) (.bool true))
        refine hK.out _ _ HS.out (fun hHeld => ?_)
        clear hK K
        (try simp only [Act.put, List.setIfInBounds_toArray, List.set_cons_zero, List.set_cons_succ])
        refine wpAnyH_done (by kernel_rfl) ?_ _
        generalize ((((((((((w5.setCell ⟨w4.heap.size, 0, none⟩ (.bool true)).setCell ⟨w4.heap.size, 1, none⟩ (.int .i64 4)).setCell ⟨w4.heap.size, 2, none⟩ (.int .i64 0)).setCell ⟨w4.heap.size, 3, none⟩ (.bool false)).setCell ⟨w4.heap.size, 4, none⟩ (.int .i64 0)).setCell ⟨w4.heap.size, 5, none⟩ (.int .i64 0)).setCell ⟨w4.heap.size, 6, none⟩ (.bool false)).setCell ⟨w4.heap.size, 7, none⟩ (.bool false)).setCell ⟨w4.heap.size, 8, none⟩ (.int .i64 3)).setCell ⟨w4.heap.size, 9, none⟩ (.bool false)).setCell ⟨w4.heap.size, 10, none⟩ (.bool true) = w9 at *
        generalize w4.heap.size = g4 at *
        go_wp2_with fail
        go_meet
        exact ⟨_, rfl, HS, HC⟩
    · refine AllReadyH.cons (o := ?_) ?_ (fun K hK => ?_) AllReadyH.nil
      rotate_left
      · (simp only [List.getElem?_toArray, List.getElem?_cons_zero, List.getElem?_cons_succ]; rfl)
      go_simp
      have HF := Lib.hid (HS.out.free)
      have HC := Lib.hid ((blk_new (WR) #[.bool false, .int .i64 0, .int .i64 0, .bool false, .int .i64 0, .int .i64 0, .bool false, .bool false, .int .i64 0, .bool false, .bool false] 31))
      replace HS := Lib.hid (HS.out.call (below_alloc (Below.refl _ (WR)) (.cells #[.bool false, .int .i64 0, .int .i64 0, .bool false, .int .i64 0, .int .i64 0, .bool false, .bool false, .int .i64 0, .bool false, .bool false] 31)))
      refine hK.out _ _ HS.out (fun hHeld => ?_)
      clear hK K
      (try simp only [Act.put, List.setIfInBounds_toArray, List.set_cons_zero, List.set_cons_succ])
      refine wpAnyH_ready (rs := [3]) (by kernel_rfl) (by simp) ?_
      refine AllReadyH.cons (o := ?_) ?_ (fun K hK => ?_) AllReadyH.nil
      rotate_left
      · (simp only [List.getElem?_toArray, List.getElem?_cons_zero, List.getElem?_cons_succ]; rfl)
      go_simp
      (with_reducible refine (S1.out _).mono ?_)
      rintro e w4 ⟨rfl, hb⟩
      replace HS := Lib.hid (HS.out.call hb)
      replace HC := Lib.hid (HC.out.below hb)
      clear hb
      go_wp2_with fail
      refine hK.out _ _ HS.out (fun hHeld => ?_)
      clear hK K
      (try simp only [Act.put, List.setIfInBounds_toArray, List.set_cons_zero, List.set_cons_succ])
      refine wpAnyH_ready (rs := [6]) (by kernel_rfl) (by simp) ?_
      refine AllReadyH.cons (o := ?_) ?_ (fun K hK => ?_) AllReadyH.nil
      rotate_left
      · (simp only [List.getElem?_toArray, List.getElem?_cons_zero, List.getElem?_cons_succ]; rfl)
      go_simp
      (with_reducible refine (S2.out _).mono ?_)
      rintro e w5 ⟨rfl, hb⟩
      replace HS := Lib.hid (HS.out.call hb)
      replace HC := Lib.hid (HC.out.below hb)
      clear hb
      go_wp2_with fail
      refine hK.out _ _ HS.out (fun hHeld => ?_)
      clear hK K
      (try simp only [Act.put, List.setIfInBounds_toArray, List.set_cons_zero, List.set_cons_succ])
      refine wpAnyH_ready (rs := [8]) (by kernel_rfl) (by simp) ?_
      refine AllReadyH.cons (o := ?_) ?_ (fun K hK => ?_) AllReadyH.nil
      rotate_left
      · (simp only [List.getElem?_toArray, List.getElem?_cons_zero, List.getElem?_cons_succ]; rfl)
      obtain ⟨f0, f1, f2, f3, f4, f5, f6, f7, f8, f9, f10⟩ := HC.out.f11
      obtain ⟨z0, z1, z2, z3, z4, z5, z6, z7, z8, z9, z10⟩ := HC.out.c11
      go_simp
      clear f0 f1 f2 f3 f4 f5 f6 f7 f8 f9 f10
      clear z0 z1 z2 z3 z4 z5 z6 z7 z8 z9 z10
      replace HS := Lib.hid (HS.out.keep (keep_putT w5 WR.heap.size (.bool true) (.int .i64 4) (.int .i64 0) (.bool false) (.int .i64 0) (.int .i64 0) (.bool false) (.bool false) (.int .i64 3) (.bool false) (.bool true)) HF.out)
      replace HC := Lib.hid (HC.out.putT (.bool true) (.int .i64 4) (.int .i64 0) (.bool false) (.int .i64 0) (.int .i64 0) (.bool false) (.bool false) (.int .i64 3) (.bool false) (.bool true))
      refine hK.out _ _ HS.out (fun hHeld => ?_)
      clear hK K
      (try simp only [Act.put, List.setIfInBounds_toArray, List.set_cons_zero, List.set_cons_succ])
      refine wpAnyH_done (by kernel_rfl) ?_ _
      generalize ((((((((((w5.setCell ⟨WR.heap.size, 0, none⟩ (.bool true)).setCell ⟨WR.heap.size, 1, none⟩ (.int .i64 4)).setCell ⟨WR.heap.size, 2, none⟩ (.int .i64 0)).setCell ⟨WR.heap.size, 3, none⟩ (.bool false)).setCell ⟨WR.heap.size, 4, none⟩ (.int .i64 0)).setCell ⟨WR.heap.size, 5, none⟩ (.int .i64 0)).setCell ⟨WR.heap.size, 6, none⟩ (.bool false)).setCell ⟨WR.heap.size, 7, none⟩ (.bool false)).setCell ⟨WR.heap.size, 8, none⟩ (.int .i64 3)).setCell ⟨WR.heap.size, 9, none⟩ (.bool false)).setCell ⟨WR.heap.size, 10, none⟩ (.bool true) = w9 at *
      generalize WR.heap.size = g4 at *
      go_wp2_with fail
      go_meet
      exact ⟨_, rfl, HS, HC⟩
  case rest =>
    obtain ⟨g4, rfl, HS', HKc⟩ := hcut
    clear HS S1 S2
    have HB := Lib.hid HS'.out.bel
    have HKd := Lib.hid HS'.out.d
    have HKa := Lib.hid HS'.out.a
    have HKb := Lib.hid HS'.out.b
    clear HS'
    obtain ⟨cd0, cd1, cd2⟩ := HKd.out.three
    obtain ⟨ca0, ca1, ca2, ca3, ca4, ca5, ca6, ca7, ca8, ca9, ca10⟩ := HKa.out.c11
    go_wp2_with fail
    (with_reducible refine (tstep_to true 0 0 false 0 0 false true 0 false false false 0 0 0 0 2 0 0 false true 0 0 false 0 0 false false 1 true true (by kernel_rfl) (by unfold PosR; omega) _).mono ?_)
    rintro e w6 ⟨rfl, hb⟩
    clear cd0 cd1 cd2
    clear ca0 ca1 ca2 ca3 ca4 ca5 ca6 ca7 ca8 ca9 ca10
    replace HB := Lib.hid (below_call HB.out hb)
    replace HKd := Lib.hid (HKd.out.below hb)
    replace HKa := Lib.hid (HKa.out.below hb)
    replace HKb := Lib.hid (HKb.out.below hb)
    replace HKc := Lib.hid (HKc.out.below hb)
    clear hb
    replace HB := Lib.hid (below_alloc HB.out (.cells #[.bool true, .int .i64 0, .int .i64 0, .bool false, .int .i64 0, .int .i64 0, .bool false, .bool false, .int .i64 1, .bool true, .bool true] 31))
    replace HKd := Lib.hid (HKd.out.below (below_alloc (Below.refl _ w6) (.cells #[.bool true, .int .i64 0, .int .i64 0, .bool false, .int .i64 0, .int .i64 0, .bool false, .bool false, .int .i64 1, .bool true, .bool true] 31)))
    replace HKa := Lib.hid (HKa.out.below (below_alloc (Below.refl _ w6) (.cells #[.bool true, .int .i64 0, .int .i64 0, .bool false, .int .i64 0, .int .i64 0, .bool false, .bool false, .int .i64 1, .bool true, .bool true] 31)))
    replace HKb := Lib.hid (HKb.out.below (below_alloc (Below.refl _ w6) (.cells #[.bool true, .int .i64 0, .int .i64 0, .bool false, .int .i64 0, .int .i64 0, .bool false, .bool false, .int .i64 1, .bool true, .bool true] 31)))
    replace HKc := Lib.hid (HKc.out.below (below_alloc (Below.refl _ w6) (.cells #[.bool true, .int .i64 0, .int .i64 0, .bool false, .int .i64 0, .int .i64 0, .bool false, .bool false, .int .i64 1, .bool true, .bool true] 31)))
    have HKs := Lib.hid (blk_new w6 #[.bool true, .int .i64 0, .int .i64 0, .bool false, .int .i64 0, .int .i64 0, .bool false, .bool false, .int .i64 1, .bool true, .bool true] 31)
    obtain ⟨cd0, cd1, cd2⟩ := HKd.out.three
    obtain ⟨ca0, ca1, ca2, ca3, ca4, ca5, ca6, ca7, ca8, ca9, ca10⟩ := HKa.out.c11
    go_wp2_with fail
    (with_reducible refine (tstep_to true 0 0 false 0 0 false true 0 false false true 0 1 0 0 2 0 0 false true 0 1 true 0 0 false false 1 true true (by kernel_rfl) (by unfold PosR; omega) _).mono ?_)
    rintro e w7 ⟨rfl, hb⟩
    clear cd0 cd1 cd2
    clear ca0 ca1 ca2 ca3 ca4 ca5 ca6 ca7 ca8 ca9 ca10
    replace HB := Lib.hid (below_call HB.out hb)
    replace HKd := Lib.hid (HKd.out.below hb)
    replace HKa := Lib.hid (HKa.out.below hb)
    replace HKb := Lib.hid (HKb.out.below hb)
    replace HKc := Lib.hid (HKc.out.below hb)
    replace HKs := Lib.hid (HKs.out.below hb)
    clear hb
    replace HB := Lib.hid (below_alloc HB.out (.cells #[.bool true, .int .i64 0, .int .i64 1, .bool true, .int .i64 0, .int .i64 0, .bool false, .bool false, .int .i64 1, .bool true, .bool true] 31))
    replace HKd := Lib.hid (HKd.out.below (below_alloc (Below.refl _ w7) (.cells #[.bool true, .int .i64 0, .int .i64 1, .bool true, .int .i64 0, .int .i64 0, .bool false, .bool false, .int .i64 1, .bool true, .bool true] 31)))
    replace HKa := Lib.hid (HKa.out.below (below_alloc (Below.refl _ w7) (.cells #[.bool true, .int .i64 0, .int .i64 1, .bool true, .int .i64 0, .int .i64 0, .bool false, .bool false, .int .i64 1, .bool true, .bool true] 31)))
    replace HKb := Lib.hid (HKb.out.below (below_alloc (Below.refl _ w7) (.cells #[.bool true, .int .i64 0, .int .i64 1, .bool true, .int .i64 0, .int .i64 0, .bool false, .bool false, .int .i64 1, .bool true, .bool true] 31)))
    replace HKc := Lib.hid (HKc.out.below (below_alloc (Below.refl _ w7) (.cells #[.bool true, .int .i64 0, .int .i64 1, .bool true, .int .i64 0, .int .i64 0, .bool false, .bool false, .int .i64 1, .bool true, .bool true] 31)))
    replace HKs := Lib.hid (HKs.out.below (below_alloc (Below.refl _ w7) (.cells #[.bool true, .int .i64 0, .int .i64 1, .bool true, .int .i64 0, .int .i64 0, .bool false, .bool false, .int .i64 1, .bool true, .bool true] 31)))
    have HKw := Lib.hid (blk_new w7 #[.bool true, .int .i64 0, .int .i64 1, .bool true, .int .i64 0, .int .i64 0, .bool false, .bool false, .int .i64 1, .bool true, .bool true] 31)
    obtain ⟨cd0, cd1, cd2⟩ := HKd.out.three
    obtain ⟨cw0, cw1, cw2, cw3, cw4, cw5, cw6, cw7, cw8, cw9, cw10⟩ := HKw.out.c11
    go_wp2_with fail
    (with_reducible refine (tstep_to true 0 1 true 0 0 false false 1 true true true 1 1 0 0 2 0 0 true true 1 1 false 0 0 false true 0 false false (by kernel_rfl) (by unfold PosR; omega) _).mono ?_)
    rintro e w8 ⟨rfl, hb⟩
    clear cd0 cd1 cd2
    clear cw0 cw1 cw2 cw3 cw4 cw5 cw6 cw7 cw8 cw9 cw10
    replace HB := Lib.hid (below_call HB.out hb)
    replace HKd := Lib.hid (HKd.out.below hb)
    replace HKa := Lib.hid (HKa.out.below hb)
    replace HKb := Lib.hid (HKb.out.below hb)
    replace HKc := Lib.hid (HKc.out.below hb)
    replace HKs := Lib.hid (HKs.out.below hb)
    replace HKw := Lib.hid (HKw.out.below hb)
    clear hb
    replace HB := Lib.hid (below_alloc HB.out (.cells #[.bool true, .int .i64 1, .int .i64 1, .bool false, .int .i64 0, .int .i64 0, .bool false, .bool true, .int .i64 0, .bool false, .bool false] 31))
    replace HKd := Lib.hid (HKd.out.below (below_alloc (Below.refl _ w8) (.cells #[.bool true, .int .i64 1, .int .i64 1, .bool false, .int .i64 0, .int .i64 0, .bool false, .bool true, .int .i64 0, .bool false, .bool false] 31)))
    replace HKa := Lib.hid (HKa.out.below (below_alloc (Below.refl _ w8) (.cells #[.bool true, .int .i64 1, .int .i64 1, .bool false, .int .i64 0, .int .i64 0, .bool false, .bool true, .int .i64 0, .bool false, .bool false] 31)))
    replace HKb := Lib.hid (HKb.out.below (below_alloc (Below.refl _ w8) (.cells #[.bool true, .int .i64 1, .int .i64 1, .bool false, .int .i64 0, .int .i64 0, .bool false, .bool true, .int .i64 0, .bool false, .bool false] 31)))
    replace HKc := Lib.hid (HKc.out.below (below_alloc (Below.refl _ w8) (.cells #[.bool true, .int .i64 1, .int .i64 1, .bool false, .int .i64 0, .int .i64 0, .bool false, .bool true, .int .i64 0, .bool false, .bool false] 31)))
    replace HKs := Lib.hid (HKs.out.below (below_alloc (Below.refl _ w8) (.cells #[.bool true, .int .i64 1, .int .i64 1, .bool false, .int .i64 0, .int .i64 0, .bool false, .bool true, .int .i64 0, .bool false, .bool false] 31)))
    replace HKw := Lib.hid (HKw.out.below (below_alloc (Below.refl _ w8) (.cells #[.bool true, .int .i64 1, .int .i64 1, .bool false, .int .i64 0, .int .i64 0, .bool false, .bool true, .int .i64 0, .bool false, .bool false] 31)))
    have HKr := Lib.hid (blk_new w8 #[.bool true, .int .i64 1, .int .i64 1, .bool false, .int .i64 0, .int .i64 0, .bool false, .bool true, .int .i64 0, .bool false, .bool false] 31)
    obtain ⟨ca0, ca1, ca2, ca3, ca4, ca5, ca6, ca7, ca8, ca9, ca10⟩ := HKa.out.c11
    obtain ⟨cb0, cb1, cb2, cb3, cb4, cb5, cb6, cb7, cb8, cb9, cb10⟩ := HKb.out.c11
    obtain ⟨cc0, cc1, cc2, cc3, cc4, cc5, cc6, cc7, cc8, cc9, cc10⟩ := HKc.out.c11
    obtain ⟨cs0, cs1, cs2, cs3, cs4, cs5, cs6, cs7, cs8, cs9, cs10⟩ := HKs.out.c11
    obtain ⟨cw0, cw1, cw2, cw3, cw4, cw5, cw6, cw7, cw8, cw9, cw10⟩ := HKw.out.c11
    obtain ⟨cr0, cr1, cr2, cr3, cr4, cr5, cr6, cr7, cr8, cr9, cr10⟩ := HKr.out.c11
    go_wp2_with fail
    go_ret
    exact ⟨rfl, HB.out⟩
end Go.Proofs.Yteknfjnfaedebaa

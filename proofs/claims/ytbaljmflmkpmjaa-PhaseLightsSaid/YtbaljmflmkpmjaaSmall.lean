/-
  The small case of stage 20's laws: it comes out right.
-/
import Derived.Test.YtbaljmflmkpmjaaPhCalls
import Derived.Test.YtbaljmflmkpmjaaBlks
import Derived.Deep.RegionHeld3
import Derived.Deep.CutRange
import Derived.Deep.DeepCutAuto
namespace Go.Proofs.Ytbaljmflmkpmjaa
open Go.RowKit

theorem st_to (p s : Int) (cl ur a b c d ob : Bool) (ht : PhOk ⟨2, 1, 1, 0, 0, 1, 3, 0, 0, 0⟩) (p' s' : Int) (hs : phs ⟨2, 1, 1, 0, 0, 1, 3, 0, 0, 0⟩ p s ⟨cl, ur, a, b, c, d, ob⟩ = (p', s')) (w : World) : Calls Try.prog 12 #[.agg #[.int .i64 2, .int .i64 1, .int .i64 1, .int .i64 0, .int .i64 0, .int .i64 1, .int .i64 3, .int .i64 0, .int .i64 0, .int .i64 0], .agg #[.int .i64 p, .int .i64 s], .agg #[.bool cl, .bool ur], .agg #[.bool a, .bool b, .bool c, .bool d], .bool ob] w fun e w' => e = .returned (.agg #[.int .i64 p', .int .i64 s']) ∧ Below w.heap.size w w' := phstep_to ⟨2, 1, 1, 0, 0, 1, 3, 0, 0, 0⟩ p s cl ur a b c d ob ht p' s' hs w
theorem field_ex (a b c d e : Bool) (w : World) : (Instr.field 38 (.agg #[.bool a, .bool b, .bool c, .bool d, .bool e]) 4).run Try.prog w = .ok (.bool e) w := by kernel_rfl
instance (T : PhT) : Decidable (PhOk T) := inferInstanceAs (Decidable (_ ∧ _ ∧ _ ∧ _))
set_option maxHeartbeats 8000000 in
set_option maxRecDepth 10000 in
theorem small_true (w : World) : Calls Try.prog 9 #[] w fun e w' => e = .returned (.bool true) ∧ Below w.heap.size w w' := by
  have HZ := Lib.hid (enter_to 0 0 (by decide))
  have HA := Lib.hid (st_to 0 1 true false false false false false false (by decide) 1 1 (by decide))
  have HBB := Lib.hid (st_to 1 1 true false false false false false false (by decide) 1 2 (by decide))
  have HD := Lib.hid (st_to 1 2 true false false false false false false (by decide) 2 1 (by decide))
  have HE1 := Lib.hid (st_to 2 1 true false false false false false true (by decide) 3 1 (by decide))
  have HE2 := Lib.hid (st_to 3 1 true false false false false false true (by decide) 3 2 (by decide))
  have HF1 := Lib.hid (st_to 3 2 true false false false false false true (by decide) 3 3 (by decide))
  have HF2 := Lib.hid (st_to 3 3 true false false false false false true (by decide) 3 4 (by decide))
  have HF3 := Lib.hid (st_to 3 4 true false false false false false true (by decide) 4 1 (by decide))
  have HGG := Lib.hid (st_to 4 1 true false true false true false true (by decide) 5 1 (by decide))
  have HH := Lib.hid (st_to 5 1 false false false false false false false (by decide) 6 1 (by decide))
  have HI := Lib.hid (st_to 6 1 false false false true false true false (by decide) 0 1 (by decide))
  have HL1 := Lib.hid (lights_to 4 1 false true true true true (by decide) (by decide) (by decide) (by decide) (by decide))
  have HL2 := Lib.hid (lights_to 3 2 false true true true false (by decide) (by decide) (by decide) (by decide) (by decide))
  have HL3 := Lib.hid (lights_to 0 1 false false false false false (by decide) (by decide) (by decide) (by decide) (by decide))
  have HS := Lib.hid (((Blks.nil w).new #[.int .i64 2, .int .i64 1, .int .i64 1, .int .i64 0, .int .i64 0, .int .i64 1, .int .i64 3, .int .i64 0, .int .i64 0, .int .i64 0] 23).new #[.bool true, .bool false] 32)
  have HB := Lib.hid (below_alloc (below_alloc (Below.refl _ w) (.cells #[.int .i64 2, .int .i64 1, .int .i64 1, .int .i64 0, .int .i64 0, .int .i64 1, .int .i64 3, .int .i64 0, .int .i64 0, .int .i64 0] 23)) (.cells #[.bool true, .bool false] 32))
  simp only [World.size_alloc] at HS
  go_enter Try.func9, Try.ntmps9
  go_wp2_with fail
  (with_reducible refine (HZ.out _).mono ?_)
  rintro e w1 ⟨rfl, hb⟩
  replace HS := Lib.hid ((HS.out.below hb).new #[.int .i64 0, .int .i64 1] 28)
  replace HB := Lib.hid (below_alloc (below_call HB.out hb) (.cells #[.int .i64 0, .int .i64 1] 28))
  clear hb HZ
  obtain ⟨t0, t1, t2, t3, t4, t5, t6, t7, t8, t9⟩ := box10 (HS.out.at_ 2 rfl)
  obtain ⟨c0, c1⟩ := box2 (HS.out.at_ 1 rfl)
  obtain ⟨a3, b3⟩ := box2 (HS.out.at_ 0 rfl)
  go_wp2_with fail
  generalize w1.alloc (.cells #[.int .i64 0, .int .i64 1] 28) = V3 at *
  generalize w1.heap.size = g3 at *
  clear t0 t1 t2 t3 t4 t5 t6 t7 t8 t9 c0 c1 a3 b3
  (with_reducible refine (HA.out _).mono ?_)
  rintro e w2 ⟨rfl, hb⟩
  replace HS := Lib.hid ((HS.out.below hb).new #[.int .i64 1, .int .i64 1] 28)
  replace HB := Lib.hid (below_alloc (below_call HB.out hb) (.cells #[.int .i64 1, .int .i64 1] 28))
  clear hb HA
  obtain ⟨t0, t1, t2, t3, t4, t5, t6, t7, t8, t9⟩ := box10 (HS.out.at_ 3 rfl)
  obtain ⟨c0, c1⟩ := box2 (HS.out.at_ 2 rfl)
  obtain ⟨a4, b4⟩ := box2 (HS.out.at_ 0 rfl)
  go_wp2_with fail
  generalize w2.alloc (.cells #[.int .i64 1, .int .i64 1] 28) = V4 at *
  generalize w2.heap.size = g4 at *
  clear t0 t1 t2 t3 t4 t5 t6 t7 t8 t9 c0 c1 a4 b4
  (with_reducible refine (HBB.out _).mono ?_)
  rintro e w3 ⟨rfl, hb⟩
  replace HS := Lib.hid ((HS.out.below hb).new #[.int .i64 1, .int .i64 2] 28)
  replace HB := Lib.hid (below_alloc (below_call HB.out hb) (.cells #[.int .i64 1, .int .i64 2] 28))
  clear hb HBB
  obtain ⟨t0, t1, t2, t3, t4, t5, t6, t7, t8, t9⟩ := box10 (HS.out.at_ 4 rfl)
  obtain ⟨c0, c1⟩ := box2 (HS.out.at_ 3 rfl)
  obtain ⟨a5, b5⟩ := box2 (HS.out.at_ 0 rfl)
  go_wp2_with fail
  generalize w3.alloc (.cells #[.int .i64 1, .int .i64 2] 28) = V5 at *
  generalize w3.heap.size = g5 at *
  clear t0 t1 t2 t3 t4 t5 t6 t7 t8 t9 c0 c1 a5 b5
  (with_reducible refine (HD.out _).mono ?_)
  rintro e w4 ⟨rfl, hb⟩
  replace HS := Lib.hid ((HS.out.below hb).new #[.int .i64 2, .int .i64 1] 28)
  replace HB := Lib.hid (below_alloc (below_call HB.out hb) (.cells #[.int .i64 2, .int .i64 1] 28))
  clear hb HD
  go_wp2_with fail
  generalize w4.alloc (.cells #[.int .i64 2, .int .i64 1] 28) = V6 at *
  generalize w4.heap.size = g6 at *
  go_cut [7] (fun z wx => ∃ g, z = .pointer (some ⟨g, 0, none⟩) ∧ Hid (Below w.heap.size w wx) ∧ Hid (Blks wx ((g, #[.int .i64 3, .int .i64 2], 28) :: [(g6, #[.int .i64 2, .int .i64 1], 28), (g5, #[.int .i64 1, .int .i64 2], 28), (g4, #[.int .i64 1, .int .i64 1], 28), (g3, #[.int .i64 0, .int .i64 1], 28), (w.heap.size + 1, #[.bool true, .bool false], 32), (w.heap.size, #[.int .i64 2, .int .i64 1, .int .i64 1, .int .i64 0, .int .i64 0, .int .i64 1, .int .i64 3, .int .i64 0, .int .i64 0, .int .i64 0], 23)])))
  case first =>
    refine wp_region_held_drew (S := (fun w' => Blks w' [(g6, #[.int .i64 2, .int .i64 1], 28), (g5, #[.int .i64 1, .int .i64 2], 28), (g4, #[.int .i64 1, .int .i64 1], 28), (g3, #[.int .i64 0, .int .i64 1], 28), (w.heap.size + 1, #[.bool true, .bool false], 32), (w.heap.size, #[.int .i64 2, .int .i64 1, .int .i64 1, .int .i64 0, .int .i64 0, .int .i64 1, .int .i64 3, .int .i64 0, .int .i64 0, .int .i64 0], 23)])) (by kernel_rfl) (HS.out.below (bel_drew _)) (fun hHeld => ?_)
    replace HS := Lib.hid (HS.out.below (bel_drew V6))
    replace HB := Lib.hid (below_call HB.out (bel_drew V6))
    generalize V6.drew = U0 at *
    refine wpAnyH_take (i := 0) (oi := ?_) (v := ?_) ?_ (by kernel_rfl) (by kernel_rfl) (by kernel_rfl) ?_ (Or.inl ⟨?_, ?_⟩) hHeld ?_
    rotate_left 2
    · (simp only [List.getElem?_toArray, List.getElem?_cons_zero]; rfl)
    · exact (fun _ _ _ h => h)
    · rfl
    · (intro w hSw; (try dsimp only at hSw); obtain ⟨t0, t1, t2, t3, t4, t5, t6, t7, t8, t9⟩ := box10 (hSw.at_ 5 rfl); go_simp; try with_reducible rfl)
    (try simp only [Act.put, List.setIfInBounds_toArray, List.set_cons_zero, List.set_cons_succ])
    refine wpAnyH_take (i := 1) (oi := ?_) (v := ?_) ?_ (by kernel_rfl) (by kernel_rfl) (by kernel_rfl) ?_ (Or.inl ⟨?_, ?_⟩) hHeld ?_
    rotate_left 2
    · (simp only [List.getElem?_toArray, List.getElem?_cons_zero, List.getElem?_cons_succ]; rfl)
    · exact (fun _ _ _ h => h)
    · rfl
    · (intro w hSw; (try dsimp only at hSw); obtain ⟨t0, t1, t2, t3, t4, t5, t6, t7, t8, t9⟩ := box10 (hSw.at_ 5 rfl); go_simp; try with_reducible rfl)
    (try simp only [Act.put, List.setIfInBounds_toArray, List.set_cons_zero, List.set_cons_succ])
    refine wpAnyH_take (i := 2) (oi := ?_) (v := ?_) ?_ (by kernel_rfl) (by kernel_rfl) (by kernel_rfl) ?_ (Or.inl ⟨?_, ?_⟩) hHeld ?_
    rotate_left 2
    · (simp only [List.getElem?_toArray, List.getElem?_cons_zero, List.getElem?_cons_succ]; rfl)
    · exact (fun _ _ _ h => h)
    · rfl
    · (intro w hSw; (try dsimp only at hSw); obtain ⟨a, b⟩ := box2 (hSw.at_ 0 rfl); go_simp; try with_reducible rfl)
    (try simp only [Act.put, List.setIfInBounds_toArray, List.set_cons_zero, List.set_cons_succ])
    refine wpAnyH_take (i := 3) (oi := ?_) (v := ?_) ?_ (by kernel_rfl) (by kernel_rfl) (by kernel_rfl) ?_ (Or.inl ⟨?_, ?_⟩) hHeld ?_
    rotate_left 2
    · (simp only [List.getElem?_toArray, List.getElem?_cons_zero, List.getElem?_cons_succ]; rfl)
    · exact (fun _ _ _ h => h)
    · rfl
    · (intro w hSw; (try dsimp only at hSw); obtain ⟨c0, c1⟩ := box2 (hSw.at_ 4 rfl); go_simp; try with_reducible rfl)
    (try simp only [Act.put, List.setIfInBounds_toArray, List.set_cons_zero, List.set_cons_succ])
    refine wpAnyH_take (i := 4) (oi := ?_) (v := ?_) ?_ (by kernel_rfl) (by kernel_rfl) (by kernel_rfl) ?_ (Or.inl ⟨?_, ?_⟩) hHeld ?_
    rotate_left 2
    · (simp only [List.getElem?_toArray, List.getElem?_cons_zero, List.getElem?_cons_succ]; rfl)
    · exact (fun _ _ _ h => h)
    · rfl
    · (intro w hSw; (try dsimp only at hSw); go_simp; try with_reducible rfl)
    (try simp only [Act.put, List.setIfInBounds_toArray, List.set_cons_zero, List.set_cons_succ])
    refine wpAnyH_take (i := 6) (oi := ?_) (v := ?_) ?_ (by kernel_rfl) (by kernel_rfl) (by kernel_rfl) ?_ (Or.inl ⟨?_, ?_⟩) hHeld ?_
    rotate_left 2
    · (simp only [List.getElem?_toArray, List.getElem?_cons_zero, List.getElem?_cons_succ]; rfl)
    · exact (fun _ _ _ h => h)
    · rfl
    · (intro w hSw; (try dsimp only at hSw); obtain ⟨c0, c1⟩ := box2 (hSw.at_ 4 rfl); go_simp; try with_reducible rfl)
    (try simp only [Act.put, List.setIfInBounds_toArray, List.set_cons_zero, List.set_cons_succ])
    refine wpAnyH_take (i := 7) (oi := ?_) (v := ?_) ?_ (by kernel_rfl) (by kernel_rfl) (by kernel_rfl) ?_ (Or.inl ⟨?_, ?_⟩) hHeld ?_
    rotate_left 2
    · (simp only [List.getElem?_toArray, List.getElem?_cons_zero, List.getElem?_cons_succ]; rfl)
    · exact (fun _ _ _ h => h)
    · rfl
    · (intro w hSw; (try dsimp only at hSw); go_simp; try with_reducible rfl)
    (try simp only [Act.put, List.setIfInBounds_toArray, List.set_cons_zero, List.set_cons_succ])
    refine wpAnyH_ready (rs := [5, 9]) (by kernel_rfl) (by simp) ?_
    refine AllReadyH.cons (o := ?_) ?_ (fun Kx hKx => ?_) ?_
    rotate_left
    · (simp only [List.getElem?_toArray, List.getElem?_cons_zero, List.getElem?_cons_succ]; rfl)
    · -- 5 first
      go_simp
      (with_reducible refine (HE1.out _).mono ?_)
      rintro e U1 ⟨rfl, hb⟩
      replace HS := Lib.hid (HS.out.below hb)
      replace HB := Lib.hid (below_call HB.out hb)
      clear hb
      go_wp2_with fail
      refine hKx.out _ _ HS.out (fun hHeld => ?_)
      clear hKx Kx
      (try simp only [Act.put, List.setIfInBounds_toArray, List.set_cons_zero, List.set_cons_succ])
      refine wpAnyH_ready (rs := [8, 9]) (by kernel_rfl) (by simp) ?_
      refine AllReadyH.cons (o := ?_) ?_ (fun Kx hKx => ?_) ?_
      rotate_left
      · (simp only [List.getElem?_toArray, List.getElem?_cons_zero, List.getElem?_cons_succ]; rfl)
      · -- 8 first
        go_simp
        (with_reducible refine (HE2.out _).mono ?_)
        rintro e U2 ⟨rfl, hb⟩
        replace HS := Lib.hid (HS.out.below hb)
        replace HB := Lib.hid (below_call HB.out hb)
        clear hb
        go_wp2_with fail
        refine hKx.out _ _ HS.out (fun hHeld => ?_)
        clear hKx Kx
        (try simp only [Act.put, List.setIfInBounds_toArray, List.set_cons_zero, List.set_cons_succ])
        refine wpAnyH_ready (rs := [9]) (by kernel_rfl) (by simp) ?_
        refine AllReadyH.cons (o := ?_) ?_ (fun Kx hKx => ?_) AllReadyH.nil
        rotate_left
        · (simp only [List.getElem?_toArray, List.getElem?_cons_zero, List.getElem?_cons_succ]; rfl)
        go_simp
        have HF := Lib.hid HS.out.fresh
        have HQ := Lib.hid HB.out.size
        have hA := below_alloc (Below.refl _ U2) (.cells #[.int .i64 0, .int .i64 0] 28)
        replace HS := Lib.hid (HS.out.below hA)
        replace HB := Lib.hid (below_alloc HB.out (.cells #[.int .i64 0, .int .i64 0] 28))
        have HN := Lib.hid (blk_new U2 #[.int .i64 0, .int .i64 0] 28)
        clear hA
        refine hKx.out _ _ HS.out (fun hHeld => ?_)
        clear hKx Kx
        (try simp only [Act.put, List.setIfInBounds_toArray, List.set_cons_zero, List.set_cons_succ])
        generalize U2.alloc (.cells #[.int .i64 0, .int .i64 0] 28) = U3 at *
        generalize U2.heap.size = gn at *
        refine wpAnyH_ready (rs := [10]) (by kernel_rfl) (by simp) ?_
        refine AllReadyH.cons (o := ?_) ?_ (fun Kx hKx => ?_) AllReadyH.nil
        rotate_left
        · (simp only [List.getElem?_toArray, List.getElem?_cons_zero, List.getElem?_cons_succ]; rfl)
        obtain ⟨n0, n1⟩ := box2 HN.out
        have n2 := HN.out.frz 0
        have n3 := HN.out.frz 1
        go_simp
        replace HS := Lib.hid (((HS.out.far gn 0 (.int .i64 3) HF.out).far gn 1 (.int .i64 2) HF.out).add ((HN.out.set_ 0 (.int .i64 3)).set_ 1 (.int .i64 2)))
        replace HB := Lib.hid (bel_set2 HB.out HQ.out (.int .i64 3) (.int .i64 2))
        refine hKx.out _ _ (fun x hx => HS.out x (List.mem_cons_of_mem _ hx)) (fun hHeld => ?_)
        clear hKx Kx
        (try simp only [Act.put, List.setIfInBounds_toArray, List.set_cons_zero, List.set_cons_succ])
        refine wpAnyH_done (by kernel_rfl) ?_ _
        clear n0 n1 n2 n3 HN HF HQ
        go_wp2_with fail
        go_meet
        exact ⟨_, rfl, HB, HS⟩
      · refine AllReadyH.cons (o := ?_) ?_ (fun Kx hKx => ?_) AllReadyH.nil
        rotate_left
        · (simp only [List.getElem?_toArray, List.getElem?_cons_zero, List.getElem?_cons_succ]; rfl)
        go_simp
        have HF := Lib.hid HS.out.fresh
        have HQ := Lib.hid HB.out.size
        have hA := below_alloc (Below.refl _ U1) (.cells #[.int .i64 0, .int .i64 0] 28)
        replace HS := Lib.hid (HS.out.below hA)
        replace HB := Lib.hid (below_alloc HB.out (.cells #[.int .i64 0, .int .i64 0] 28))
        have HN := Lib.hid (blk_new U1 #[.int .i64 0, .int .i64 0] 28)
        clear hA
        refine hKx.out _ _ HS.out (fun hHeld => ?_)
        clear hKx Kx
        (try simp only [Act.put, List.setIfInBounds_toArray, List.set_cons_zero, List.set_cons_succ])
        generalize U1.alloc (.cells #[.int .i64 0, .int .i64 0] 28) = U2 at *
        generalize U1.heap.size = gn at *
        refine wpAnyH_ready (rs := [8]) (by kernel_rfl) (by simp) ?_
        refine AllReadyH.cons (o := ?_) ?_ (fun Kx hKx => ?_) AllReadyH.nil
        rotate_left
        · (simp only [List.getElem?_toArray, List.getElem?_cons_zero, List.getElem?_cons_succ]; rfl)
        go_simp
        (with_reducible refine (HE2.out _).mono ?_)
        rintro e U3 ⟨rfl, hb⟩
        replace HS := Lib.hid (HS.out.below hb)
        replace HB := Lib.hid (below_call HB.out hb)
        replace HN := Lib.hid (HN.out.below hb)
        clear hb
        go_wp2_with fail
        refine hKx.out _ _ HS.out (fun hHeld => ?_)
        clear hKx Kx
        (try simp only [Act.put, List.setIfInBounds_toArray, List.set_cons_zero, List.set_cons_succ])
        refine wpAnyH_ready (rs := [10]) (by kernel_rfl) (by simp) ?_
        refine AllReadyH.cons (o := ?_) ?_ (fun Kx hKx => ?_) AllReadyH.nil
        rotate_left
        · (simp only [List.getElem?_toArray, List.getElem?_cons_zero, List.getElem?_cons_succ]; rfl)
        obtain ⟨n0, n1⟩ := box2 HN.out
        have n2 := HN.out.frz 0
        have n3 := HN.out.frz 1
        go_simp
        replace HS := Lib.hid (((HS.out.far gn 0 (.int .i64 3) HF.out).far gn 1 (.int .i64 2) HF.out).add ((HN.out.set_ 0 (.int .i64 3)).set_ 1 (.int .i64 2)))
        replace HB := Lib.hid (bel_set2 HB.out HQ.out (.int .i64 3) (.int .i64 2))
        refine hKx.out _ _ (fun x hx => HS.out x (List.mem_cons_of_mem _ hx)) (fun hHeld => ?_)
        clear hKx Kx
        (try simp only [Act.put, List.setIfInBounds_toArray, List.set_cons_zero, List.set_cons_succ])
        refine wpAnyH_done (by kernel_rfl) ?_ _
        clear n0 n1 n2 n3 HN HF HQ
        go_wp2_with fail
        go_meet
        exact ⟨_, rfl, HB, HS⟩
    · refine AllReadyH.cons (o := ?_) ?_ (fun Kx hKx => ?_) AllReadyH.nil
      rotate_left
      · (simp only [List.getElem?_toArray, List.getElem?_cons_zero, List.getElem?_cons_succ]; rfl)
      go_simp
      have HF := Lib.hid HS.out.fresh
      have HQ := Lib.hid HB.out.size
      have hA := below_alloc (Below.refl _ U0) (.cells #[.int .i64 0, .int .i64 0] 28)
      replace HS := Lib.hid (HS.out.below hA)
      replace HB := Lib.hid (below_alloc HB.out (.cells #[.int .i64 0, .int .i64 0] 28))
      have HN := Lib.hid (blk_new U0 #[.int .i64 0, .int .i64 0] 28)
      clear hA
      refine hKx.out _ _ HS.out (fun hHeld => ?_)
      clear hKx Kx
      (try simp only [Act.put, List.setIfInBounds_toArray, List.set_cons_zero, List.set_cons_succ])
      generalize U0.alloc (.cells #[.int .i64 0, .int .i64 0] 28) = U1 at *
      generalize U0.heap.size = gn at *
      refine wpAnyH_ready (rs := [5]) (by kernel_rfl) (by simp) ?_
      refine AllReadyH.cons (o := ?_) ?_ (fun Kx hKx => ?_) AllReadyH.nil
      rotate_left
      · (simp only [List.getElem?_toArray, List.getElem?_cons_zero, List.getElem?_cons_succ]; rfl)
      go_simp
      (with_reducible refine (HE1.out _).mono ?_)
      rintro e U2 ⟨rfl, hb⟩
      replace HS := Lib.hid (HS.out.below hb)
      replace HB := Lib.hid (below_call HB.out hb)
      replace HN := Lib.hid (HN.out.below hb)
      clear hb
      go_wp2_with fail
      refine hKx.out _ _ HS.out (fun hHeld => ?_)
      clear hKx Kx
      (try simp only [Act.put, List.setIfInBounds_toArray, List.set_cons_zero, List.set_cons_succ])
      refine wpAnyH_ready (rs := [8]) (by kernel_rfl) (by simp) ?_
      refine AllReadyH.cons (o := ?_) ?_ (fun Kx hKx => ?_) AllReadyH.nil
      rotate_left
      · (simp only [List.getElem?_toArray, List.getElem?_cons_zero, List.getElem?_cons_succ]; rfl)
      go_simp
      (with_reducible refine (HE2.out _).mono ?_)
      rintro e U3 ⟨rfl, hb⟩
      replace HS := Lib.hid (HS.out.below hb)
      replace HB := Lib.hid (below_call HB.out hb)
      replace HN := Lib.hid (HN.out.below hb)
      clear hb
      go_wp2_with fail
      refine hKx.out _ _ HS.out (fun hHeld => ?_)
      clear hKx Kx
      (try simp only [Act.put, List.setIfInBounds_toArray, List.set_cons_zero, List.set_cons_succ])
      refine wpAnyH_ready (rs := [10]) (by kernel_rfl) (by simp) ?_
      refine AllReadyH.cons (o := ?_) ?_ (fun Kx hKx => ?_) AllReadyH.nil
      rotate_left
      · (simp only [List.getElem?_toArray, List.getElem?_cons_zero, List.getElem?_cons_succ]; rfl)
      obtain ⟨n0, n1⟩ := box2 HN.out
      have n2 := HN.out.frz 0
      have n3 := HN.out.frz 1
      go_simp
      replace HS := Lib.hid (((HS.out.far gn 0 (.int .i64 3) HF.out).far gn 1 (.int .i64 2) HF.out).add ((HN.out.set_ 0 (.int .i64 3)).set_ 1 (.int .i64 2)))
      replace HB := Lib.hid (bel_set2 HB.out HQ.out (.int .i64 3) (.int .i64 2))
      refine hKx.out _ _ (fun x hx => HS.out x (List.mem_cons_of_mem _ hx)) (fun hHeld => ?_)
      clear hKx Kx
      (try simp only [Act.put, List.setIfInBounds_toArray, List.set_cons_zero, List.set_cons_succ])
      refine wpAnyH_done (by kernel_rfl) ?_ _
      clear n0 n1 n2 n3 HN HF HQ
      go_wp2_with fail
      go_meet
      exact ⟨_, rfl, HB, HS⟩
  case rest =>
    obtain ⟨g7, rfl, HB, HS⟩ := hcut
    clear HE1 HE2
    go_wp2_with fail
    go_cut [8] (fun z wx => ∃ g, z = .pointer (some ⟨g, 0, none⟩) ∧ Hid (Below w.heap.size w wx) ∧ Hid (Blks wx ((g, #[.int .i64 4, .int .i64 1], 28) :: [(g7, #[.int .i64 3, .int .i64 2], 28), (g6, #[.int .i64 2, .int .i64 1], 28), (g5, #[.int .i64 1, .int .i64 2], 28), (g4, #[.int .i64 1, .int .i64 1], 28), (g3, #[.int .i64 0, .int .i64 1], 28), (w.heap.size + 1, #[.bool true, .bool false], 32), (w.heap.size, #[.int .i64 2, .int .i64 1, .int .i64 1, .int .i64 0, .int .i64 0, .int .i64 1, .int .i64 3, .int .i64 0, .int .i64 0, .int .i64 0], 23)])))
    case first =>
      refine wp_region_held_drew (S := (fun w' => Blks w' [(g7, #[.int .i64 3, .int .i64 2], 28), (g6, #[.int .i64 2, .int .i64 1], 28), (g5, #[.int .i64 1, .int .i64 2], 28), (g4, #[.int .i64 1, .int .i64 1], 28), (g3, #[.int .i64 0, .int .i64 1], 28), (w.heap.size + 1, #[.bool true, .bool false], 32), (w.heap.size, #[.int .i64 2, .int .i64 1, .int .i64 1, .int .i64 0, .int .i64 0, .int .i64 1, .int .i64 3, .int .i64 0, .int .i64 0, .int .i64 0], 23)])) (by kernel_rfl) (HS.out.below (bel_drew _)) (fun hHeld => ?_)
      replace HS := Lib.hid (HS.out.below (bel_drew wc))
      replace HB := Lib.hid (below_call HB.out (bel_drew wc))
      generalize wc.drew = U0 at *
      refine wpAnyH_take (i := 0) (oi := ?_) (v := ?_) ?_ (by kernel_rfl) (by kernel_rfl) (by kernel_rfl) ?_ (Or.inl ⟨?_, ?_⟩) hHeld ?_
      rotate_left 2
      · (simp only [List.getElem?_toArray, List.getElem?_cons_zero]; rfl)
      · exact (fun _ _ _ h => h)
      · rfl
      · (intro w hSw; (try dsimp only at hSw); obtain ⟨t0, t1, t2, t3, t4, t5, t6, t7, t8, t9⟩ := box10 (hSw.at_ 6 rfl); go_simp; try with_reducible rfl)
      (try simp only [Act.put, List.setIfInBounds_toArray, List.set_cons_zero, List.set_cons_succ])
      refine wpAnyH_take (i := 1) (oi := ?_) (v := ?_) ?_ (by kernel_rfl) (by kernel_rfl) (by kernel_rfl) ?_ (Or.inl ⟨?_, ?_⟩) hHeld ?_
      rotate_left 2
      · (simp only [List.getElem?_toArray, List.getElem?_cons_zero, List.getElem?_cons_succ]; rfl)
      · exact (fun _ _ _ h => h)
      · rfl
      · (intro w hSw; (try dsimp only at hSw); obtain ⟨t0, t1, t2, t3, t4, t5, t6, t7, t8, t9⟩ := box10 (hSw.at_ 6 rfl); go_simp; try with_reducible rfl)
      (try simp only [Act.put, List.setIfInBounds_toArray, List.set_cons_zero, List.set_cons_succ])
      refine wpAnyH_take (i := 2) (oi := ?_) (v := ?_) ?_ (by kernel_rfl) (by kernel_rfl) (by kernel_rfl) ?_ (Or.inl ⟨?_, ?_⟩) hHeld ?_
      rotate_left 2
      · (simp only [List.getElem?_toArray, List.getElem?_cons_zero, List.getElem?_cons_succ]; rfl)
      · exact (fun _ _ _ h => h)
      · rfl
      · (intro w hSw; (try dsimp only at hSw); obtain ⟨t0, t1, t2, t3, t4, t5, t6, t7, t8, t9⟩ := box10 (hSw.at_ 6 rfl); go_simp; try with_reducible rfl)
      (try simp only [Act.put, List.setIfInBounds_toArray, List.set_cons_zero, List.set_cons_succ])
      refine wpAnyH_take (i := 3) (oi := ?_) (v := ?_) ?_ (by kernel_rfl) (by kernel_rfl) (by kernel_rfl) ?_ (Or.inl ⟨?_, ?_⟩) hHeld ?_
      rotate_left 2
      · (simp only [List.getElem?_toArray, List.getElem?_cons_zero, List.getElem?_cons_succ]; rfl)
      · exact (fun _ _ _ h => h)
      · rfl
      · (intro w hSw; (try dsimp only at hSw); obtain ⟨a, b⟩ := box2 (hSw.at_ 0 rfl); go_simp; try with_reducible rfl)
      (try simp only [Act.put, List.setIfInBounds_toArray, List.set_cons_zero, List.set_cons_succ])
      refine wpAnyH_take (i := 4) (oi := ?_) (v := ?_) ?_ (by kernel_rfl) (by kernel_rfl) (by kernel_rfl) ?_ (Or.inl ⟨?_, ?_⟩) hHeld ?_
      rotate_left 2
      · (simp only [List.getElem?_toArray, List.getElem?_cons_zero, List.getElem?_cons_succ]; rfl)
      · exact (fun _ _ _ h => h)
      · rfl
      · (intro w hSw; (try dsimp only at hSw); obtain ⟨c0, c1⟩ := box2 (hSw.at_ 5 rfl); go_simp; try with_reducible rfl)
      (try simp only [Act.put, List.setIfInBounds_toArray, List.set_cons_zero, List.set_cons_succ])
      refine wpAnyH_take (i := 5) (oi := ?_) (v := ?_) ?_ (by kernel_rfl) (by kernel_rfl) (by kernel_rfl) ?_ (Or.inl ⟨?_, ?_⟩) hHeld ?_
      rotate_left 2
      · (simp only [List.getElem?_toArray, List.getElem?_cons_zero, List.getElem?_cons_succ]; rfl)
      · exact (fun _ _ _ h => h)
      · rfl
      · (intro w hSw; (try dsimp only at hSw); go_simp; try with_reducible rfl)
      (try simp only [Act.put, List.setIfInBounds_toArray, List.set_cons_zero, List.set_cons_succ])
      refine wpAnyH_take (i := 7) (oi := ?_) (v := ?_) ?_ (by kernel_rfl) (by kernel_rfl) (by kernel_rfl) ?_ (Or.inl ⟨?_, ?_⟩) hHeld ?_
      rotate_left 2
      · (simp only [List.getElem?_toArray, List.getElem?_cons_zero, List.getElem?_cons_succ]; rfl)
      · exact (fun _ _ _ h => h)
      · rfl
      · (intro w hSw; (try dsimp only at hSw); obtain ⟨c0, c1⟩ := box2 (hSw.at_ 5 rfl); go_simp; try with_reducible rfl)
      (try simp only [Act.put, List.setIfInBounds_toArray, List.set_cons_zero, List.set_cons_succ])
      refine wpAnyH_take (i := 8) (oi := ?_) (v := ?_) ?_ (by kernel_rfl) (by kernel_rfl) (by kernel_rfl) ?_ (Or.inl ⟨?_, ?_⟩) hHeld ?_
      rotate_left 2
      · (simp only [List.getElem?_toArray, List.getElem?_cons_zero, List.getElem?_cons_succ]; rfl)
      · exact (fun _ _ _ h => h)
      · rfl
      · (intro w hSw; (try dsimp only at hSw); go_simp; try with_reducible rfl)
      (try simp only [Act.put, List.setIfInBounds_toArray, List.set_cons_zero, List.set_cons_succ])
      refine wpAnyH_take (i := 10) (oi := ?_) (v := ?_) ?_ (by kernel_rfl) (by kernel_rfl) (by kernel_rfl) ?_ (Or.inl ⟨?_, ?_⟩) hHeld ?_
      rotate_left 2
      · (simp only [List.getElem?_toArray, List.getElem?_cons_zero, List.getElem?_cons_succ]; rfl)
      · exact (fun _ _ _ h => h)
      · rfl
      · (intro w hSw; (try dsimp only at hSw); obtain ⟨c0, c1⟩ := box2 (hSw.at_ 5 rfl); go_simp; try with_reducible rfl)
      (try simp only [Act.put, List.setIfInBounds_toArray, List.set_cons_zero, List.set_cons_succ])
      refine wpAnyH_take (i := 11) (oi := ?_) (v := ?_) ?_ (by kernel_rfl) (by kernel_rfl) (by kernel_rfl) ?_ (Or.inl ⟨?_, ?_⟩) hHeld ?_
      rotate_left 2
      · (simp only [List.getElem?_toArray, List.getElem?_cons_zero, List.getElem?_cons_succ]; rfl)
      · exact (fun _ _ _ h => h)
      · rfl
      · (intro w hSw; (try dsimp only at hSw); go_simp; try with_reducible rfl)
      (try simp only [Act.put, List.setIfInBounds_toArray, List.set_cons_zero, List.set_cons_succ])
      refine wpAnyH_ready (rs := [6, 13]) (by kernel_rfl) (by simp) ?_
      refine AllReadyH.cons (o := ?_) ?_ (fun Kx hKx => ?_) ?_
      rotate_left
      · (simp only [List.getElem?_toArray, List.getElem?_cons_zero, List.getElem?_cons_succ]; rfl)
      · -- 6 first
        go_simp
        (with_reducible refine (HF1.out _).mono ?_)
        rintro e U1 ⟨rfl, hb⟩
        replace HS := Lib.hid (HS.out.below hb)
        replace HB := Lib.hid (below_call HB.out hb)
        clear hb
        go_wp2_with fail
        refine hKx.out _ _ HS.out (fun hHeld => ?_)
        clear hKx Kx
        (try simp only [Act.put, List.setIfInBounds_toArray, List.set_cons_zero, List.set_cons_succ])
        refine wpAnyH_ready (rs := [9, 13]) (by kernel_rfl) (by simp) ?_
        refine AllReadyH.cons (o := ?_) ?_ (fun Kx hKx => ?_) ?_
        rotate_left
        · (simp only [List.getElem?_toArray, List.getElem?_cons_zero, List.getElem?_cons_succ]; rfl)
        · -- 9 first
          go_simp
          (with_reducible refine (HF2.out _).mono ?_)
          rintro e U2 ⟨rfl, hb⟩
          replace HS := Lib.hid (HS.out.below hb)
          replace HB := Lib.hid (below_call HB.out hb)
          clear hb
          go_wp2_with fail
          refine hKx.out _ _ HS.out (fun hHeld => ?_)
          clear hKx Kx
          (try simp only [Act.put, List.setIfInBounds_toArray, List.set_cons_zero, List.set_cons_succ])
          refine wpAnyH_ready (rs := [12, 13]) (by kernel_rfl) (by simp) ?_
          refine AllReadyH.cons (o := ?_) ?_ (fun Kx hKx => ?_) ?_
          rotate_left
          · (simp only [List.getElem?_toArray, List.getElem?_cons_zero, List.getElem?_cons_succ]; rfl)
          · -- 12 first
            go_simp
            (with_reducible refine (HF3.out _).mono ?_)
            rintro e U3 ⟨rfl, hb⟩
            replace HS := Lib.hid (HS.out.below hb)
            replace HB := Lib.hid (below_call HB.out hb)
            clear hb
            go_wp2_with fail
            refine hKx.out _ _ HS.out (fun hHeld => ?_)
            clear hKx Kx
            (try simp only [Act.put, List.setIfInBounds_toArray, List.set_cons_zero, List.set_cons_succ])
            refine wpAnyH_ready (rs := [13]) (by kernel_rfl) (by simp) ?_
            refine AllReadyH.cons (o := ?_) ?_ (fun Kx hKx => ?_) AllReadyH.nil
            rotate_left
            · (simp only [List.getElem?_toArray, List.getElem?_cons_zero, List.getElem?_cons_succ]; rfl)
            go_simp
            have HF := Lib.hid HS.out.fresh
            have HQ := Lib.hid HB.out.size
            have hA := below_alloc (Below.refl _ U3) (.cells #[.int .i64 0, .int .i64 0] 28)
            replace HS := Lib.hid (HS.out.below hA)
            replace HB := Lib.hid (below_alloc HB.out (.cells #[.int .i64 0, .int .i64 0] 28))
            have HN := Lib.hid (blk_new U3 #[.int .i64 0, .int .i64 0] 28)
            clear hA
            refine hKx.out _ _ HS.out (fun hHeld => ?_)
            clear hKx Kx
            (try simp only [Act.put, List.setIfInBounds_toArray, List.set_cons_zero, List.set_cons_succ])
            generalize U3.alloc (.cells #[.int .i64 0, .int .i64 0] 28) = U4 at *
            generalize U3.heap.size = gn at *
            refine wpAnyH_ready (rs := [14]) (by kernel_rfl) (by simp) ?_
            refine AllReadyH.cons (o := ?_) ?_ (fun Kx hKx => ?_) AllReadyH.nil
            rotate_left
            · (simp only [List.getElem?_toArray, List.getElem?_cons_zero, List.getElem?_cons_succ]; rfl)
            obtain ⟨n0, n1⟩ := box2 HN.out
            have n2 := HN.out.frz 0
            have n3 := HN.out.frz 1
            go_simp
            replace HS := Lib.hid (((HS.out.far gn 0 (.int .i64 4) HF.out).far gn 1 (.int .i64 1) HF.out).add ((HN.out.set_ 0 (.int .i64 4)).set_ 1 (.int .i64 1)))
            replace HB := Lib.hid (bel_set2 HB.out HQ.out (.int .i64 4) (.int .i64 1))
            refine hKx.out _ _ (fun x hx => HS.out x (List.mem_cons_of_mem _ hx)) (fun hHeld => ?_)
            clear hKx Kx
            (try simp only [Act.put, List.setIfInBounds_toArray, List.set_cons_zero, List.set_cons_succ])
            refine wpAnyH_done (by kernel_rfl) ?_ _
            clear n0 n1 n2 n3 HN HF HQ
            go_wp2_with fail
            go_meet
            exact ⟨_, rfl, HB, HS⟩
          · refine AllReadyH.cons (o := ?_) ?_ (fun Kx hKx => ?_) AllReadyH.nil
            rotate_left
            · (simp only [List.getElem?_toArray, List.getElem?_cons_zero, List.getElem?_cons_succ]; rfl)
            go_simp
            have HF := Lib.hid HS.out.fresh
            have HQ := Lib.hid HB.out.size
            have hA := below_alloc (Below.refl _ U2) (.cells #[.int .i64 0, .int .i64 0] 28)
            replace HS := Lib.hid (HS.out.below hA)
            replace HB := Lib.hid (below_alloc HB.out (.cells #[.int .i64 0, .int .i64 0] 28))
            have HN := Lib.hid (blk_new U2 #[.int .i64 0, .int .i64 0] 28)
            clear hA
            refine hKx.out _ _ HS.out (fun hHeld => ?_)
            clear hKx Kx
            (try simp only [Act.put, List.setIfInBounds_toArray, List.set_cons_zero, List.set_cons_succ])
            generalize U2.alloc (.cells #[.int .i64 0, .int .i64 0] 28) = U3 at *
            generalize U2.heap.size = gn at *
            refine wpAnyH_ready (rs := [12]) (by kernel_rfl) (by simp) ?_
            refine AllReadyH.cons (o := ?_) ?_ (fun Kx hKx => ?_) AllReadyH.nil
            rotate_left
            · (simp only [List.getElem?_toArray, List.getElem?_cons_zero, List.getElem?_cons_succ]; rfl)
            go_simp
            (with_reducible refine (HF3.out _).mono ?_)
            rintro e U4 ⟨rfl, hb⟩
            replace HS := Lib.hid (HS.out.below hb)
            replace HB := Lib.hid (below_call HB.out hb)
            replace HN := Lib.hid (HN.out.below hb)
            clear hb
            go_wp2_with fail
            refine hKx.out _ _ HS.out (fun hHeld => ?_)
            clear hKx Kx
            (try simp only [Act.put, List.setIfInBounds_toArray, List.set_cons_zero, List.set_cons_succ])
            refine wpAnyH_ready (rs := [14]) (by kernel_rfl) (by simp) ?_
            refine AllReadyH.cons (o := ?_) ?_ (fun Kx hKx => ?_) AllReadyH.nil
            rotate_left
            · (simp only [List.getElem?_toArray, List.getElem?_cons_zero, List.getElem?_cons_succ]; rfl)
            obtain ⟨n0, n1⟩ := box2 HN.out
            have n2 := HN.out.frz 0
            have n3 := HN.out.frz 1
            go_simp
            replace HS := Lib.hid (((HS.out.far gn 0 (.int .i64 4) HF.out).far gn 1 (.int .i64 1) HF.out).add ((HN.out.set_ 0 (.int .i64 4)).set_ 1 (.int .i64 1)))
            replace HB := Lib.hid (bel_set2 HB.out HQ.out (.int .i64 4) (.int .i64 1))
            refine hKx.out _ _ (fun x hx => HS.out x (List.mem_cons_of_mem _ hx)) (fun hHeld => ?_)
            clear hKx Kx
            (try simp only [Act.put, List.setIfInBounds_toArray, List.set_cons_zero, List.set_cons_succ])
            refine wpAnyH_done (by kernel_rfl) ?_ _
            clear n0 n1 n2 n3 HN HF HQ
            go_wp2_with fail
            go_meet
            exact ⟨_, rfl, HB, HS⟩
        · refine AllReadyH.cons (o := ?_) ?_ (fun Kx hKx => ?_) AllReadyH.nil
          rotate_left
          · (simp only [List.getElem?_toArray, List.getElem?_cons_zero, List.getElem?_cons_succ]; rfl)
          go_simp
          have HF := Lib.hid HS.out.fresh
          have HQ := Lib.hid HB.out.size
          have hA := below_alloc (Below.refl _ U1) (.cells #[.int .i64 0, .int .i64 0] 28)
          replace HS := Lib.hid (HS.out.below hA)
          replace HB := Lib.hid (below_alloc HB.out (.cells #[.int .i64 0, .int .i64 0] 28))
          have HN := Lib.hid (blk_new U1 #[.int .i64 0, .int .i64 0] 28)
          clear hA
          refine hKx.out _ _ HS.out (fun hHeld => ?_)
          clear hKx Kx
          (try simp only [Act.put, List.setIfInBounds_toArray, List.set_cons_zero, List.set_cons_succ])
          generalize U1.alloc (.cells #[.int .i64 0, .int .i64 0] 28) = U2 at *
          generalize U1.heap.size = gn at *
          refine wpAnyH_ready (rs := [9]) (by kernel_rfl) (by simp) ?_
          refine AllReadyH.cons (o := ?_) ?_ (fun Kx hKx => ?_) AllReadyH.nil
          rotate_left
          · (simp only [List.getElem?_toArray, List.getElem?_cons_zero, List.getElem?_cons_succ]; rfl)
          go_simp
          (with_reducible refine (HF2.out _).mono ?_)
          rintro e U3 ⟨rfl, hb⟩
          replace HS := Lib.hid (HS.out.below hb)
          replace HB := Lib.hid (below_call HB.out hb)
          replace HN := Lib.hid (HN.out.below hb)
          clear hb
          go_wp2_with fail
          refine hKx.out _ _ HS.out (fun hHeld => ?_)
          clear hKx Kx
          (try simp only [Act.put, List.setIfInBounds_toArray, List.set_cons_zero, List.set_cons_succ])
          refine wpAnyH_ready (rs := [12]) (by kernel_rfl) (by simp) ?_
          refine AllReadyH.cons (o := ?_) ?_ (fun Kx hKx => ?_) AllReadyH.nil
          rotate_left
          · (simp only [List.getElem?_toArray, List.getElem?_cons_zero, List.getElem?_cons_succ]; rfl)
          go_simp
          (with_reducible refine (HF3.out _).mono ?_)
          rintro e U4 ⟨rfl, hb⟩
          replace HS := Lib.hid (HS.out.below hb)
          replace HB := Lib.hid (below_call HB.out hb)
          replace HN := Lib.hid (HN.out.below hb)
          clear hb
          go_wp2_with fail
          refine hKx.out _ _ HS.out (fun hHeld => ?_)
          clear hKx Kx
          (try simp only [Act.put, List.setIfInBounds_toArray, List.set_cons_zero, List.set_cons_succ])
          refine wpAnyH_ready (rs := [14]) (by kernel_rfl) (by simp) ?_
          refine AllReadyH.cons (o := ?_) ?_ (fun Kx hKx => ?_) AllReadyH.nil
          rotate_left
          · (simp only [List.getElem?_toArray, List.getElem?_cons_zero, List.getElem?_cons_succ]; rfl)
          obtain ⟨n0, n1⟩ := box2 HN.out
          have n2 := HN.out.frz 0
          have n3 := HN.out.frz 1
          go_simp
          replace HS := Lib.hid (((HS.out.far gn 0 (.int .i64 4) HF.out).far gn 1 (.int .i64 1) HF.out).add ((HN.out.set_ 0 (.int .i64 4)).set_ 1 (.int .i64 1)))
          replace HB := Lib.hid (bel_set2 HB.out HQ.out (.int .i64 4) (.int .i64 1))
          refine hKx.out _ _ (fun x hx => HS.out x (List.mem_cons_of_mem _ hx)) (fun hHeld => ?_)
          clear hKx Kx
          (try simp only [Act.put, List.setIfInBounds_toArray, List.set_cons_zero, List.set_cons_succ])
          refine wpAnyH_done (by kernel_rfl) ?_ _
          clear n0 n1 n2 n3 HN HF HQ
          go_wp2_with fail
          go_meet
          exact ⟨_, rfl, HB, HS⟩
      · refine AllReadyH.cons (o := ?_) ?_ (fun Kx hKx => ?_) AllReadyH.nil
        rotate_left
        · (simp only [List.getElem?_toArray, List.getElem?_cons_zero, List.getElem?_cons_succ]; rfl)
        go_simp
        have HF := Lib.hid HS.out.fresh
        have HQ := Lib.hid HB.out.size
        have hA := below_alloc (Below.refl _ U0) (.cells #[.int .i64 0, .int .i64 0] 28)
        replace HS := Lib.hid (HS.out.below hA)
        replace HB := Lib.hid (below_alloc HB.out (.cells #[.int .i64 0, .int .i64 0] 28))
        have HN := Lib.hid (blk_new U0 #[.int .i64 0, .int .i64 0] 28)
        clear hA
        refine hKx.out _ _ HS.out (fun hHeld => ?_)
        clear hKx Kx
        (try simp only [Act.put, List.setIfInBounds_toArray, List.set_cons_zero, List.set_cons_succ])
        generalize U0.alloc (.cells #[.int .i64 0, .int .i64 0] 28) = U1 at *
        generalize U0.heap.size = gn at *
        refine wpAnyH_ready (rs := [6]) (by kernel_rfl) (by simp) ?_
        refine AllReadyH.cons (o := ?_) ?_ (fun Kx hKx => ?_) AllReadyH.nil
        rotate_left
        · (simp only [List.getElem?_toArray, List.getElem?_cons_zero, List.getElem?_cons_succ]; rfl)
        go_simp
        (with_reducible refine (HF1.out _).mono ?_)
        rintro e U2 ⟨rfl, hb⟩
        replace HS := Lib.hid (HS.out.below hb)
        replace HB := Lib.hid (below_call HB.out hb)
        replace HN := Lib.hid (HN.out.below hb)
        clear hb
        go_wp2_with fail
        refine hKx.out _ _ HS.out (fun hHeld => ?_)
        clear hKx Kx
        (try simp only [Act.put, List.setIfInBounds_toArray, List.set_cons_zero, List.set_cons_succ])
        refine wpAnyH_ready (rs := [9]) (by kernel_rfl) (by simp) ?_
        refine AllReadyH.cons (o := ?_) ?_ (fun Kx hKx => ?_) AllReadyH.nil
        rotate_left
        · (simp only [List.getElem?_toArray, List.getElem?_cons_zero, List.getElem?_cons_succ]; rfl)
        go_simp
        (with_reducible refine (HF2.out _).mono ?_)
        rintro e U3 ⟨rfl, hb⟩
        replace HS := Lib.hid (HS.out.below hb)
        replace HB := Lib.hid (below_call HB.out hb)
        replace HN := Lib.hid (HN.out.below hb)
        clear hb
        go_wp2_with fail
        refine hKx.out _ _ HS.out (fun hHeld => ?_)
        clear hKx Kx
        (try simp only [Act.put, List.setIfInBounds_toArray, List.set_cons_zero, List.set_cons_succ])
        refine wpAnyH_ready (rs := [12]) (by kernel_rfl) (by simp) ?_
        refine AllReadyH.cons (o := ?_) ?_ (fun Kx hKx => ?_) AllReadyH.nil
        rotate_left
        · (simp only [List.getElem?_toArray, List.getElem?_cons_zero, List.getElem?_cons_succ]; rfl)
        go_simp
        (with_reducible refine (HF3.out _).mono ?_)
        rintro e U4 ⟨rfl, hb⟩
        replace HS := Lib.hid (HS.out.below hb)
        replace HB := Lib.hid (below_call HB.out hb)
        replace HN := Lib.hid (HN.out.below hb)
        clear hb
        go_wp2_with fail
        refine hKx.out _ _ HS.out (fun hHeld => ?_)
        clear hKx Kx
        (try simp only [Act.put, List.setIfInBounds_toArray, List.set_cons_zero, List.set_cons_succ])
        refine wpAnyH_ready (rs := [14]) (by kernel_rfl) (by simp) ?_
        refine AllReadyH.cons (o := ?_) ?_ (fun Kx hKx => ?_) AllReadyH.nil
        rotate_left
        · (simp only [List.getElem?_toArray, List.getElem?_cons_zero, List.getElem?_cons_succ]; rfl)
        obtain ⟨n0, n1⟩ := box2 HN.out
        have n2 := HN.out.frz 0
        have n3 := HN.out.frz 1
        go_simp
        replace HS := Lib.hid (((HS.out.far gn 0 (.int .i64 4) HF.out).far gn 1 (.int .i64 1) HF.out).add ((HN.out.set_ 0 (.int .i64 4)).set_ 1 (.int .i64 1)))
        replace HB := Lib.hid (bel_set2 HB.out HQ.out (.int .i64 4) (.int .i64 1))
        refine hKx.out _ _ (fun x hx => HS.out x (List.mem_cons_of_mem _ hx)) (fun hHeld => ?_)
        clear hKx Kx
        (try simp only [Act.put, List.setIfInBounds_toArray, List.set_cons_zero, List.set_cons_succ])
        refine wpAnyH_done (by kernel_rfl) ?_ _
        clear n0 n1 n2 n3 HN HF HQ
        go_wp2_with fail
        go_meet
        exact ⟨_, rfl, HB, HS⟩
    case rest =>
      obtain ⟨g8, rfl, HB, HS⟩ := hcut
      clear HF1 HF2 HF3
      obtain ⟨t0, t1, t2, t3, t4, t5, t6, t7, t8, t9⟩ := box10 (HS.out.at_ 7 rfl)
      obtain ⟨c0, c1⟩ := box2 (HS.out.at_ 6 rfl)
      obtain ⟨a8, b8⟩ := box2 (HS.out.at_ 0 rfl)
      go_wp2_with fail
      clear t0 t1 t2 t3 t4 t5 t6 t7 t8 t9 c0 c1 a8 b8
      (with_reducible refine (HGG.out _).mono ?_)
      rintro e w9 ⟨rfl, hb⟩
      replace HS := Lib.hid ((HS.out.below hb).new #[.int .i64 5, .int .i64 1] 28)
      replace HB := Lib.hid (below_alloc (below_call HB.out hb) (.cells #[.int .i64 5, .int .i64 1] 28))
      clear hb HGG
      obtain ⟨t0, t1, t2, t3, t4, t5, t6, t7, t8, t9⟩ := box10 (HS.out.at_ 8 rfl)
      obtain ⟨a9, b9⟩ := box2 (HS.out.at_ 0 rfl)
      go_wp2_with fail
      generalize w9.alloc (.cells #[.int .i64 5, .int .i64 1] 28) = V9 at *
      generalize w9.heap.size = g9 at *
      clear t0 t1 t2 t3 t4 t5 t6 t7 t8 t9 a9 b9
      (with_reducible refine (HH.out _).mono ?_)
      rintro e w10 ⟨rfl, hb⟩
      replace HS := Lib.hid ((HS.out.below hb).new #[.int .i64 6, .int .i64 1] 28)
      replace HB := Lib.hid (below_alloc (below_call HB.out hb) (.cells #[.int .i64 6, .int .i64 1] 28))
      clear hb HH
      obtain ⟨t0, t1, t2, t3, t4, t5, t6, t7, t8, t9⟩ := box10 (HS.out.at_ 9 rfl)
      obtain ⟨a10, b10⟩ := box2 (HS.out.at_ 0 rfl)
      go_wp2_with fail
      generalize w10.alloc (.cells #[.int .i64 6, .int .i64 1] 28) = V10 at *
      generalize w10.heap.size = g10 at *
      clear t0 t1 t2 t3 t4 t5 t6 t7 t8 t9 a10 b10
      (with_reducible refine (HI.out _).mono ?_)
      rintro e w11 ⟨rfl, hb⟩
      replace HS := Lib.hid ((HS.out.below hb).new #[.int .i64 0, .int .i64 1] 28)
      replace HB := Lib.hid (below_alloc (below_call HB.out hb) (.cells #[.int .i64 0, .int .i64 1] 28))
      clear hb HI
      have E1 := eql_rd 1 1 1 1 true (by decide)
      have E2 := eql_rd 3 2 3 2 true (by decide)
      have E3 := eql_rd 0 1 0 1 true (by decide)
      have E5 := field_ex false true true true true
      have E6 := field_ex false true true true false
      have E4 := eql_lt false false false false false false false false false false true (by decide)
      obtain ⟨a3, b3⟩ := box2 (HS.out.at_ 8 rfl)
      obtain ⟨a4, b4⟩ := box2 (HS.out.at_ 7 rfl)
      obtain ⟨a5, b5⟩ := box2 (HS.out.at_ 6 rfl)
      obtain ⟨a6, b6⟩ := box2 (HS.out.at_ 5 rfl)
      obtain ⟨a7, b7⟩ := box2 (HS.out.at_ 4 rfl)
      obtain ⟨a8, b8⟩ := box2 (HS.out.at_ 3 rfl)
      obtain ⟨a9, b9⟩ := box2 (HS.out.at_ 2 rfl)
      obtain ⟨a10, b10⟩ := box2 (HS.out.at_ 1 rfl)
      obtain ⟨a11, b11⟩ := box2 (HS.out.at_ 0 rfl)
      go_wp2_with fail
      (with_reducible refine (HL1.out _).mono ?_)
      rintro e w12 ⟨rfl, hb⟩
      replace HS := Lib.hid (HS.out.below hb)
      replace HB := Lib.hid (below_call HB.out hb)
      clear hb HL1 a3 b3 a4 b4 a5 b5 a6 b6 a7 b7 a8 b8 a9 b9 a10 b10 a11 b11
      obtain ⟨a7, b7⟩ := box2 (HS.out.at_ 4 rfl)
      go_wp2_with fail
      (with_reducible refine (HL2.out _).mono ?_)
      rintro e w13 ⟨rfl, hb⟩
      replace HS := Lib.hid (HS.out.below hb)
      replace HB := Lib.hid (below_call HB.out hb)
      clear hb HL2 a7 b7
      obtain ⟨a3, b3⟩ := box2 (HS.out.at_ 8 rfl)
      go_wp2_with fail
      (with_reducible refine (HL3.out _).mono ?_)
      rintro e w14 ⟨rfl, hb⟩
      replace HB := Lib.hid (below_call HB.out hb)
      clear hb HL3 a3 b3
      go_wp2_with fail
      go_ret
      exact ⟨rfl, HB.out⟩
end Go.Proofs.Ytbaljmflmkpmjaa

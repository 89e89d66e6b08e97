/-
  The walk of crossbucklaw19.DemandMore: true, whatever it is given.
-/
import Derived.Test.YtoedecngemkblaaMoreNo
import Derived.Lib.QuietBelow
import Derived.BigQuiet
import Derived.Deep.CutRange
import Derived.Deep.DeepCutAuto
import Derived.Deep.RegionHeld3
namespace Go.Proofs.Ytoedecngemkblaa
open Go.RowKit

set_option maxHeartbeats 16000000 in
set_option maxRecDepth 10000 in
theorem more_some (a b c d s l o : Bool) (m : Int) (mn ba : Bool) (r : Int) (tv : Value) (ga oa K c0 : Nat) (ls : List Tk) (th : Bool) (ti tz : Int) (tg : Bool) (tl ts : Int) (tj tc : Bool) (tn : Int) (tf tk : Bool) (lk op : Bool) (w : World) (hv : Els RTk 11 w (.slice (some ⟨ga, oa, none⟩) K c0) ls) (hK : K = ls.length) (hk0 : 0 < K) (h : K ≤ 100) : Calls Try.prog 5 #[.agg #[.bool a, .bool b, .bool c, .bool d, .bool s, .bool l, .bool o, .int .i64 m, .bool mn, .bool ba, .int .i64 r, tv], .slice (some ⟨ga, oa, none⟩) K c0, .agg #[.bool th, .int .i64 ti, .int .i64 tz, .bool tg, .int .i64 tl, .int .i64 ts, .bool tj, .bool tc, .int .i64 tn, .bool tf, .bool tk], .bool lk, .bool op] w fun e w' => e = .returned (.bool true) ∧ Below w.heap.size w w' := by
  have HV := Lib.hid hv
  have h1 : ¬ 100 < (K : Int) := by omega
  have HM := Lib.hid (show ls.length ≤ maxLen by unfold maxLen; omega)
  have HM2 := Lib.hid (show (ls ++ ([⟨th, ti, tz, tg, tl, ts, tj, tc, tn, tf, tk⟩] : List Tk)).length ≤ maxLen by rw [List.length_append, List.length_singleton]; unfold maxLen; omega)
  have HN := Lib.hid hK
  have HK0 := Lib.hid hk0
  have HK1 := Lib.hid h
  clear hv hK hk0 h
  obtain ⟨u, hu⟩ : ∃ u, (!dgood m mn l ls) = u := ⟨_, rfl⟩
  obtain ⟨q, hq⟩ : ∃ z, dshut u r ls lk op = z := ⟨_, rfl⟩
  obtain ⟨u2, hu2⟩ : ∃ u, (!dgood m mn l (ls ++ [⟨th, ti, tz, tg, tl, ts, tj, tc, tn, tf, tk⟩])) = u := ⟨_, rfl⟩
  obtain ⟨q2, hq2⟩ : ∃ z, dshut u2 r (ls ++ [⟨th, ti, tz, tg, tl, ts, tj, tc, tn, tf, tk⟩]) lk op = z := ⟨_, rfl⟩
  have HFACT := Lib.hid (more_facts m r mn l lk op ls ⟨th, ti, tz, tg, tl, ts, tj, tc, tn, tf, tk⟩ u q u2 q2 hu hq hu2 hq2)
  obtain ⟨bx, by_, bb⟩ := more_boxes a b c d s l o m mn ba r tv th ti tz tg tl ts tj tc tn tf tk w
  have HX0 := Lib.hid bx
  have HY0 := Lib.hid by_
  have HB0 := Lib.hid bb
  have HE := Lib.hid (fun (W : World) (hW : Below w.heap.size w W) => of_to a b c d s l o m mn ba r tv _ ls W (HV.out.below (fun _ _ _ h => h.below hW)) HM.out lk op u q hu hq)
  have HE1 := Lib.hid (fun (W : World) (v : Value) (hv : Els RTk 11 W v (ls ++ [⟨th, ti, tz, tg, tl, ts, tj, tc, tn, tf, tk⟩])) => of_to a b c d s l o m mn ba r tv v _ W hv HM2.out lk op u2 q2 hu2 hq2)
  clear hu hq hu2 hq2 bx by_ bb
  go_enter Try.func5, Try.ntmps5
  go_wp2_with fail
  (with_reducible refine (small_true _).mono ?_)
  rintro e w1 ⟨rfl, hb⟩
  have HB := Lib.hid (below_call HB0.out hb)
  have HX := Lib.hid (HX0.out.below hb)
  have HY := Lib.hid (HY0.out.below hb)
  clear hb HB0 HX0 HY0
  obtain ⟨x0, x1, x2, x3, x4, x5, x6, x7, x8, x9, x10, x11⟩ := cells12 HX.out
  have H1 := Lib.hid (HE.out w1 HB.out)
  go_wp2_with fail
  (with_reducible refine (H1.out).mono ?_)
  rintro e w2 ⟨rfl, hb⟩
  replace HB := Lib.hid (below_alloc (below_call HB.out hb) (.cells #[.bool q, .bool u] 31))
  replace HX := Lib.hid ((HX.out.below hb).below (below_alloc (Below.refl _ w2) (.cells #[.bool q, .bool u] 31)))
  replace HY := Lib.hid ((HY.out.below hb).below (below_alloc (Below.refl _ w2) (.cells #[.bool q, .bool u] 31)))
  have HC := Lib.hid (blk_new w2 #[.bool q, .bool u] 31)
  clear hb H1 HE x0 x1 x2 x3 x4 x5 x6 x7 x8 x9 x10 x11
  go_upto_region 5 with fail
  generalize w2.alloc (.cells #[.bool q, .bool u] 31) = w3 at *
  go_cut [13] (fun s13 wx => ∃ g13, s13 = .pointer (some ⟨g13, 0, none⟩) ∧ Hid (Blk wx g13 #[.bool q2, .bool u2] 31) ∧ Hid (Below w3.heap.size w3 wx))
  case first =>
    have HB3 := Lib.hid (bel_drew w3)
    have HXd := Lib.hid (HX.out.below HB3.out)
    have HYd := Lib.hid (HY.out.below HB3.out)
    have HVd := Lib.hid ((HV.out.below (fun _ _ _ h => h.below HB.out)).below (fun _ _ _ h => h.below HB3.out))
    clear HX HY HB HV HC HFACT HM HM2
    refine wp_region_held_drew (S := (fun w' => Blk w' w.heap.size #[.bool a, .bool b, .bool c, .bool d, .bool s, .bool l, .bool o, .int .i64 m, .bool mn, .bool ba, .int .i64 r, tv] 26 ∧ Blk w' (w.heap.size + 1) #[.bool th, .int .i64 ti, .int .i64 tz, .bool tg, .int .i64 tl, .int .i64 ts, .bool tj, .bool tc, .int .i64 tn, .bool tf, .bool tk] 39)) (by kernel_rfl) ⟨HXd.out, HYd.out⟩ (fun hHeld => ?_)
    generalize w3.drew = V0 at *
    have HOLD := Lib.hid (show ∀ w', Below V0.heap.size V0 w' → (fun w' => Blk w' w.heap.size #[.bool a, .bool b, .bool c, .bool d, .bool s, .bool l, .bool o, .int .i64 m, .bool mn, .bool ba, .int .i64 r, tv] 26 ∧ Blk w' (w.heap.size + 1) #[.bool th, .int .i64 ti, .int .i64 tz, .bool tg, .int .i64 tl, .int .i64 ts, .bool tj, .bool tc, .int .i64 tn, .bool tf, .bool tk] 39) w' from fun _ hb => ⟨HXd.out.below hb, HYd.out.below hb⟩)
    have HVS := Lib.hid (show ∀ w', Below V0.heap.size V0 w' → Els RTk 11 w' (.slice (some ⟨ga, oa, none⟩) K c0) ls from fun _ hb => HVd.out.below (fun _ _ _ h => h.below hb))
    have HE2 := Lib.hid (show ∀ w', Below V0.heap.size V0 w' → ∀ v, Els RTk 11 w' v (ls ++ [⟨th, ti, tz, tg, tl, ts, tj, tc, tn, tf, tk⟩]) → _ from fun w' _ v hv => HE1.out w' v hv)
    have HBV := Lib.hid (Below.refl V0.heap.size V0)
    clear HE1 HVd HXd HYd
    refine wpAnyH_take (i := 0) (oi := ?_) (v := ?_) ?_ (by kernel_rfl) (by kernel_rfl) (by kernel_rfl) ?_ (Or.inl ⟨?_, ?_⟩) hHeld ?_
    rotate_left 2
    · (simp only [List.getElem?_toArray, List.getElem?_cons_zero]; rfl)
    · exact (fun _ _ _ h => h)
    · rfl
    · (intro w hSw; (try dsimp only at hSw); obtain ⟨x0, x1, x2, x3, x4, x5, x6, x7, x8, x9, x10, x11⟩ := cells12 hSw.1; go_simp; try with_reducible rfl)
    (try simp only [Act.put, List.setIfInBounds_toArray, List.set_cons_zero, List.set_cons_succ])
    refine wpAnyH_take (i := 2) (oi := ?_) (v := ?_) ?_ (by kernel_rfl) (by kernel_rfl) (by kernel_rfl) ?_ (Or.inl ⟨?_, ?_⟩) hHeld ?_
    rotate_left 2
    · (simp only [List.getElem?_toArray, List.getElem?_cons_zero, List.getElem?_cons_succ]; rfl)
    · exact (fun _ _ _ h => h)
    · rfl
    · (intro w hSw; (try dsimp only at hSw); go_simp; try with_reducible rfl)
    (try simp only [Act.put, List.setIfInBounds_toArray, List.set_cons_zero, List.set_cons_succ])
    refine wpAnyH_take (i := 4) (oi := ?_) (v := ?_) ?_ (by kernel_rfl) (by kernel_rfl) (by kernel_rfl) ?_ (Or.inl ⟨?_, ?_⟩) hHeld ?_
    rotate_left 2
    · (simp only [List.getElem?_toArray, List.getElem?_cons_zero, List.getElem?_cons_succ]; rfl)
    · exact (fun _ _ _ h => h)
    · rfl
    · (intro w hSw; (try dsimp only at hSw); obtain ⟨y0, y1, y2, y3, y4, y5, y6, y7, y8, y9, y10⟩ := cells11k hSw.2; go_simp; try with_reducible rfl)
    (try simp only [Act.put, List.setIfInBounds_toArray, List.set_cons_zero, List.set_cons_succ])
    refine wpAnyH_take (i := 7) (oi := ?_) (v := ?_) ?_ (by kernel_rfl) (by kernel_rfl) (by kernel_rfl) ?_ (Or.inl ⟨?_, ?_⟩) hHeld ?_
    rotate_left 2
    · (simp only [List.getElem?_toArray, List.getElem?_cons_zero, List.getElem?_cons_succ]; rfl)
    · exact (fun _ _ _ h => h)
    · rfl
    · (intro w hSw; (try dsimp only at hSw); go_simp; try with_reducible rfl)
    (try simp only [Act.put, List.setIfInBounds_toArray, List.set_cons_zero, List.set_cons_succ])
    refine wpAnyH_take (i := 8) (oi := ?_) (v := ?_) ?_ (by kernel_rfl) (by kernel_rfl) (by kernel_rfl) ?_ (Or.inl ⟨?_, ?_⟩) hHeld ?_
    rotate_left 2
    · (simp only [List.getElem?_toArray, List.getElem?_cons_zero, List.getElem?_cons_succ]; rfl)
    · exact (fun _ _ _ h => h)
    · rfl
    · (intro w hSw; (try dsimp only at hSw); go_simp; try with_reducible rfl)
    (try simp only [Act.put, List.setIfInBounds_toArray, List.set_cons_zero, List.set_cons_succ])
    refine wpAnyH_ready (rs := [1, 5, 10]) (by kernel_rfl) (by simp) ?_
    refine AllReadyH.cons (o := ?_) ?_ (fun Kx hKx => ?_) ?_
    rotate_left
    · (simp only [List.getElem?_toArray, List.getElem?_cons_zero, List.getElem?_cons_succ]; rfl)
    · -- 1 first
      go_simp
      have hA := below_alloc (Below.refl _ V0) (.cells #[] 39)
      have HOwn := Lib.hid (ownK_lit V0 V0.heap.size HBV.out.size)
      replace HBV := Lib.hid (below_alloc HBV.out (.cells #[] 39))
      clear hA
      refine hKx.out _ _ (HOLD.out _ HBV.out) (fun hHeld => ?_)
      clear hKx Kx
      (try simp only [Act.put, List.setIfInBounds_toArray, List.set_cons_zero, List.set_cons_succ])
      generalize V0.alloc (.cells #[] 39) = V1 at *
      refine wpAnyH_ready (rs := [3, 5, 10]) (by kernel_rfl) (by simp) ?_
      refine AllReadyH.cons (o := ?_) ?_ (fun Kx hKx => ?_) ?_
      rotate_left
      · (simp only [List.getElem?_toArray, List.getElem?_cons_zero, List.getElem?_cons_succ]; rfl)
      · -- 3 first
        refine step_appK rfl _ _ rfl V0.heap.size (.slice (some ⟨V0.heap.size, 0, none⟩) 0 0) 0 [] rfl rfl HOwn.out ga oa K c0 ls rfl HN.out.symm (HVS.out V1 HBV.out) HK0.out (by have := HK1.out; omega) HBV.out.size K (Nat.zero_add K) ?_
        intro g3 cap3 V2 hown hb hg
        have hF := Keep.grown (F := fun x => x = V0.heap.size) hg (fun g e => (Option.some.inj e).symm)
        replace HOwn := Lib.hid (show OwnK V2 V0.heap.size (.slice (some ⟨g3, 0, none⟩) K cap3) ls from hown)
        replace HBV := Lib.hid (HBV.out.trans hb)
        clear hown hb hg hF
        refine hKx.out _ _ (HOLD.out _ HBV.out) (fun hHeld => ?_)
        clear hKx Kx
        (try simp only [Act.put, List.setIfInBounds_toArray, List.set_cons_zero, List.set_cons_succ])
        refine wpAnyH_ready (rs := [5, 10]) (by kernel_rfl) (by simp) ?_
        refine AllReadyH.cons (o := ?_) ?_ (fun Kx hKx => ?_) ?_
        rotate_left
        · (simp only [List.getElem?_toArray, List.getElem?_cons_zero, List.getElem?_cons_succ]; rfl)
        · -- 5 first
          go_simp
          have hA := below_alloc (Below.refl _ V2) (.cells #[.bool th, .int .i64 ti, .int .i64 tz, .bool tg, .int .i64 tl, .int .i64 ts, .bool tj, .bool tc, .int .i64 tn, .bool tf, .bool tk] 39)
          replace HOwn := Lib.hid (HOwn.out.below hA)
          have HLine := Lib.hid (blk_new V2 #[.bool th, .int .i64 ti, .int .i64 tz, .bool tg, .int .i64 tl, .int .i64 ts, .bool tj, .bool tc, .int .i64 tn, .bool tf, .bool tk] 39)
          replace HBV := Lib.hid (below_alloc HBV.out (.cells #[.bool th, .int .i64 ti, .int .i64 tz, .bool tg, .int .i64 tl, .int .i64 ts, .bool tj, .bool tc, .int .i64 tn, .bool tf, .bool tk] 39))
          clear hA
          refine hKx.out _ _ (HOLD.out _ HBV.out) (fun hHeld => ?_)
          clear hKx Kx
          (try simp only [Act.put, List.setIfInBounds_toArray, List.set_cons_zero, List.set_cons_succ])
          generalize V2.alloc (.cells #[.bool th, .int .i64 ti, .int .i64 tz, .bool tg, .int .i64 tl, .int .i64 ts, .bool tj, .bool tc, .int .i64 tn, .bool tf, .bool tk] 39) = V3 at *
          refine wpAnyH_ready (rs := [6, 10]) (by kernel_rfl) (by simp) ?_
          refine AllReadyH.cons (o := ?_) ?_ (fun Kx hKx => ?_) ?_
          rotate_left
          · (simp only [List.getElem?_toArray, List.getElem?_cons_zero, List.getElem?_cons_succ]; rfl)
          · -- 6 first
            refine step_appK rfl _ _ rfl V0.heap.size (.slice (some ⟨g3, 0, none⟩) K cap3) K ls rfl HN.out HOwn.out (V2.heap.size) 0 1 1 [⟨th, ti, tz, tg, tl, ts, tj, tc, tn, tf, tk⟩] rfl rfl (elsK_one ⟨th, ti, tz, tg, tl, ts, tj, tc, tn, tf, tk⟩ _ HLine.out) (by decide) (by have := HK1.out; omega) HBV.out.size (K + 1) rfl ?_
            intro g6 cap6 V4 hown hb hg
            replace HOwn := Lib.hid hown
            replace HBV := Lib.hid (HBV.out.trans hb)
            clear hown hb hg HLine
            refine hKx.out _ _ (HOLD.out _ HBV.out) (fun hHeld => ?_)
            clear hKx Kx
            (try simp only [Act.put, List.setIfInBounds_toArray, List.set_cons_zero, List.set_cons_succ])
            refine wpAnyH_ready (rs := [9, 10]) (by kernel_rfl) (by simp) ?_
            refine AllReadyH.cons (o := ?_) ?_ (fun Kx hKx => ?_) ?_
            rotate_left
            · (simp only [List.getElem?_toArray, List.getElem?_cons_zero, List.getElem?_cons_succ]; rfl)
            · -- 9 first
              go_simp
              (with_reducible refine (HE2.out V4 HBV.out _ HOwn.out.els).mono ?_)
              rintro e V5 ⟨rfl, hb⟩
              replace HBV := Lib.hid (below_call HBV.out hb)
              clear hb HOwn
              go_wp2_with fail
              refine hKx.out _ _ (HOLD.out _ HBV.out) (fun hHeld => ?_)
              clear hKx Kx
              (try simp only [Act.put, List.setIfInBounds_toArray, List.set_cons_zero, List.set_cons_succ])
              refine wpAnyH_ready (rs := [10]) (by kernel_rfl) (by simp) ?_
              refine AllReadyH.cons (o := ?_) ?_ (fun Kx hKx => ?_) AllReadyH.nil
              rotate_left
              · (simp only [List.getElem?_toArray, List.getElem?_cons_zero, List.getElem?_cons_succ]; rfl)
              go_simp
              have hA := below_alloc (Below.refl _ V5) (.cells #[.bool false, .bool false] 31)
              have HZero := Lib.hid (blk_new V5 #[.bool false, .bool false] 31)
              have hZge : V0.heap.size ≤ V5.heap.size := HBV.out.size
              replace HBV := Lib.hid (below_alloc HBV.out (.cells #[.bool false, .bool false] 31))
              clear hA
              refine hKx.out _ _ (HOLD.out _ HBV.out) (fun hHeld => ?_)
              clear hKx Kx
              (try simp only [Act.put, List.setIfInBounds_toArray, List.set_cons_zero, List.set_cons_succ])
              generalize V5.alloc (.cells #[.bool false, .bool false] 31) = V6 at *
              refine wpAnyH_ready (rs := [11]) (by kernel_rfl) (by simp) ?_
              refine AllReadyH.cons (o := ?_) ?_ (fun Kx hKx => ?_) AllReadyH.nil
              rotate_left
              · (simp only [List.getElem?_toArray, List.getElem?_cons_zero, List.getElem?_cons_succ]; rfl)
              obtain ⟨z0, z1⟩ := two_cells HZero.out
              have z2 := HZero.out.frz 0
              have z3 := HZero.out.frz 1
              go_simp
              have hS := ((Keep.refl (fun x => x = V5.heap.size) V6).store (V5.heap.size) 0 (.bool q2) rfl).store (V5.heap.size) 1 (.bool u2) rfl
              have HEnd := Lib.hid (set2_ HZero.out (.bool q2) (.bool u2))
              replace HBV := Lib.hid (below_keep HBV.out hS (fun g e => by rw [e]; exact hZge))
              clear z0 z1 z2 z3 HZero hS
              refine hKx.out _ _ (HOLD.out _ HBV.out) (fun hHeld => ?_)
              clear hKx Kx
              (try simp only [Act.put, List.setIfInBounds_toArray, List.set_cons_zero, List.set_cons_succ])
              refine wpAnyH_done (by kernel_rfl) ?_ _
              go_wp2_with fail
              go_meet
              exact ⟨V5.heap.size, rfl, HEnd, Lib.hid (HB3.out.trans (HBV.out.mono HB3.out.size))⟩
            · refine AllReadyH.cons (o := ?_) ?_ (fun Kx hKx => ?_) AllReadyH.nil
              rotate_left
              · (simp only [List.getElem?_toArray, List.getElem?_cons_zero, List.getElem?_cons_succ]; rfl)
              go_simp
              have hA := below_alloc (Below.refl _ V4) (.cells #[.bool false, .bool false] 31)
              replace HOwn := Lib.hid (HOwn.out.below hA)
              have HZero := Lib.hid (blk_new V4 #[.bool false, .bool false] 31)
              have hZge : V0.heap.size ≤ V4.heap.size := HBV.out.size
              replace HBV := Lib.hid (below_alloc HBV.out (.cells #[.bool false, .bool false] 31))
              clear hA
              refine hKx.out _ _ (HOLD.out _ HBV.out) (fun hHeld => ?_)
              clear hKx Kx
              (try simp only [Act.put, List.setIfInBounds_toArray, List.set_cons_zero, List.set_cons_succ])
              generalize V4.alloc (.cells #[.bool false, .bool false] 31) = V5 at *
              refine wpAnyH_ready (rs := [9]) (by kernel_rfl) (by simp) ?_
              refine AllReadyH.cons (o := ?_) ?_ (fun Kx hKx => ?_) AllReadyH.nil
              rotate_left
              · (simp only [List.getElem?_toArray, List.getElem?_cons_zero, List.getElem?_cons_succ]; rfl)
              go_simp
              (with_reducible refine (HE2.out V5 HBV.out _ HOwn.out.els).mono ?_)
              rintro e V6 ⟨rfl, hb⟩
              replace HZero := Lib.hid (HZero.out.below hb)
              replace HBV := Lib.hid (below_call HBV.out hb)
              clear hb HOwn
              go_wp2_with fail
              refine hKx.out _ _ (HOLD.out _ HBV.out) (fun hHeld => ?_)
              clear hKx Kx
              (try simp only [Act.put, List.setIfInBounds_toArray, List.set_cons_zero, List.set_cons_succ])
              refine wpAnyH_ready (rs := [11]) (by kernel_rfl) (by simp) ?_
              refine AllReadyH.cons (o := ?_) ?_ (fun Kx hKx => ?_) AllReadyH.nil
              rotate_left
              · (simp only [List.getElem?_toArray, List.getElem?_cons_zero, List.getElem?_cons_succ]; rfl)
              obtain ⟨z0, z1⟩ := two_cells HZero.out
              have z2 := HZero.out.frz 0
              have z3 := HZero.out.frz 1
              go_simp
              have hS := ((Keep.refl (fun x => x = V4.heap.size) V6).store (V4.heap.size) 0 (.bool q2) rfl).store (V4.heap.size) 1 (.bool u2) rfl
              have HEnd := Lib.hid (set2_ HZero.out (.bool q2) (.bool u2))
              replace HBV := Lib.hid (below_keep HBV.out hS (fun g e => by rw [e]; exact hZge))
              clear z0 z1 z2 z3 HZero hS
              refine hKx.out _ _ (HOLD.out _ HBV.out) (fun hHeld => ?_)
              clear hKx Kx
              (try simp only [Act.put, List.setIfInBounds_toArray, List.set_cons_zero, List.set_cons_succ])
              refine wpAnyH_done (by kernel_rfl) ?_ _
              go_wp2_with fail
              go_meet
              exact ⟨V4.heap.size, rfl, HEnd, Lib.hid (HB3.out.trans (HBV.out.mono HB3.out.size))⟩
          · refine AllReadyH.cons (o := ?_) ?_ (fun Kx hKx => ?_) AllReadyH.nil
            rotate_left
            · (simp only [List.getElem?_toArray, List.getElem?_cons_zero, List.getElem?_cons_succ]; rfl)
            go_simp
            have hA := below_alloc (Below.refl _ V3) (.cells #[.bool false, .bool false] 31)
            replace HOwn := Lib.hid (HOwn.out.below hA)
            replace HLine := Lib.hid (HLine.out.below hA)
            have HZero := Lib.hid (blk_new V3 #[.bool false, .bool false] 31)
            have hZge : V0.heap.size ≤ V3.heap.size := HBV.out.size
            replace HBV := Lib.hid (below_alloc HBV.out (.cells #[.bool false, .bool false] 31))
            clear hA
            refine hKx.out _ _ (HOLD.out _ HBV.out) (fun hHeld => ?_)
            clear hKx Kx
            (try simp only [Act.put, List.setIfInBounds_toArray, List.set_cons_zero, List.set_cons_succ])
            generalize V3.alloc (.cells #[.bool false, .bool false] 31) = V4 at *
            refine wpAnyH_ready (rs := [6]) (by kernel_rfl) (by simp) ?_
            refine AllReadyH.cons (o := ?_) ?_ (fun Kx hKx => ?_) AllReadyH.nil
            rotate_left
            · (simp only [List.getElem?_toArray, List.getElem?_cons_zero, List.getElem?_cons_succ]; rfl)
            refine step_appK rfl _ _ rfl V0.heap.size (.slice (some ⟨g3, 0, none⟩) K cap3) K ls rfl HN.out HOwn.out (V2.heap.size) 0 1 1 [⟨th, ti, tz, tg, tl, ts, tj, tc, tn, tf, tk⟩] rfl rfl (elsK_one ⟨th, ti, tz, tg, tl, ts, tj, tc, tn, tf, tk⟩ _ HLine.out) (by decide) (by have := HK1.out; omega) HBV.out.size (K + 1) rfl ?_
            intro g6 cap6 V5 hown hb hg
            have hF := Keep.grown (F := fun x => x = g3) hg (fun g e => (Option.some.inj e).symm)
            have hne := HOwn.out.ne HZero.out (by decide)
            replace HZero := Lib.hid (HZero.out.keep hF (fun e => hne (by rw [e]; rfl)))
            clear hne hF
            replace HOwn := Lib.hid hown
            replace HBV := Lib.hid (HBV.out.trans hb)
            clear hown hb hg HLine
            refine hKx.out _ _ (HOLD.out _ HBV.out) (fun hHeld => ?_)
            clear hKx Kx
            (try simp only [Act.put, List.setIfInBounds_toArray, List.set_cons_zero, List.set_cons_succ])
            refine wpAnyH_ready (rs := [9]) (by kernel_rfl) (by simp) ?_
            refine AllReadyH.cons (o := ?_) ?_ (fun Kx hKx => ?_) AllReadyH.nil
            rotate_left
            · (simp only [List.getElem?_toArray, List.getElem?_cons_zero, List.getElem?_cons_succ]; rfl)
            go_simp
            (with_reducible refine (HE2.out V5 HBV.out _ HOwn.out.els).mono ?_)
            rintro e V6 ⟨rfl, hb⟩
            replace HZero := Lib.hid (HZero.out.below hb)
            replace HBV := Lib.hid (below_call HBV.out hb)
            clear hb HOwn
            go_wp2_with fail
            refine hKx.out _ _ (HOLD.out _ HBV.out) (fun hHeld => ?_)
            clear hKx Kx
            (try simp only [Act.put, List.setIfInBounds_toArray, List.set_cons_zero, List.set_cons_succ])
            refine wpAnyH_ready (rs := [11]) (by kernel_rfl) (by simp) ?_
            refine AllReadyH.cons (o := ?_) ?_ (fun Kx hKx => ?_) AllReadyH.nil
            rotate_left
            · (simp only [List.getElem?_toArray, List.getElem?_cons_zero, List.getElem?_cons_succ]; rfl)
            obtain ⟨z0, z1⟩ := two_cells HZero.out
            have z2 := HZero.out.frz 0
            have z3 := HZero.out.frz 1
            go_simp
            have hS := ((Keep.refl (fun x => x = V3.heap.size) V6).store (V3.heap.size) 0 (.bool q2) rfl).store (V3.heap.size) 1 (.bool u2) rfl
            have HEnd := Lib.hid (set2_ HZero.out (.bool q2) (.bool u2))
            replace HBV := Lib.hid (below_keep HBV.out hS (fun g e => by rw [e]; exact hZge))
            clear z0 z1 z2 z3 HZero hS
            refine hKx.out _ _ (HOLD.out _ HBV.out) (fun hHeld => ?_)
            clear hKx Kx
            (try simp only [Act.put, List.setIfInBounds_toArray, List.set_cons_zero, List.set_cons_succ])
            refine wpAnyH_done (by kernel_rfl) ?_ _
            go_wp2_with fail
            go_meet
            exact ⟨V3.heap.size, rfl, HEnd, Lib.hid (HB3.out.trans (HBV.out.mono HB3.out.size))⟩
        · refine AllReadyH.cons (o := ?_) ?_ (fun Kx hKx => ?_) AllReadyH.nil
          rotate_left
          · (simp only [List.getElem?_toArray, List.getElem?_cons_zero, List.getElem?_cons_succ]; rfl)
          go_simp
          have hA := below_alloc (Below.refl _ V2) (.cells #[.bool false, .bool false] 31)
          replace HOwn := Lib.hid (HOwn.out.below hA)
          have HZero := Lib.hid (blk_new V2 #[.bool false, .bool false] 31)
          have hZge : V0.heap.size ≤ V2.heap.size := HBV.out.size
          replace HBV := Lib.hid (below_alloc HBV.out (.cells #[.bool false, .bool false] 31))
          clear hA
          refine hKx.out _ _ (HOLD.out _ HBV.out) (fun hHeld => ?_)
          clear hKx Kx
          (try simp only [Act.put, List.setIfInBounds_toArray, List.set_cons_zero, List.set_cons_succ])
          generalize V2.alloc (.cells #[.bool false, .bool false] 31) = V3 at *
          refine wpAnyH_ready (rs := [5]) (by kernel_rfl) (by simp) ?_
          refine AllReadyH.cons (o := ?_) ?_ (fun Kx hKx => ?_) AllReadyH.nil
          rotate_left
          · (simp only [List.getElem?_toArray, List.getElem?_cons_zero, List.getElem?_cons_succ]; rfl)
          go_simp
          have hA := below_alloc (Below.refl _ V3) (.cells #[.bool th, .int .i64 ti, .int .i64 tz, .bool tg, .int .i64 tl, .int .i64 ts, .bool tj, .bool tc, .int .i64 tn, .bool tf, .bool tk] 39)
          replace HOwn := Lib.hid (HOwn.out.below hA)
          replace HZero := Lib.hid (HZero.out.below hA)
          have HLine := Lib.hid (blk_new V3 #[.bool th, .int .i64 ti, .int .i64 tz, .bool tg, .int .i64 tl, .int .i64 ts, .bool tj, .bool tc, .int .i64 tn, .bool tf, .bool tk] 39)
          replace HBV := Lib.hid (below_alloc HBV.out (.cells #[.bool th, .int .i64 ti, .int .i64 tz, .bool tg, .int .i64 tl, .int .i64 ts, .bool tj, .bool tc, .int .i64 tn, .bool tf, .bool tk] 39))
          clear hA
          refine hKx.out _ _ (HOLD.out _ HBV.out) (fun hHeld => ?_)
          clear hKx Kx
          (try simp only [Act.put, List.setIfInBounds_toArray, List.set_cons_zero, List.set_cons_succ])
          generalize V3.alloc (.cells #[.bool th, .int .i64 ti, .int .i64 tz, .bool tg, .int .i64 tl, .int .i64 ts, .bool tj, .bool tc, .int .i64 tn, .bool tf, .bool tk] 39) = V4 at *
          refine wpAnyH_ready (rs := [6]) (by kernel_rfl) (by simp) ?_
          refine AllReadyH.cons (o := ?_) ?_ (fun Kx hKx => ?_) AllReadyH.nil
          rotate_left
          · (simp only [List.getElem?_toArray, List.getElem?_cons_zero, List.getElem?_cons_succ]; rfl)
          refine step_appK rfl _ _ rfl V0.heap.size (.slice (some ⟨g3, 0, none⟩) K cap3) K ls rfl HN.out HOwn.out (V3.heap.size) 0 1 1 [⟨th, ti, tz, tg, tl, ts, tj, tc, tn, tf, tk⟩] rfl rfl (elsK_one ⟨th, ti, tz, tg, tl, ts, tj, tc, tn, tf, tk⟩ _ HLine.out) (by decide) (by have := HK1.out; omega) HBV.out.size (K + 1) rfl ?_
          intro g6 cap6 V5 hown hb hg
          have hF := Keep.grown (F := fun x => x = g3) hg (fun g e => (Option.some.inj e).symm)
          have hne := HOwn.out.ne HZero.out (by decide)
          replace HZero := Lib.hid (HZero.out.keep hF (fun e => hne (by rw [e]; rfl)))
          clear hne hF
          replace HOwn := Lib.hid hown
          replace HBV := Lib.hid (HBV.out.trans hb)
          clear hown hb hg HLine
          refine hKx.out _ _ (HOLD.out _ HBV.out) (fun hHeld => ?_)
          clear hKx Kx
          (try simp only [Act.put, List.setIfInBounds_toArray, List.set_cons_zero, List.set_cons_succ])
          refine wpAnyH_ready (rs := [9]) (by kernel_rfl) (by simp) ?_
          refine AllReadyH.cons (o := ?_) ?_ (fun Kx hKx => ?_) AllReadyH.nil
          rotate_left
          · (simp only [List.getElem?_toArray, List.getElem?_cons_zero, List.getElem?_cons_succ]; rfl)
          go_simp
          (with_reducible refine (HE2.out V5 HBV.out _ HOwn.out.els).mono ?_)
          rintro e V6 ⟨rfl, hb⟩
          replace HZero := Lib.hid (HZero.out.below hb)
          replace HBV := Lib.hid (below_call HBV.out hb)
          clear hb HOwn
          go_wp2_with fail
          refine hKx.out _ _ (HOLD.out _ HBV.out) (fun hHeld => ?_)
          clear hKx Kx
          (try simp only [Act.put, List.setIfInBounds_toArray, List.set_cons_zero, List.set_cons_succ])
          refine wpAnyH_ready (rs := [11]) (by kernel_rfl) (by simp) ?_
          refine AllReadyH.cons (o := ?_) ?_ (fun Kx hKx => ?_) AllReadyH.nil
          rotate_left
          · (simp only [List.getElem?_toArray, List.getElem?_cons_zero, List.getElem?_cons_succ]; rfl)
          obtain ⟨z0, z1⟩ := two_cells HZero.out
          have z2 := HZero.out.frz 0
          have z3 := HZero.out.frz 1
          go_simp
          have hS := ((Keep.refl (fun x => x = V2.heap.size) V6).store (V2.heap.size) 0 (.bool q2) rfl).store (V2.heap.size) 1 (.bool u2) rfl
          have HEnd := Lib.hid (set2_ HZero.out (.bool q2) (.bool u2))
          replace HBV := Lib.hid (below_keep HBV.out hS (fun g e => by rw [e]; exact hZge))
          clear z0 z1 z2 z3 HZero hS
          refine hKx.out _ _ (HOLD.out _ HBV.out) (fun hHeld => ?_)
          clear hKx Kx
          (try simp only [Act.put, List.setIfInBounds_toArray, List.set_cons_zero, List.set_cons_succ])
          refine wpAnyH_done (by kernel_rfl) ?_ _
          go_wp2_with fail
          go_meet
          exact ⟨V2.heap.size, rfl, HEnd, Lib.hid (HB3.out.trans (HBV.out.mono HB3.out.size))⟩
      · refine AllReadyH.cons (o := ?_) ?_ (fun Kx hKx => ?_) ?_
        rotate_left
        · (simp only [List.getElem?_toArray, List.getElem?_cons_zero, List.getElem?_cons_succ]; rfl)
        · -- 5 first
          have hOlt := HOwn.out.lt (g := V0.heap.size) rfl
          go_simp
          have hA := below_alloc (Below.refl _ V1) (.cells #[.bool th, .int .i64 ti, .int .i64 tz, .bool tg, .int .i64 tl, .int .i64 ts, .bool tj, .bool tc, .int .i64 tn, .bool tf, .bool tk] 39)
          replace HOwn := Lib.hid (HOwn.out.below hA)
          have HLine := Lib.hid (blk_new V1 #[.bool th, .int .i64 ti, .int .i64 tz, .bool tg, .int .i64 tl, .int .i64 ts, .bool tj, .bool tc, .int .i64 tn, .bool tf, .bool tk] 39)
          have hOL : V1.heap.size ≠ V0.heap.size := Nat.ne_of_gt hOlt.2
          clear hOlt
          replace HBV := Lib.hid (below_alloc HBV.out (.cells #[.bool th, .int .i64 ti, .int .i64 tz, .bool tg, .int .i64 tl, .int .i64 ts, .bool tj, .bool tc, .int .i64 tn, .bool tf, .bool tk] 39))
          clear hA
          refine hKx.out _ _ (HOLD.out _ HBV.out) (fun hHeld => ?_)
          clear hKx Kx
          (try simp only [Act.put, List.setIfInBounds_toArray, List.set_cons_zero, List.set_cons_succ])
          generalize V1.alloc (.cells #[.bool th, .int .i64 ti, .int .i64 tz, .bool tg, .int .i64 tl, .int .i64 ts, .bool tj, .bool tc, .int .i64 tn, .bool tf, .bool tk] 39) = V2 at *
          refine wpAnyH_ready (rs := [3, 10]) (by kernel_rfl) (by simp) ?_
          refine AllReadyH.cons (o := ?_) ?_ (fun Kx hKx => ?_) ?_
          rotate_left
          · (simp only [List.getElem?_toArray, List.getElem?_cons_zero, List.getElem?_cons_succ]; rfl)
          · -- 3 first
            refine step_appK rfl _ _ rfl V0.heap.size (.slice (some ⟨V0.heap.size, 0, none⟩) 0 0) 0 [] rfl rfl HOwn.out ga oa K c0 ls rfl HN.out.symm (HVS.out V2 HBV.out) HK0.out (by have := HK1.out; omega) HBV.out.size K (Nat.zero_add K) ?_
            intro g3 cap3 V3 hown hb hg
            have hF := Keep.grown (F := fun x => x = V0.heap.size) hg (fun g e => (Option.some.inj e).symm)
            replace HLine := Lib.hid (HLine.out.keep hF hOL)
            clear hOL
            replace HOwn := Lib.hid (show OwnK V3 V0.heap.size (.slice (some ⟨g3, 0, none⟩) K cap3) ls from hown)
            replace HBV := Lib.hid (HBV.out.trans hb)
            clear hown hb hg hF
            refine hKx.out _ _ (HOLD.out _ HBV.out) (fun hHeld => ?_)
            clear hKx Kx
            (try simp only [Act.put, List.setIfInBounds_toArray, List.set_cons_zero, List.set_cons_succ])
            refine wpAnyH_ready (rs := [6, 10]) (by kernel_rfl) (by simp) ?_
            refine AllReadyH.cons (o := ?_) ?_ (fun Kx hKx => ?_) ?_
            rotate_left
            · (simp only [List.getElem?_toArray, List.getElem?_cons_zero, List.getElem?_cons_succ]; rfl)
            · -- 6 first
              refine step_appK rfl _ _ rfl V0.heap.size (.slice (some ⟨g3, 0, none⟩) K cap3) K ls rfl HN.out HOwn.out (V1.heap.size) 0 1 1 [⟨th, ti, tz, tg, tl, ts, tj, tc, tn, tf, tk⟩] rfl rfl (elsK_one ⟨th, ti, tz, tg, tl, ts, tj, tc, tn, tf, tk⟩ _ HLine.out) (by decide) (by have := HK1.out; omega) HBV.out.size (K + 1) rfl ?_
              intro g6 cap6 V4 hown hb hg
              replace HOwn := Lib.hid hown
              replace HBV := Lib.hid (HBV.out.trans hb)
              clear hown hb hg HLine
              refine hKx.out _ _ (HOLD.out _ HBV.out) (fun hHeld => ?_)
              clear hKx Kx
              (try simp only [Act.put, List.setIfInBounds_toArray, List.set_cons_zero, List.set_cons_succ])
              refine wpAnyH_ready (rs := [9, 10]) (by kernel_rfl) (by simp) ?_
              refine AllReadyH.cons (o := ?_) ?_ (fun Kx hKx => ?_) ?_
              rotate_left
              · (simp only [List.getElem?_toArray, List.getElem?_cons_zero, List.getElem?_cons_succ]; rfl)
              · -- 9 first
                go_simp
                (with_reducible refine (HE2.out V4 HBV.out _ HOwn.out.els).mono ?_)
                rintro e V5 ⟨rfl, hb⟩
                replace HBV := Lib.hid (below_call HBV.out hb)
                clear hb HOwn
                go_wp2_with fail
                refine hKx.out _ _ (HOLD.out _ HBV.out) (fun hHeld => ?_)
                clear hKx Kx
                (try simp only [Act.put, List.setIfInBounds_toArray, List.set_cons_zero, List.set_cons_succ])
                refine wpAnyH_ready (rs := [10]) (by kernel_rfl) (by simp) ?_
                refine AllReadyH.cons (o := ?_) ?_ (fun Kx hKx => ?_) AllReadyH.nil
                rotate_left
                · (simp only [List.getElem?_toArray, List.getElem?_cons_zero, List.getElem?_cons_succ]; rfl)
                go_simp
                have hA := below_alloc (Below.refl _ V5) (.cells #[.bool false, .bool false] 31)
                have HZero := Lib.hid (blk_new V5 #[.bool false, .bool false] 31)
                have hZge : V0.heap.size ≤ V5.heap.size := HBV.out.size
                replace HBV := Lib.hid (below_alloc HBV.out (.cells #[.bool false, .bool false] 31))
                clear hA
                refine hKx.out _ _ (HOLD.out _ HBV.out) (fun hHeld => ?_)
                clear hKx Kx
                (try simp only [Act.put, List.setIfInBounds_toArray, List.set_cons_zero, List.set_cons_succ])
                generalize V5.alloc (.cells #[.bool false, .bool false] 31) = V6 at *
                refine wpAnyH_ready (rs := [11]) (by kernel_rfl) (by simp) ?_
                refine AllReadyH.cons (o := ?_) ?_ (fun Kx hKx => ?_) AllReadyH.nil
                rotate_left
                · (simp only [List.getElem?_toArray, List.getElem?_cons_zero, List.getElem?_cons_succ]; rfl)
                obtain ⟨z0, z1⟩ := two_cells HZero.out
                have z2 := HZero.out.frz 0
                have z3 := HZero.out.frz 1
                go_simp
                have hS := ((Keep.refl (fun x => x = V5.heap.size) V6).store (V5.heap.size) 0 (.bool q2) rfl).store (V5.heap.size) 1 (.bool u2) rfl
                have HEnd := Lib.hid (set2_ HZero.out (.bool q2) (.bool u2))
                replace HBV := Lib.hid (below_keep HBV.out hS (fun g e => by rw [e]; exact hZge))
                clear z0 z1 z2 z3 HZero hS
                refine hKx.out _ _ (HOLD.out _ HBV.out) (fun hHeld => ?_)
                clear hKx Kx
                (try simp only [Act.put, List.setIfInBounds_toArray, List.set_cons_zero, List.set_cons_succ])
                refine wpAnyH_done (by kernel_rfl) ?_ _
                go_wp2_with fail
                go_meet
                exact ⟨V5.heap.size, rfl, HEnd, Lib.hid (HB3.out.trans (HBV.out.mono HB3.out.size))⟩
              · refine AllReadyH.cons (o := ?_) ?_ (fun Kx hKx => ?_) AllReadyH.nil
                rotate_left
                · (simp only [List.getElem?_toArray, List.getElem?_cons_zero, List.getElem?_cons_succ]; rfl)
                go_simp
                have hA := below_alloc (Below.refl _ V4) (.cells #[.bool false, .bool false] 31)
                replace HOwn := Lib.hid (HOwn.out.below hA)
                have HZero := Lib.hid (blk_new V4 #[.bool false, .bool false] 31)
                have hZge : V0.heap.size ≤ V4.heap.size := HBV.out.size
                replace HBV := Lib.hid (below_alloc HBV.out (.cells #[.bool false, .bool false] 31))
                clear hA
                refine hKx.out _ _ (HOLD.out _ HBV.out) (fun hHeld => ?_)
                clear hKx Kx
                (try simp only [Act.put, List.setIfInBounds_toArray, List.set_cons_zero, List.set_cons_succ])
                generalize V4.alloc (.cells #[.bool false, .bool false] 31) = V5 at *
                refine wpAnyH_ready (rs := [9]) (by kernel_rfl) (by simp) ?_
                refine AllReadyH.cons (o := ?_) ?_ (fun Kx hKx => ?_) AllReadyH.nil
                rotate_left
                · (simp only [List.getElem?_toArray, List.getElem?_cons_zero, List.getElem?_cons_succ]; rfl)
                go_simp
                (with_reducible refine (HE2.out V5 HBV.out _ HOwn.out.els).mono ?_)
                rintro e V6 ⟨rfl, hb⟩
                replace HZero := Lib.hid (HZero.out.below hb)
                replace HBV := Lib.hid (below_call HBV.out hb)
                clear hb HOwn
                go_wp2_with fail
                refine hKx.out _ _ (HOLD.out _ HBV.out) (fun hHeld => ?_)
                clear hKx Kx
                (try simp only [Act.put, List.setIfInBounds_toArray, List.set_cons_zero, List.set_cons_succ])
                refine wpAnyH_ready (rs := [11]) (by kernel_rfl) (by simp) ?_
                refine AllReadyH.cons (o := ?_) ?_ (fun Kx hKx => ?_) AllReadyH.nil
                rotate_left
                · (simp only [List.getElem?_toArray, List.getElem?_cons_zero, List.getElem?_cons_succ]; rfl)
                obtain ⟨z0, z1⟩ := two_cells HZero.out
                have z2 := HZero.out.frz 0
                have z3 := HZero.out.frz 1
                go_simp
                have hS := ((Keep.refl (fun x => x = V4.heap.size) V6).store (V4.heap.size) 0 (.bool q2) rfl).store (V4.heap.size) 1 (.bool u2) rfl
                have HEnd := Lib.hid (set2_ HZero.out (.bool q2) (.bool u2))
                replace HBV := Lib.hid (below_keep HBV.out hS (fun g e => by rw [e]; exact hZge))
                clear z0 z1 z2 z3 HZero hS
                refine hKx.out _ _ (HOLD.out _ HBV.out) (fun hHeld => ?_)
                clear hKx Kx
                (try simp only [Act.put, List.setIfInBounds_toArray, List.set_cons_zero, List.set_cons_succ])
                refine wpAnyH_done (by kernel_rfl) ?_ _
                go_wp2_with fail
                go_meet
                exact ⟨V4.heap.size, rfl, HEnd, Lib.hid (HB3.out.trans (HBV.out.mono HB3.out.size))⟩
            · refine AllReadyH.cons (o := ?_) ?_ (fun Kx hKx => ?_) AllReadyH.nil
              rotate_left
              · (simp only [List.getElem?_toArray, List.getElem?_cons_zero, List.getElem?_cons_succ]; rfl)
              go_simp
              have hA := below_alloc (Below.refl _ V3) (.cells #[.bool false, .bool false] 31)
              replace HOwn := Lib.hid (HOwn.out.below hA)
              replace HLine := Lib.hid (HLine.out.below hA)
              have HZero := Lib.hid (blk_new V3 #[.bool false, .bool false] 31)
              have hZge : V0.heap.size ≤ V3.heap.size := HBV.out.size
              replace HBV := Lib.hid (below_alloc HBV.out (.cells #[.bool false, .bool false] 31))
              clear hA
              refine hKx.out _ _ (HOLD.out _ HBV.out) (fun hHeld => ?_)
              clear hKx Kx
              (try simp only [Act.put, List.setIfInBounds_toArray, List.set_cons_zero, List.set_cons_succ])
              generalize V3.alloc (.cells #[.bool false, .bool false] 31) = V4 at *
              refine wpAnyH_ready (rs := [6]) (by kernel_rfl) (by simp) ?_
              refine AllReadyH.cons (o := ?_) ?_ (fun Kx hKx => ?_) AllReadyH.nil
              rotate_left
              · (simp only [List.getElem?_toArray, List.getElem?_cons_zero, List.getElem?_cons_succ]; rfl)
              refine step_appK rfl _ _ rfl V0.heap.size (.slice (some ⟨g3, 0, none⟩) K cap3) K ls rfl HN.out HOwn.out (V1.heap.size) 0 1 1 [⟨th, ti, tz, tg, tl, ts, tj, tc, tn, tf, tk⟩] rfl rfl (elsK_one ⟨th, ti, tz, tg, tl, ts, tj, tc, tn, tf, tk⟩ _ HLine.out) (by decide) (by have := HK1.out; omega) HBV.out.size (K + 1) rfl ?_
              intro g6 cap6 V5 hown hb hg
              have hF := Keep.grown (F := fun x => x = g3) hg (fun g e => (Option.some.inj e).symm)
              have hne := HOwn.out.ne HZero.out (by decide)
              replace HZero := Lib.hid (HZero.out.keep hF (fun e => hne (by rw [e]; rfl)))
              clear hne hF
              replace HOwn := Lib.hid hown
              replace HBV := Lib.hid (HBV.out.trans hb)
              clear hown hb hg HLine
              refine hKx.out _ _ (HOLD.out _ HBV.out) (fun hHeld => ?_)
              clear hKx Kx
              (try simp only [Act.put, List.setIfInBounds_toArray, List.set_cons_zero, List.set_cons_succ])
              refine wpAnyH_ready (rs := [9]) (by kernel_rfl) (by simp) ?_
              refine AllReadyH.cons (o := ?_) ?_ (fun Kx hKx => ?_) AllReadyH.nil
              rotate_left
              · (simp only [List.getElem?_toArray, List.getElem?_cons_zero, List.getElem?_cons_succ]; rfl)
              go_simp
              (with_reducible refine (HE2.out V5 HBV.out _ HOwn.out.els).mono ?_)
              rintro e V6 ⟨rfl, hb⟩
              replace HZero := Lib.hid (HZero.out.below hb)
              replace HBV := Lib.hid (below_call HBV.out hb)
              clear hb HOwn
              go_wp2_with fail
              refine hKx.out _ _ (HOLD.out _ HBV.out) (fun hHeld => ?_)
              clear hKx Kx
              (try simp only [Act.put, List.setIfInBounds_toArray, List.set_cons_zero, List.set_cons_succ])
              refine wpAnyH_ready (rs := [11]) (by kernel_rfl) (by simp) ?_
              refine AllReadyH.cons (o := ?_) ?_ (fun Kx hKx => ?_) AllReadyH.nil
              rotate_left
              · (simp only [List.getElem?_toArray, List.getElem?_cons_zero, List.getElem?_cons_succ]; rfl)
              obtain ⟨z0, z1⟩ := two_cells HZero.out
              have z2 := HZero.out.frz 0
              have z3 := HZero.out.frz 1
              go_simp
              have hS := ((Keep.refl (fun x => x = V3.heap.size) V6).store (V3.heap.size) 0 (.bool q2) rfl).store (V3.heap.size) 1 (.bool u2) rfl
              have HEnd := Lib.hid (set2_ HZero.out (.bool q2) (.bool u2))
              replace HBV := Lib.hid (below_keep HBV.out hS (fun g e => by rw [e]; exact hZge))
              clear z0 z1 z2 z3 HZero hS
              refine hKx.out _ _ (HOLD.out _ HBV.out) (fun hHeld => ?_)
              clear hKx Kx
              (try simp only [Act.put, List.setIfInBounds_toArray, List.set_cons_zero, List.set_cons_succ])
              refine wpAnyH_done (by kernel_rfl) ?_ _
              go_wp2_with fail
              go_meet
              exact ⟨V3.heap.size, rfl, HEnd, Lib.hid (HB3.out.trans (HBV.out.mono HB3.out.size))⟩
          · refine AllReadyH.cons (o := ?_) ?_ (fun Kx hKx => ?_) AllReadyH.nil
            rotate_left
            · (simp only [List.getElem?_toArray, List.getElem?_cons_zero, List.getElem?_cons_succ]; rfl)
            go_simp
            have hA := below_alloc (Below.refl _ V2) (.cells #[.bool false, .bool false] 31)
            replace HOwn := Lib.hid (HOwn.out.below hA)
            replace HLine := Lib.hid (HLine.out.below hA)
            have HZero := Lib.hid (blk_new V2 #[.bool false, .bool false] 31)
            have hZge : V0.heap.size ≤ V2.heap.size := HBV.out.size
            replace HBV := Lib.hid (below_alloc HBV.out (.cells #[.bool false, .bool false] 31))
            clear hA
            refine hKx.out _ _ (HOLD.out _ HBV.out) (fun hHeld => ?_)
            clear hKx Kx
            (try simp only [Act.put, List.setIfInBounds_toArray, List.set_cons_zero, List.set_cons_succ])
            generalize V2.alloc (.cells #[.bool false, .bool false] 31) = V3 at *
            refine wpAnyH_ready (rs := [3]) (by kernel_rfl) (by simp) ?_
            refine AllReadyH.cons (o := ?_) ?_ (fun Kx hKx => ?_) AllReadyH.nil
            rotate_left
            · (simp only [List.getElem?_toArray, List.getElem?_cons_zero, List.getElem?_cons_succ]; rfl)
            refine step_appK rfl _ _ rfl V0.heap.size (.slice (some ⟨V0.heap.size, 0, none⟩) 0 0) 0 [] rfl rfl HOwn.out ga oa K c0 ls rfl HN.out.symm (HVS.out V3 HBV.out) HK0.out (by have := HK1.out; omega) HBV.out.size K (Nat.zero_add K) ?_
            intro g3 cap3 V4 hown hb hg
            have hF := Keep.grown (F := fun x => x = V0.heap.size) hg (fun g e => (Option.some.inj e).symm)
            have hne := HOwn.out.ne HZero.out (by decide)
            replace HZero := Lib.hid (HZero.out.keep hF (fun e => hne (by rw [e]; rfl)))
            clear hne
            replace HLine := Lib.hid (HLine.out.keep hF hOL)
            clear hOL
            replace HOwn := Lib.hid (show OwnK V4 V0.heap.size (.slice (some ⟨g3, 0, none⟩) K cap3) ls from hown)
            replace HBV := Lib.hid (HBV.out.trans hb)
            clear hown hb hg hF
            refine hKx.out _ _ (HOLD.out _ HBV.out) (fun hHeld => ?_)
            clear hKx Kx
            (try simp only [Act.put, List.setIfInBounds_toArray, List.set_cons_zero, List.set_cons_succ])
            refine wpAnyH_ready (rs := [6]) (by kernel_rfl) (by simp) ?_
            refine AllReadyH.cons (o := ?_) ?_ (fun Kx hKx => ?_) AllReadyH.nil
            rotate_left
            · (simp only [List.getElem?_toArray, List.getElem?_cons_zero, List.getElem?_cons_succ]; rfl)
            refine step_appK rfl _ _ rfl V0.heap.size (.slice (some ⟨g3, 0, none⟩) K cap3) K ls rfl HN.out HOwn.out (V1.heap.size) 0 1 1 [⟨th, ti, tz, tg, tl, ts, tj, tc, tn, tf, tk⟩] rfl rfl (elsK_one ⟨th, ti, tz, tg, tl, ts, tj, tc, tn, tf, tk⟩ _ HLine.out) (by decide) (by have := HK1.out; omega) HBV.out.size (K + 1) rfl ?_
            intro g6 cap6 V5 hown hb hg
            have hF := Keep.grown (F := fun x => x = g3) hg (fun g e => (Option.some.inj e).symm)
            have hne := HOwn.out.ne HZero.out (by decide)
            replace HZero := Lib.hid (HZero.out.keep hF (fun e => hne (by rw [e]; rfl)))
            clear hne hF
            replace HOwn := Lib.hid hown
            replace HBV := Lib.hid (HBV.out.trans hb)
            clear hown hb hg HLine
            refine hKx.out _ _ (HOLD.out _ HBV.out) (fun hHeld => ?_)
            clear hKx Kx
            (try simp only [Act.put, List.setIfInBounds_toArray, List.set_cons_zero, List.set_cons_succ])
            refine wpAnyH_ready (rs := [9]) (by kernel_rfl) (by simp) ?_
            refine AllReadyH.cons (o := ?_) ?_ (fun Kx hKx => ?_) AllReadyH.nil
            rotate_left
            · (simp only [List.getElem?_toArray, List.getElem?_cons_zero, List.getElem?_cons_succ]; rfl)
            go_simp
            (with_reducible refine (HE2.out V5 HBV.out _ HOwn.out.els).mono ?_)
            rintro e V6 ⟨rfl, hb⟩
            replace HZero := Lib.hid (HZero.out.below hb)
            replace HBV := Lib.hid (below_call HBV.out hb)
            clear hb HOwn
            go_wp2_with fail
            refine hKx.out _ _ (HOLD.out _ HBV.out) (fun hHeld => ?_)
            clear hKx Kx
            (try simp only [Act.put, List.setIfInBounds_toArray, List.set_cons_zero, List.set_cons_succ])
            refine wpAnyH_ready (rs := [11]) (by kernel_rfl) (by simp) ?_
            refine AllReadyH.cons (o := ?_) ?_ (fun Kx hKx => ?_) AllReadyH.nil
            rotate_left
            · (simp only [List.getElem?_toArray, List.getElem?_cons_zero, List.getElem?_cons_succ]; rfl)
            obtain ⟨z0, z1⟩ := two_cells HZero.out
            have z2 := HZero.out.frz 0
            have z3 := HZero.out.frz 1
            go_simp
            have hS := ((Keep.refl (fun x => x = V2.heap.size) V6).store (V2.heap.size) 0 (.bool q2) rfl).store (V2.heap.size) 1 (.bool u2) rfl
            have HEnd := Lib.hid (set2_ HZero.out (.bool q2) (.bool u2))
            replace HBV := Lib.hid (below_keep HBV.out hS (fun g e => by rw [e]; exact hZge))
            clear z0 z1 z2 z3 HZero hS
            refine hKx.out _ _ (HOLD.out _ HBV.out) (fun hHeld => ?_)
            clear hKx Kx
            (try simp only [Act.put, List.setIfInBounds_toArray, List.set_cons_zero, List.set_cons_succ])
            refine wpAnyH_done (by kernel_rfl) ?_ _
            go_wp2_with fail
            go_meet
            exact ⟨V2.heap.size, rfl, HEnd, Lib.hid (HB3.out.trans (HBV.out.mono HB3.out.size))⟩
        · refine AllReadyH.cons (o := ?_) ?_ (fun Kx hKx => ?_) AllReadyH.nil
          rotate_left
          · (simp only [List.getElem?_toArray, List.getElem?_cons_zero, List.getElem?_cons_succ]; rfl)
          go_simp
          have hA := below_alloc (Below.refl _ V1) (.cells #[.bool false, .bool false] 31)
          replace HOwn := Lib.hid (HOwn.out.below hA)
          have HZero := Lib.hid (blk_new V1 #[.bool false, .bool false] 31)
          have hZge : V0.heap.size ≤ V1.heap.size := HBV.out.size
          replace HBV := Lib.hid (below_alloc HBV.out (.cells #[.bool false, .bool false] 31))
          clear hA
          refine hKx.out _ _ (HOLD.out _ HBV.out) (fun hHeld => ?_)
          clear hKx Kx
          (try simp only [Act.put, List.setIfInBounds_toArray, List.set_cons_zero, List.set_cons_succ])
          generalize V1.alloc (.cells #[.bool false, .bool false] 31) = V2 at *
          refine wpAnyH_ready (rs := [3, 5]) (by kernel_rfl) (by simp) ?_
          refine AllReadyH.cons (o := ?_) ?_ (fun Kx hKx => ?_) ?_
          rotate_left
          · (simp only [List.getElem?_toArray, List.getElem?_cons_zero, List.getElem?_cons_succ]; rfl)
          · -- 3 first
            refine step_appK rfl _ _ rfl V0.heap.size (.slice (some ⟨V0.heap.size, 0, none⟩) 0 0) 0 [] rfl rfl HOwn.out ga oa K c0 ls rfl HN.out.symm (HVS.out V2 HBV.out) HK0.out (by have := HK1.out; omega) HBV.out.size K (Nat.zero_add K) ?_
            intro g3 cap3 V3 hown hb hg
            have hF := Keep.grown (F := fun x => x = V0.heap.size) hg (fun g e => (Option.some.inj e).symm)
            have hne := HOwn.out.ne HZero.out (by decide)
            replace HZero := Lib.hid (HZero.out.keep hF (fun e => hne (by rw [e]; rfl)))
            clear hne
            replace HOwn := Lib.hid (show OwnK V3 V0.heap.size (.slice (some ⟨g3, 0, none⟩) K cap3) ls from hown)
            replace HBV := Lib.hid (HBV.out.trans hb)
            clear hown hb hg hF
            refine hKx.out _ _ (HOLD.out _ HBV.out) (fun hHeld => ?_)
            clear hKx Kx
            (try simp only [Act.put, List.setIfInBounds_toArray, List.set_cons_zero, List.set_cons_succ])
            refine wpAnyH_ready (rs := [5]) (by kernel_rfl) (by simp) ?_
            refine AllReadyH.cons (o := ?_) ?_ (fun Kx hKx => ?_) AllReadyH.nil
            rotate_left
            · (simp only [List.getElem?_toArray, List.getElem?_cons_zero, List.getElem?_cons_succ]; rfl)
            go_simp
            have hA := below_alloc (Below.refl _ V3) (.cells #[.bool th, .int .i64 ti, .int .i64 tz, .bool tg, .int .i64 tl, .int .i64 ts, .bool tj, .bool tc, .int .i64 tn, .bool tf, .bool tk] 39)
            replace HOwn := Lib.hid (HOwn.out.below hA)
            replace HZero := Lib.hid (HZero.out.below hA)
            have HLine := Lib.hid (blk_new V3 #[.bool th, .int .i64 ti, .int .i64 tz, .bool tg, .int .i64 tl, .int .i64 ts, .bool tj, .bool tc, .int .i64 tn, .bool tf, .bool tk] 39)
            replace HBV := Lib.hid (below_alloc HBV.out (.cells #[.bool th, .int .i64 ti, .int .i64 tz, .bool tg, .int .i64 tl, .int .i64 ts, .bool tj, .bool tc, .int .i64 tn, .bool tf, .bool tk] 39))
            clear hA
            refine hKx.out _ _ (HOLD.out _ HBV.out) (fun hHeld => ?_)
            clear hKx Kx
            (try simp only [Act.put, List.setIfInBounds_toArray, List.set_cons_zero, List.set_cons_succ])
            generalize V3.alloc (.cells #[.bool th, .int .i64 ti, .int .i64 tz, .bool tg, .int .i64 tl, .int .i64 ts, .bool tj, .bool tc, .int .i64 tn, .bool tf, .bool tk] 39) = V4 at *
            refine wpAnyH_ready (rs := [6]) (by kernel_rfl) (by simp) ?_
            refine AllReadyH.cons (o := ?_) ?_ (fun Kx hKx => ?_) AllReadyH.nil
            rotate_left
            · (simp only [List.getElem?_toArray, List.getElem?_cons_zero, List.getElem?_cons_succ]; rfl)
            refine step_appK rfl _ _ rfl V0.heap.size (.slice (some ⟨g3, 0, none⟩) K cap3) K ls rfl HN.out HOwn.out (V3.heap.size) 0 1 1 [⟨th, ti, tz, tg, tl, ts, tj, tc, tn, tf, tk⟩] rfl rfl (elsK_one ⟨th, ti, tz, tg, tl, ts, tj, tc, tn, tf, tk⟩ _ HLine.out) (by decide) (by have := HK1.out; omega) HBV.out.size (K + 1) rfl ?_
            intro g6 cap6 V5 hown hb hg
            have hF := Keep.grown (F := fun x => x = g3) hg (fun g e => (Option.some.inj e).symm)
            have hne := HOwn.out.ne HZero.out (by decide)
            replace HZero := Lib.hid (HZero.out.keep hF (fun e => hne (by rw [e]; rfl)))
            clear hne hF
            replace HOwn := Lib.hid hown
            replace HBV := Lib.hid (HBV.out.trans hb)
            clear hown hb hg HLine
            refine hKx.out _ _ (HOLD.out _ HBV.out) (fun hHeld => ?_)
            clear hKx Kx
            (try simp only [Act.put, List.setIfInBounds_toArray, List.set_cons_zero, List.set_cons_succ])
            refine wpAnyH_ready (rs := [9]) (by kernel_rfl) (by simp) ?_
            refine AllReadyH.cons (o := ?_) ?_ (fun Kx hKx => ?_) AllReadyH.nil
            rotate_left
            · (simp only [List.getElem?_toArray, List.getElem?_cons_zero, List.getElem?_cons_succ]; rfl)
            go_simp
            (with_reducible refine (HE2.out V5 HBV.out _ HOwn.out.els).mono ?_)
            rintro e V6 ⟨rfl, hb⟩
            replace HZero := Lib.hid (HZero.out.below hb)
            replace HBV := Lib.hid (below_call HBV.out hb)
            clear hb HOwn
            go_wp2_with fail
            refine hKx.out _ _ (HOLD.out _ HBV.out) (fun hHeld => ?_)
            clear hKx Kx
            (try simp only [Act.put, List.setIfInBounds_toArray, List.set_cons_zero, List.set_cons_succ])
            refine wpAnyH_ready (rs := [11]) (by kernel_rfl) (by simp) ?_
            refine AllReadyH.cons (o := ?_) ?_ (fun Kx hKx => ?_) AllReadyH.nil
            rotate_left
            · (simp only [List.getElem?_toArray, List.getElem?_cons_zero, List.getElem?_cons_succ]; rfl)
            obtain ⟨z0, z1⟩ := two_cells HZero.out
            have z2 := HZero.out.frz 0
            have z3 := HZero.out.frz 1
            go_simp
            have hS := ((Keep.refl (fun x => x = V1.heap.size) V6).store (V1.heap.size) 0 (.bool q2) rfl).store (V1.heap.size) 1 (.bool u2) rfl
            have HEnd := Lib.hid (set2_ HZero.out (.bool q2) (.bool u2))
            replace HBV := Lib.hid (below_keep HBV.out hS (fun g e => by rw [e]; exact hZge))
            clear z0 z1 z2 z3 HZero hS
            refine hKx.out _ _ (HOLD.out _ HBV.out) (fun hHeld => ?_)
            clear hKx Kx
            (try simp only [Act.put, List.setIfInBounds_toArray, List.set_cons_zero, List.set_cons_succ])
            refine wpAnyH_done (by kernel_rfl) ?_ _
            go_wp2_with fail
            go_meet
            exact ⟨V1.heap.size, rfl, HEnd, Lib.hid (HB3.out.trans (HBV.out.mono HB3.out.size))⟩
          · refine AllReadyH.cons (o := ?_) ?_ (fun Kx hKx => ?_) AllReadyH.nil
            rotate_left
            · (simp only [List.getElem?_toArray, List.getElem?_cons_zero, List.getElem?_cons_succ]; rfl)
            have hOlt := HOwn.out.lt (g := V0.heap.size) rfl
            go_simp
            have hA := below_alloc (Below.refl _ V2) (.cells #[.bool th, .int .i64 ti, .int .i64 tz, .bool tg, .int .i64 tl, .int .i64 ts, .bool tj, .bool tc, .int .i64 tn, .bool tf, .bool tk] 39)
            replace HOwn := Lib.hid (HOwn.out.below hA)
            replace HZero := Lib.hid (HZero.out.below hA)
            have HLine := Lib.hid (blk_new V2 #[.bool th, .int .i64 ti, .int .i64 tz, .bool tg, .int .i64 tl, .int .i64 ts, .bool tj, .bool tc, .int .i64 tn, .bool tf, .bool tk] 39)
            have hOL : V2.heap.size ≠ V0.heap.size := Nat.ne_of_gt hOlt.2
            clear hOlt
            replace HBV := Lib.hid (below_alloc HBV.out (.cells #[.bool th, .int .i64 ti, .int .i64 tz, .bool tg, .int .i64 tl, .int .i64 ts, .bool tj, .bool tc, .int .i64 tn, .bool tf, .bool tk] 39))
            clear hA
            refine hKx.out _ _ (HOLD.out _ HBV.out) (fun hHeld => ?_)
            clear hKx Kx
            (try simp only [Act.put, List.setIfInBounds_toArray, List.set_cons_zero, List.set_cons_succ])
            generalize V2.alloc (.cells #[.bool th, .int .i64 ti, .int .i64 tz, .bool tg, .int .i64 tl, .int .i64 ts, .bool tj, .bool tc, .int .i64 tn, .bool tf, .bool tk] 39) = V3 at *
            refine wpAnyH_ready (rs := [3]) (by kernel_rfl) (by simp) ?_
            refine AllReadyH.cons (o := ?_) ?_ (fun Kx hKx => ?_) AllReadyH.nil
            rotate_left
            · (simp only [List.getElem?_toArray, List.getElem?_cons_zero, List.getElem?_cons_succ]; rfl)
            refine step_appK rfl _ _ rfl V0.heap.size (.slice (some ⟨V0.heap.size, 0, none⟩) 0 0) 0 [] rfl rfl HOwn.out ga oa K c0 ls rfl HN.out.symm (HVS.out V3 HBV.out) HK0.out (by have := HK1.out; omega) HBV.out.size K (Nat.zero_add K) ?_
            intro g3 cap3 V4 hown hb hg
            have hF := Keep.grown (F := fun x => x = V0.heap.size) hg (fun g e => (Option.some.inj e).symm)
            have hne := HOwn.out.ne HZero.out (by decide)
            replace HZero := Lib.hid (HZero.out.keep hF (fun e => hne (by rw [e]; rfl)))
            clear hne
            replace HLine := Lib.hid (HLine.out.keep hF hOL)
            clear hOL
            replace HOwn := Lib.hid (show OwnK V4 V0.heap.size (.slice (some ⟨g3, 0, none⟩) K cap3) ls from hown)
            replace HBV := Lib.hid (HBV.out.trans hb)
            clear hown hb hg hF
            refine hKx.out _ _ (HOLD.out _ HBV.out) (fun hHeld => ?_)
            clear hKx Kx
            (try simp only [Act.put, List.setIfInBounds_toArray, List.set_cons_zero, List.set_cons_succ])
            refine wpAnyH_ready (rs := [6]) (by kernel_rfl) (by simp) ?_
            refine AllReadyH.cons (o := ?_) ?_ (fun Kx hKx => ?_) AllReadyH.nil
            rotate_left
            · (simp only [List.getElem?_toArray, List.getElem?_cons_zero, List.getElem?_cons_succ]; rfl)
            refine step_appK rfl _ _ rfl V0.heap.size (.slice (some ⟨g3, 0, none⟩) K cap3) K ls rfl HN.out HOwn.out (V2.heap.size) 0 1 1 [⟨th, ti, tz, tg, tl, ts, tj, tc, tn, tf, tk⟩] rfl rfl (elsK_one ⟨th, ti, tz, tg, tl, ts, tj, tc, tn, tf, tk⟩ _ HLine.out) (by decide) (by have := HK1.out; omega) HBV.out.size (K + 1) rfl ?_
            intro g6 cap6 V5 hown hb hg
            have hF := Keep.grown (F := fun x => x = g3) hg (fun g e => (Option.some.inj e).symm)
            have hne := HOwn.out.ne HZero.out (by decide)
            replace HZero := Lib.hid (HZero.out.keep hF (fun e => hne (by rw [e]; rfl)))
            clear hne hF
            replace HOwn := Lib.hid hown
            replace HBV := Lib.hid (HBV.out.trans hb)
            clear hown hb hg HLine
            refine hKx.out _ _ (HOLD.out _ HBV.out) (fun hHeld => ?_)
            clear hKx Kx
            (try simp only [Act.put, List.setIfInBounds_toArray, List.set_cons_zero, List.set_cons_succ])
            refine wpAnyH_ready (rs := [9]) (by kernel_rfl) (by simp) ?_
            refine AllReadyH.cons (o := ?_) ?_ (fun Kx hKx => ?_) AllReadyH.nil
            rotate_left
            · (simp only [List.getElem?_toArray, List.getElem?_cons_zero, List.getElem?_cons_succ]; rfl)
            go_simp
            (with_reducible refine (HE2.out V5 HBV.out _ HOwn.out.els).mono ?_)
            rintro e V6 ⟨rfl, hb⟩
            replace HZero := Lib.hid (HZero.out.below hb)
            replace HBV := Lib.hid (below_call HBV.out hb)
            clear hb HOwn
            go_wp2_with fail
            refine hKx.out _ _ (HOLD.out _ HBV.out) (fun hHeld => ?_)
            clear hKx Kx
            (try simp only [Act.put, List.setIfInBounds_toArray, List.set_cons_zero, List.set_cons_succ])
            refine wpAnyH_ready (rs := [11]) (by kernel_rfl) (by simp) ?_
            refine AllReadyH.cons (o := ?_) ?_ (fun Kx hKx => ?_) AllReadyH.nil
            rotate_left
            · (simp only [List.getElem?_toArray, List.getElem?_cons_zero, List.getElem?_cons_succ]; rfl)
            obtain ⟨z0, z1⟩ := two_cells HZero.out
            have z2 := HZero.out.frz 0
            have z3 := HZero.out.frz 1
            go_simp
            have hS := ((Keep.refl (fun x => x = V1.heap.size) V6).store (V1.heap.size) 0 (.bool q2) rfl).store (V1.heap.size) 1 (.bool u2) rfl
            have HEnd := Lib.hid (set2_ HZero.out (.bool q2) (.bool u2))
            replace HBV := Lib.hid (below_keep HBV.out hS (fun g e => by rw [e]; exact hZge))
            clear z0 z1 z2 z3 HZero hS
            refine hKx.out _ _ (HOLD.out _ HBV.out) (fun hHeld => ?_)
            clear hKx Kx
            (try simp only [Act.put, List.setIfInBounds_toArray, List.set_cons_zero, List.set_cons_succ])
            refine wpAnyH_done (by kernel_rfl) ?_ _
            go_wp2_with fail
            go_meet
            exact ⟨V1.heap.size, rfl, HEnd, Lib.hid (HB3.out.trans (HBV.out.mono HB3.out.size))⟩
    · refine AllReadyH.cons (o := ?_) ?_ (fun Kx hKx => ?_) ?_
      rotate_left
      · (simp only [List.getElem?_toArray, List.getElem?_cons_zero, List.getElem?_cons_succ]; rfl)
      · -- 5 first
        go_simp
        have hA := below_alloc (Below.refl _ V0) (.cells #[.bool th, .int .i64 ti, .int .i64 tz, .bool tg, .int .i64 tl, .int .i64 ts, .bool tj, .bool tc, .int .i64 tn, .bool tf, .bool tk] 39)
        have HLine := Lib.hid (blk_new V0 #[.bool th, .int .i64 ti, .int .i64 tz, .bool tg, .int .i64 tl, .int .i64 ts, .bool tj, .bool tc, .int .i64 tn, .bool tf, .bool tk] 39)
        replace HBV := Lib.hid (below_alloc HBV.out (.cells #[.bool th, .int .i64 ti, .int .i64 tz, .bool tg, .int .i64 tl, .int .i64 ts, .bool tj, .bool tc, .int .i64 tn, .bool tf, .bool tk] 39))
        clear hA
        refine hKx.out _ _ (HOLD.out _ HBV.out) (fun hHeld => ?_)
        clear hKx Kx
        (try simp only [Act.put, List.setIfInBounds_toArray, List.set_cons_zero, List.set_cons_succ])
        generalize V0.alloc (.cells #[.bool th, .int .i64 ti, .int .i64 tz, .bool tg, .int .i64 tl, .int .i64 ts, .bool tj, .bool tc, .int .i64 tn, .bool tf, .bool tk] 39) = V1 at *
        refine wpAnyH_ready (rs := [1, 10]) (by kernel_rfl) (by simp) ?_
        refine AllReadyH.cons (o := ?_) ?_ (fun Kx hKx => ?_) ?_
        rotate_left
        · (simp only [List.getElem?_toArray, List.getElem?_cons_zero, List.getElem?_cons_succ]; rfl)
        · -- 1 first
          have hLlt := HLine.out.lt
          go_simp
          have hA := below_alloc (Below.refl _ V1) (.cells #[] 39)
          replace HLine := Lib.hid (HLine.out.below hA)
          have HOwn := Lib.hid (ownK_lit V1 V0.heap.size HBV.out.size)
          have hOL : V0.heap.size ≠ V1.heap.size := Nat.ne_of_lt hLlt
          clear hLlt
          replace HBV := Lib.hid (below_alloc HBV.out (.cells #[] 39))
          clear hA
          refine hKx.out _ _ (HOLD.out _ HBV.out) (fun hHeld => ?_)
          clear hKx Kx
          (try simp only [Act.put, List.setIfInBounds_toArray, List.set_cons_zero, List.set_cons_succ])
          generalize V1.alloc (.cells #[] 39) = V2 at *
          refine wpAnyH_ready (rs := [3, 10]) (by kernel_rfl) (by simp) ?_
          refine AllReadyH.cons (o := ?_) ?_ (fun Kx hKx => ?_) ?_
          rotate_left
          · (simp only [List.getElem?_toArray, List.getElem?_cons_zero, List.getElem?_cons_succ]; rfl)
          · -- 3 first
            refine step_appK rfl _ _ rfl V0.heap.size (.slice (some ⟨V1.heap.size, 0, none⟩) 0 0) 0 [] rfl rfl HOwn.out ga oa K c0 ls rfl HN.out.symm (HVS.out V2 HBV.out) HK0.out (by have := HK1.out; omega) HBV.out.size K (Nat.zero_add K) ?_
            intro g3 cap3 V3 hown hb hg
            have hF := Keep.grown (F := fun x => x = V1.heap.size) hg (fun g e => (Option.some.inj e).symm)
            replace HLine := Lib.hid (HLine.out.keep hF hOL)
            clear hOL
            replace HOwn := Lib.hid (show OwnK V3 V0.heap.size (.slice (some ⟨g3, 0, none⟩) K cap3) ls from hown)
            replace HBV := Lib.hid (HBV.out.trans hb)
            clear hown hb hg hF
            refine hKx.out _ _ (HOLD.out _ HBV.out) (fun hHeld => ?_)
            clear hKx Kx
            (try simp only [Act.put, List.setIfInBounds_toArray, List.set_cons_zero, List.set_cons_succ])
            refine wpAnyH_ready (rs := [6, 10]) (by kernel_rfl) (by simp) ?_
            refine AllReadyH.cons (o := ?_) ?_ (fun Kx hKx => ?_) ?_
            rotate_left
            · (simp only [List.getElem?_toArray, List.getElem?_cons_zero, List.getElem?_cons_succ]; rfl)
            · -- 6 first
              refine step_appK rfl _ _ rfl V0.heap.size (.slice (some ⟨g3, 0, none⟩) K cap3) K ls rfl HN.out HOwn.out (V0.heap.size) 0 1 1 [⟨th, ti, tz, tg, tl, ts, tj, tc, tn, tf, tk⟩] rfl rfl (elsK_one ⟨th, ti, tz, tg, tl, ts, tj, tc, tn, tf, tk⟩ _ HLine.out) (by decide) (by have := HK1.out; omega) HBV.out.size (K + 1) rfl ?_
              intro g6 cap6 V4 hown hb hg
              replace HOwn := Lib.hid hown
              replace HBV := Lib.hid (HBV.out.trans hb)
              clear hown hb hg HLine
              refine hKx.out _ _ (HOLD.out _ HBV.out) (fun hHeld => ?_)
              clear hKx Kx
              (try simp only [Act.put, List.setIfInBounds_toArray, List.set_cons_zero, List.set_cons_succ])
              refine wpAnyH_ready (rs := [9, 10]) (by kernel_rfl) (by simp) ?_
              refine AllReadyH.cons (o := ?_) ?_ (fun Kx hKx => ?_) ?_
              rotate_left
              · (simp only [List.getElem?_toArray, List.getElem?_cons_zero, List.getElem?_cons_succ]; rfl)
              · -- 9 first
                go_simp
                (with_reducible refine (HE2.out V4 HBV.out _ HOwn.out.els).mono ?_)
                rintro e V5 ⟨rfl, hb⟩
                replace HBV := Lib.hid (below_call HBV.out hb)
                clear hb HOwn
                go_wp2_with fail
                refine hKx.out _ _ (HOLD.out _ HBV.out) (fun hHeld => ?_)
                clear hKx Kx
                (try simp only [Act.put, List.setIfInBounds_toArray, List.set_cons_zero, List.set_cons_succ])
                refine wpAnyH_ready (rs := [10]) (by kernel_rfl) (by simp) ?_
                refine AllReadyH.cons (o := ?_) ?_ (fun Kx hKx => ?_) AllReadyH.nil
                rotate_left
                · (simp only [List.getElem?_toArray, List.getElem?_cons_zero, List.getElem?_cons_succ]; rfl)
                go_simp
                have hA := below_alloc (Below.refl _ V5) (.cells #[.bool false, .bool false] 31)
                have HZero := Lib.hid (blk_new V5 #[.bool false, .bool false] 31)
                have hZge : V0.heap.size ≤ V5.heap.size := HBV.out.size
                replace HBV := Lib.hid (below_alloc HBV.out (.cells #[.bool false, .bool false] 31))
                clear hA
                refine hKx.out _ _ (HOLD.out _ HBV.out) (fun hHeld => ?_)
                clear hKx Kx
                (try simp only [Act.put, List.setIfInBounds_toArray, List.set_cons_zero, List.set_cons_succ])
                generalize V5.alloc (.cells #[.bool false, .bool false] 31) = V6 at *
                refine wpAnyH_ready (rs := [11]) (by kernel_rfl) (by simp) ?_
                refine AllReadyH.cons (o := ?_) ?_ (fun Kx hKx => ?_) AllReadyH.nil
                rotate_left
                · (simp only [List.getElem?_toArray, List.getElem?_cons_zero, List.getElem?_cons_succ]; rfl)
                obtain ⟨z0, z1⟩ := two_cells HZero.out
                have z2 := HZero.out.frz 0
                have z3 := HZero.out.frz 1
                go_simp
                have hS := ((Keep.refl (fun x => x = V5.heap.size) V6).store (V5.heap.size) 0 (.bool q2) rfl).store (V5.heap.size) 1 (.bool u2) rfl
                have HEnd := Lib.hid (set2_ HZero.out (.bool q2) (.bool u2))
                replace HBV := Lib.hid (below_keep HBV.out hS (fun g e => by rw [e]; exact hZge))
                clear z0 z1 z2 z3 HZero hS
                refine hKx.out _ _ (HOLD.out _ HBV.out) (fun hHeld => ?_)
                clear hKx Kx
                (try simp only [Act.put, List.setIfInBounds_toArray, List.set_cons_zero, List.set_cons_succ])
                refine wpAnyH_done (by kernel_rfl) ?_ _
                go_wp2_with fail
                go_meet
                exact ⟨V5.heap.size, rfl, HEnd, Lib.hid (HB3.out.trans (HBV.out.mono HB3.out.size))⟩
              · refine AllReadyH.cons (o := ?_) ?_ (fun Kx hKx => ?_) AllReadyH.nil
                rotate_left
                · (simp only [List.getElem?_toArray, List.getElem?_cons_zero, List.getElem?_cons_succ]; rfl)
                go_simp
                have hA := below_alloc (Below.refl _ V4) (.cells #[.bool false, .bool false] 31)
                replace HOwn := Lib.hid (HOwn.out.below hA)
                have HZero := Lib.hid (blk_new V4 #[.bool false, .bool false] 31)
                have hZge : V0.heap.size ≤ V4.heap.size := HBV.out.size
                replace HBV := Lib.hid (below_alloc HBV.out (.cells #[.bool false, .bool false] 31))
                clear hA
                refine hKx.out _ _ (HOLD.out _ HBV.out) (fun hHeld => ?_)
                clear hKx Kx
                (try simp only [Act.put, List.setIfInBounds_toArray, List.set_cons_zero, List.set_cons_succ])
                generalize V4.alloc (.cells #[.bool false, .bool false] 31) = V5 at *
                refine wpAnyH_ready (rs := [9]) (by kernel_rfl) (by simp) ?_
                refine AllReadyH.cons (o := ?_) ?_ (fun Kx hKx => ?_) AllReadyH.nil
                rotate_left
                · (simp only [List.getElem?_toArray, List.getElem?_cons_zero, List.getElem?_cons_succ]; rfl)
                go_simp
                (with_reducible refine (HE2.out V5 HBV.out _ HOwn.out.els).mono ?_)
                rintro e V6 ⟨rfl, hb⟩
                replace HZero := Lib.hid (HZero.out.below hb)
                replace HBV := Lib.hid (below_call HBV.out hb)
                clear hb HOwn
                go_wp2_with fail
                refine hKx.out _ _ (HOLD.out _ HBV.out) (fun hHeld => ?_)
                clear hKx Kx
                (try simp only [Act.put, List.setIfInBounds_toArray, List.set_cons_zero, List.set_cons_succ])
                refine wpAnyH_ready (rs := [11]) (by kernel_rfl) (by simp) ?_
                refine AllReadyH.cons (o := ?_) ?_ (fun Kx hKx => ?_) AllReadyH.nil
                rotate_left
                · (simp only [List.getElem?_toArray, List.getElem?_cons_zero, List.getElem?_cons_succ]; rfl)
                obtain ⟨z0, z1⟩ := two_cells HZero.out
                have z2 := HZero.out.frz 0
                have z3 := HZero.out.frz 1
                go_simp
                have hS := ((Keep.refl (fun x => x = V4.heap.size) V6).store (V4.heap.size) 0 (.bool q2) rfl).store (V4.heap.size) 1 (.bool u2) rfl
                have HEnd := Lib.hid (set2_ HZero.out (.bool q2) (.bool u2))
                replace HBV := Lib.hid (below_keep HBV.out hS (fun g e => by rw [e]; exact hZge))
                clear z0 z1 z2 z3 HZero hS
                refine hKx.out _ _ (HOLD.out _ HBV.out) (fun hHeld => ?_)
                clear hKx Kx
                (try simp only [Act.put, List.setIfInBounds_toArray, List.set_cons_zero, List.set_cons_succ])
                refine wpAnyH_done (by kernel_rfl) ?_ _
                go_wp2_with fail
                go_meet
                exact ⟨V4.heap.size, rfl, HEnd, Lib.hid (HB3.out.trans (HBV.out.mono HB3.out.size))⟩
            · refine AllReadyH.cons (o := ?_) ?_ (fun Kx hKx => ?_) AllReadyH.nil
              rotate_left
              · (simp only [List.getElem?_toArray, List.getElem?_cons_zero, List.getElem?_cons_succ]; rfl)
              go_simp
              have hA := below_alloc (Below.refl _ V3) (.cells #[.bool false, .bool false] 31)
              replace HOwn := Lib.hid (HOwn.out.below hA)
              replace HLine := Lib.hid (HLine.out.below hA)
              have HZero := Lib.hid (blk_new V3 #[.bool false, .bool false] 31)
              have hZge : V0.heap.size ≤ V3.heap.size := HBV.out.size
              replace HBV := Lib.hid (below_alloc HBV.out (.cells #[.bool false, .bool false] 31))
              clear hA
              refine hKx.out _ _ (HOLD.out _ HBV.out) (fun hHeld => ?_)
              clear hKx Kx
              (try simp only [Act.put, List.setIfInBounds_toArray, List.set_cons_zero, List.set_cons_succ])
              generalize V3.alloc (.cells #[.bool false, .bool false] 31) = V4 at *
              refine wpAnyH_ready (rs := [6]) (by kernel_rfl) (by simp) ?_
              refine AllReadyH.cons (o := ?_) ?_ (fun Kx hKx => ?_) AllReadyH.nil
              rotate_left
              · (simp only [List.getElem?_toArray, List.getElem?_cons_zero, List.getElem?_cons_succ]; rfl)
              refine step_appK rfl _ _ rfl V0.heap.size (.slice (some ⟨g3, 0, none⟩) K cap3) K ls rfl HN.out HOwn.out (V0.heap.size) 0 1 1 [⟨th, ti, tz, tg, tl, ts, tj, tc, tn, tf, tk⟩] rfl rfl (elsK_one ⟨th, ti, tz, tg, tl, ts, tj, tc, tn, tf, tk⟩ _ HLine.out) (by decide) (by have := HK1.out; omega) HBV.out.size (K + 1) rfl ?_
              intro g6 cap6 V5 hown hb hg
              have hF := Keep.grown (F := fun x => x = g3) hg (fun g e => (Option.some.inj e).symm)
              have hne := HOwn.out.ne HZero.out (by decide)
              replace HZero := Lib.hid (HZero.out.keep hF (fun e => hne (by rw [e]; rfl)))
              clear hne hF
              replace HOwn := Lib.hid hown
              replace HBV := Lib.hid (HBV.out.trans hb)
              clear hown hb hg HLine
              refine hKx.out _ _ (HOLD.out _ HBV.out) (fun hHeld => ?_)
              clear hKx Kx
              (try simp only [Act.put, List.setIfInBounds_toArray, List.set_cons_zero, List.set_cons_succ])
              refine wpAnyH_ready (rs := [9]) (by kernel_rfl) (by simp) ?_
              refine AllReadyH.cons (o := ?_) ?_ (fun Kx hKx => ?_) AllReadyH.nil
              rotate_left
              · (simp only [List.getElem?_toArray, List.getElem?_cons_zero, List.getElem?_cons_succ]; rfl)
              go_simp
              (with_reducible refine (HE2.out V5 HBV.out _ HOwn.out.els).mono ?_)
              rintro e V6 ⟨rfl, hb⟩
              replace HZero := Lib.hid (HZero.out.below hb)
              replace HBV := Lib.hid (below_call HBV.out hb)
              clear hb HOwn
              go_wp2_with fail
              refine hKx.out _ _ (HOLD.out _ HBV.out) (fun hHeld => ?_)
              clear hKx Kx
              (try simp only [Act.put, List.setIfInBounds_toArray, List.set_cons_zero, List.set_cons_succ])
              refine wpAnyH_ready (rs := [11]) (by kernel_rfl) (by simp) ?_
              refine AllReadyH.cons (o := ?_) ?_ (fun Kx hKx => ?_) AllReadyH.nil
              rotate_left
              · (simp only [List.getElem?_toArray, List.getElem?_cons_zero, List.getElem?_cons_succ]; rfl)
              obtain ⟨z0, z1⟩ := two_cells HZero.out
              have z2 := HZero.out.frz 0
              have z3 := HZero.out.frz 1
              go_simp
              have hS := ((Keep.refl (fun x => x = V3.heap.size) V6).store (V3.heap.size) 0 (.bool q2) rfl).store (V3.heap.size) 1 (.bool u2) rfl
              have HEnd := Lib.hid (set2_ HZero.out (.bool q2) (.bool u2))
              replace HBV := Lib.hid (below_keep HBV.out hS (fun g e => by rw [e]; exact hZge))
              clear z0 z1 z2 z3 HZero hS
              refine hKx.out _ _ (HOLD.out _ HBV.out) (fun hHeld => ?_)
              clear hKx Kx
              (try simp only [Act.put, List.setIfInBounds_toArray, List.set_cons_zero, List.set_cons_succ])
              refine wpAnyH_done (by kernel_rfl) ?_ _
              go_wp2_with fail
              go_meet
              exact ⟨V3.heap.size, rfl, HEnd, Lib.hid (HB3.out.trans (HBV.out.mono HB3.out.size))⟩
          · refine AllReadyH.cons (o := ?_) ?_ (fun Kx hKx => ?_) AllReadyH.nil
            rotate_left
            · (simp only [List.getElem?_toArray, List.getElem?_cons_zero, List.getElem?_cons_succ]; rfl)
            go_simp
            have hA := below_alloc (Below.refl _ V2) (.cells #[.bool false, .bool false] 31)
            replace HOwn := Lib.hid (HOwn.out.below hA)
            replace HLine := Lib.hid (HLine.out.below hA)
            have HZero := Lib.hid (blk_new V2 #[.bool false, .bool false] 31)
            have hZge : V0.heap.size ≤ V2.heap.size := HBV.out.size
            replace HBV := Lib.hid (below_alloc HBV.out (.cells #[.bool false, .bool false] 31))
            clear hA
            refine hKx.out _ _ (HOLD.out _ HBV.out) (fun hHeld => ?_)
            clear hKx Kx
            (try simp only [Act.put, List.setIfInBounds_toArray, List.set_cons_zero, List.set_cons_succ])
            generalize V2.alloc (.cells #[.bool false, .bool false] 31) = V3 at *
            refine wpAnyH_ready (rs := [3]) (by kernel_rfl) (by simp) ?_
            refine AllReadyH.cons (o := ?_) ?_ (fun Kx hKx => ?_) AllReadyH.nil
            rotate_left
            · (simp only [List.getElem?_toArray, List.getElem?_cons_zero, List.getElem?_cons_succ]; rfl)
            refine step_appK rfl _ _ rfl V0.heap.size (.slice (some ⟨V1.heap.size, 0, none⟩) 0 0) 0 [] rfl rfl HOwn.out ga oa K c0 ls rfl HN.out.symm (HVS.out V3 HBV.out) HK0.out (by have := HK1.out; omega) HBV.out.size K (Nat.zero_add K) ?_
            intro g3 cap3 V4 hown hb hg
            have hF := Keep.grown (F := fun x => x = V1.heap.size) hg (fun g e => (Option.some.inj e).symm)
            have hne := HOwn.out.ne HZero.out (by decide)
            replace HZero := Lib.hid (HZero.out.keep hF (fun e => hne (by rw [e]; rfl)))
            clear hne
            replace HLine := Lib.hid (HLine.out.keep hF hOL)
            clear hOL
            replace HOwn := Lib.hid (show OwnK V4 V0.heap.size (.slice (some ⟨g3, 0, none⟩) K cap3) ls from hown)
            replace HBV := Lib.hid (HBV.out.trans hb)
            clear hown hb hg hF
            refine hKx.out _ _ (HOLD.out _ HBV.out) (fun hHeld => ?_)
            clear hKx Kx
            (try simp only [Act.put, List.setIfInBounds_toArray, List.set_cons_zero, List.set_cons_succ])
            refine wpAnyH_ready (rs := [6]) (by kernel_rfl) (by simp) ?_
            refine AllReadyH.cons (o := ?_) ?_ (fun Kx hKx => ?_) AllReadyH.nil
            rotate_left
            · (simp only [List.getElem?_toArray, List.getElem?_cons_zero, List.getElem?_cons_succ]; rfl)
            refine step_appK rfl _ _ rfl V0.heap.size (.slice (some ⟨g3, 0, none⟩) K cap3) K ls rfl HN.out HOwn.out (V0.heap.size) 0 1 1 [⟨th, ti, tz, tg, tl, ts, tj, tc, tn, tf, tk⟩] rfl rfl (elsK_one ⟨th, ti, tz, tg, tl, ts, tj, tc, tn, tf, tk⟩ _ HLine.out) (by decide) (by have := HK1.out; omega) HBV.out.size (K + 1) rfl ?_
            intro g6 cap6 V5 hown hb hg
            have hF := Keep.grown (F := fun x => x = g3) hg (fun g e => (Option.some.inj e).symm)
            have hne := HOwn.out.ne HZero.out (by decide)
            replace HZero := Lib.hid (HZero.out.keep hF (fun e => hne (by rw [e]; rfl)))
            clear hne hF
            replace HOwn := Lib.hid hown
            replace HBV := Lib.hid (HBV.out.trans hb)
            clear hown hb hg HLine
            refine hKx.out _ _ (HOLD.out _ HBV.out) (fun hHeld => ?_)
            clear hKx Kx
            (try simp only [Act.put, List.setIfInBounds_toArray, List.set_cons_zero, List.set_cons_succ])
            refine wpAnyH_ready (rs := [9]) (by kernel_rfl) (by simp) ?_
            refine AllReadyH.cons (o := ?_) ?_ (fun Kx hKx => ?_) AllReadyH.nil
            rotate_left
            · (simp only [List.getElem?_toArray, List.getElem?_cons_zero, List.getElem?_cons_succ]; rfl)
            go_simp
            (with_reducible refine (HE2.out V5 HBV.out _ HOwn.out.els).mono ?_)
            rintro e V6 ⟨rfl, hb⟩
            replace HZero := Lib.hid (HZero.out.below hb)
            replace HBV := Lib.hid (below_call HBV.out hb)
            clear hb HOwn
            go_wp2_with fail
            refine hKx.out _ _ (HOLD.out _ HBV.out) (fun hHeld => ?_)
            clear hKx Kx
            (try simp only [Act.put, List.setIfInBounds_toArray, List.set_cons_zero, List.set_cons_succ])
            refine wpAnyH_ready (rs := [11]) (by kernel_rfl) (by simp) ?_
            refine AllReadyH.cons (o := ?_) ?_ (fun Kx hKx => ?_) AllReadyH.nil
            rotate_left
            · (simp only [List.getElem?_toArray, List.getElem?_cons_zero, List.getElem?_cons_succ]; rfl)
            obtain ⟨z0, z1⟩ := two_cells HZero.out
            have z2 := HZero.out.frz 0
            have z3 := HZero.out.frz 1
            go_simp
            have hS := ((Keep.refl (fun x => x = V2.heap.size) V6).store (V2.heap.size) 0 (.bool q2) rfl).store (V2.heap.size) 1 (.bool u2) rfl
            have HEnd := Lib.hid (set2_ HZero.out (.bool q2) (.bool u2))
            replace HBV := Lib.hid (below_keep HBV.out hS (fun g e => by rw [e]; exact hZge))
            clear z0 z1 z2 z3 HZero hS
            refine hKx.out _ _ (HOLD.out _ HBV.out) (fun hHeld => ?_)
            clear hKx Kx
            (try simp only [Act.put, List.setIfInBounds_toArray, List.set_cons_zero, List.set_cons_succ])
            refine wpAnyH_done (by kernel_rfl) ?_ _
            go_wp2_with fail
            go_meet
            exact ⟨V2.heap.size, rfl, HEnd, Lib.hid (HB3.out.trans (HBV.out.mono HB3.out.size))⟩
        · refine AllReadyH.cons (o := ?_) ?_ (fun Kx hKx => ?_) AllReadyH.nil
          rotate_left
          · (simp only [List.getElem?_toArray, List.getElem?_cons_zero, List.getElem?_cons_succ]; rfl)
          go_simp
          have hA := below_alloc (Below.refl _ V1) (.cells #[.bool false, .bool false] 31)
          replace HLine := Lib.hid (HLine.out.below hA)
          have HZero := Lib.hid (blk_new V1 #[.bool false, .bool false] 31)
          have hZge : V0.heap.size ≤ V1.heap.size := HBV.out.size
          replace HBV := Lib.hid (below_alloc HBV.out (.cells #[.bool false, .bool false] 31))
          clear hA
          refine hKx.out _ _ (HOLD.out _ HBV.out) (fun hHeld => ?_)
          clear hKx Kx
          (try simp only [Act.put, List.setIfInBounds_toArray, List.set_cons_zero, List.set_cons_succ])
          generalize V1.alloc (.cells #[.bool false, .bool false] 31) = V2 at *
          refine wpAnyH_ready (rs := [1]) (by kernel_rfl) (by simp) ?_
          refine AllReadyH.cons (o := ?_) ?_ (fun Kx hKx => ?_) AllReadyH.nil
          rotate_left
          · (simp only [List.getElem?_toArray, List.getElem?_cons_zero, List.getElem?_cons_succ]; rfl)
          have hLlt := HLine.out.lt
          go_simp
          have hA := below_alloc (Below.refl _ V2) (.cells #[] 39)
          replace HLine := Lib.hid (HLine.out.below hA)
          replace HZero := Lib.hid (HZero.out.below hA)
          have HOwn := Lib.hid (ownK_lit V2 V0.heap.size HBV.out.size)
          have hOL : V0.heap.size ≠ V2.heap.size := Nat.ne_of_lt hLlt
          clear hLlt
          replace HBV := Lib.hid (below_alloc HBV.out (.cells #[] 39))
          clear hA
          refine hKx.out _ _ (HOLD.out _ HBV.out) (fun hHeld => ?_)
          clear hKx Kx
          (try simp only [Act.put, List.setIfInBounds_toArray, List.set_cons_zero, List.set_cons_succ])
          generalize V2.alloc (.cells #[] 39) = V3 at *
          refine wpAnyH_ready (rs := [3]) (by kernel_rfl) (by simp) ?_
          refine AllReadyH.cons (o := ?_) ?_ (fun Kx hKx => ?_) AllReadyH.nil
          rotate_left
          · (simp only [List.getElem?_toArray, List.getElem?_cons_zero, List.getElem?_cons_succ]; rfl)
          refine step_appK rfl _ _ rfl V0.heap.size (.slice (some ⟨V2.heap.size, 0, none⟩) 0 0) 0 [] rfl rfl HOwn.out ga oa K c0 ls rfl HN.out.symm (HVS.out V3 HBV.out) HK0.out (by have := HK1.out; omega) HBV.out.size K (Nat.zero_add K) ?_
          intro g3 cap3 V4 hown hb hg
          have hF := Keep.grown (F := fun x => x = V2.heap.size) hg (fun g e => (Option.some.inj e).symm)
          have hne := HOwn.out.ne HZero.out (by decide)
          replace HZero := Lib.hid (HZero.out.keep hF (fun e => hne (by rw [e]; rfl)))
          clear hne
          replace HLine := Lib.hid (HLine.out.keep hF hOL)
          clear hOL
          replace HOwn := Lib.hid (show OwnK V4 V0.heap.size (.slice (some ⟨g3, 0, none⟩) K cap3) ls from hown)
          replace HBV := Lib.hid (HBV.out.trans hb)
          clear hown hb hg hF
          refine hKx.out _ _ (HOLD.out _ HBV.out) (fun hHeld => ?_)
          clear hKx Kx
          (try simp only [Act.put, List.setIfInBounds_toArray, List.set_cons_zero, List.set_cons_succ])
          refine wpAnyH_ready (rs := [6]) (by kernel_rfl) (by simp) ?_
          refine AllReadyH.cons (o := ?_) ?_ (fun Kx hKx => ?_) AllReadyH.nil
          rotate_left
          · (simp only [List.getElem?_toArray, List.getElem?_cons_zero, List.getElem?_cons_succ]; rfl)
          refine step_appK rfl _ _ rfl V0.heap.size (.slice (some ⟨g3, 0, none⟩) K cap3) K ls rfl HN.out HOwn.out (V0.heap.size) 0 1 1 [⟨th, ti, tz, tg, tl, ts, tj, tc, tn, tf, tk⟩] rfl rfl (elsK_one ⟨th, ti, tz, tg, tl, ts, tj, tc, tn, tf, tk⟩ _ HLine.out) (by decide) (by have := HK1.out; omega) HBV.out.size (K + 1) rfl ?_
          intro g6 cap6 V5 hown hb hg
          have hF := Keep.grown (F := fun x => x = g3) hg (fun g e => (Option.some.inj e).symm)
          have hne := HOwn.out.ne HZero.out (by decide)
          replace HZero := Lib.hid (HZero.out.keep hF (fun e => hne (by rw [e]; rfl)))
          clear hne hF
          replace HOwn := Lib.hid hown
          replace HBV := Lib.hid (HBV.out.trans hb)
          clear hown hb hg HLine
          refine hKx.out _ _ (HOLD.out _ HBV.out) (fun hHeld => ?_)
          clear hKx Kx
          (try simp only [Act.put, List.setIfInBounds_toArray, List.set_cons_zero, List.set_cons_succ])
          refine wpAnyH_ready (rs := [9]) (by kernel_rfl) (by simp) ?_
          refine AllReadyH.cons (o := ?_) ?_ (fun Kx hKx => ?_) AllReadyH.nil
          rotate_left
          · (simp only [List.getElem?_toArray, List.getElem?_cons_zero, List.getElem?_cons_succ]; rfl)
          go_simp
          (with_reducible refine (HE2.out V5 HBV.out _ HOwn.out.els).mono ?_)
          rintro e V6 ⟨rfl, hb⟩
          replace HZero := Lib.hid (HZero.out.below hb)
          replace HBV := Lib.hid (below_call HBV.out hb)
          clear hb HOwn
          go_wp2_with fail
          refine hKx.out _ _ (HOLD.out _ HBV.out) (fun hHeld => ?_)
          clear hKx Kx
          (try simp only [Act.put, List.setIfInBounds_toArray, List.set_cons_zero, List.set_cons_succ])
          refine wpAnyH_ready (rs := [11]) (by kernel_rfl) (by simp) ?_
          refine AllReadyH.cons (o := ?_) ?_ (fun Kx hKx => ?_) AllReadyH.nil
          rotate_left
          · (simp only [List.getElem?_toArray, List.getElem?_cons_zero, List.getElem?_cons_succ]; rfl)
          obtain ⟨z0, z1⟩ := two_cells HZero.out
          have z2 := HZero.out.frz 0
          have z3 := HZero.out.frz 1
          go_simp
          have hS := ((Keep.refl (fun x => x = V1.heap.size) V6).store (V1.heap.size) 0 (.bool q2) rfl).store (V1.heap.size) 1 (.bool u2) rfl
          have HEnd := Lib.hid (set2_ HZero.out (.bool q2) (.bool u2))
          replace HBV := Lib.hid (below_keep HBV.out hS (fun g e => by rw [e]; exact hZge))
          clear z0 z1 z2 z3 HZero hS
          refine hKx.out _ _ (HOLD.out _ HBV.out) (fun hHeld => ?_)
          clear hKx Kx
          (try simp only [Act.put, List.setIfInBounds_toArray, List.set_cons_zero, List.set_cons_succ])
          refine wpAnyH_done (by kernel_rfl) ?_ _
          go_wp2_with fail
          go_meet
          exact ⟨V1.heap.size, rfl, HEnd, Lib.hid (HB3.out.trans (HBV.out.mono HB3.out.size))⟩
      · refine AllReadyH.cons (o := ?_) ?_ (fun Kx hKx => ?_) AllReadyH.nil
        rotate_left
        · (simp only [List.getElem?_toArray, List.getElem?_cons_zero, List.getElem?_cons_succ]; rfl)
        go_simp
        have hA := below_alloc (Below.refl _ V0) (.cells #[.bool false, .bool false] 31)
        have HZero := Lib.hid (blk_new V0 #[.bool false, .bool false] 31)
        have hZge : V0.heap.size ≤ V0.heap.size := HBV.out.size
        replace HBV := Lib.hid (below_alloc HBV.out (.cells #[.bool false, .bool false] 31))
        clear hA
        refine hKx.out _ _ (HOLD.out _ HBV.out) (fun hHeld => ?_)
        clear hKx Kx
        (try simp only [Act.put, List.setIfInBounds_toArray, List.set_cons_zero, List.set_cons_succ])
        generalize V0.alloc (.cells #[.bool false, .bool false] 31) = V1 at *
        refine wpAnyH_ready (rs := [1, 5]) (by kernel_rfl) (by simp) ?_
        refine AllReadyH.cons (o := ?_) ?_ (fun Kx hKx => ?_) ?_
        rotate_left
        · (simp only [List.getElem?_toArray, List.getElem?_cons_zero, List.getElem?_cons_succ]; rfl)
        · -- 1 first
          go_simp
          have hA := below_alloc (Below.refl _ V1) (.cells #[] 39)
          replace HZero := Lib.hid (HZero.out.below hA)
          have HOwn := Lib.hid (ownK_lit V1 V0.heap.size HBV.out.size)
          replace HBV := Lib.hid (below_alloc HBV.out (.cells #[] 39))
          clear hA
          refine hKx.out _ _ (HOLD.out _ HBV.out) (fun hHeld => ?_)
          clear hKx Kx
          (try simp only [Act.put, List.setIfInBounds_toArray, List.set_cons_zero, List.set_cons_succ])
          generalize V1.alloc (.cells #[] 39) = V2 at *
          refine wpAnyH_ready (rs := [3, 5]) (by kernel_rfl) (by simp) ?_
          refine AllReadyH.cons (o := ?_) ?_ (fun Kx hKx => ?_) ?_
          rotate_left
          · (simp only [List.getElem?_toArray, List.getElem?_cons_zero, List.getElem?_cons_succ]; rfl)
          · -- 3 first
            refine step_appK rfl _ _ rfl V0.heap.size (.slice (some ⟨V1.heap.size, 0, none⟩) 0 0) 0 [] rfl rfl HOwn.out ga oa K c0 ls rfl HN.out.symm (HVS.out V2 HBV.out) HK0.out (by have := HK1.out; omega) HBV.out.size K (Nat.zero_add K) ?_
            intro g3 cap3 V3 hown hb hg
            have hF := Keep.grown (F := fun x => x = V1.heap.size) hg (fun g e => (Option.some.inj e).symm)
            have hne := HOwn.out.ne HZero.out (by decide)
            replace HZero := Lib.hid (HZero.out.keep hF (fun e => hne (by rw [e]; rfl)))
            clear hne
            replace HOwn := Lib.hid (show OwnK V3 V0.heap.size (.slice (some ⟨g3, 0, none⟩) K cap3) ls from hown)
            replace HBV := Lib.hid (HBV.out.trans hb)
            clear hown hb hg hF
            refine hKx.out _ _ (HOLD.out _ HBV.out) (fun hHeld => ?_)
            clear hKx Kx
            (try simp only [Act.put, List.setIfInBounds_toArray, List.set_cons_zero, List.set_cons_succ])
            refine wpAnyH_ready (rs := [5]) (by kernel_rfl) (by simp) ?_
            refine AllReadyH.cons (o := ?_) ?_ (fun Kx hKx => ?_) AllReadyH.nil
            rotate_left
            · (simp only [List.getElem?_toArray, List.getElem?_cons_zero, List.getElem?_cons_succ]; rfl)
            go_simp
            have hA := below_alloc (Below.refl _ V3) (.cells #[.bool th, .int .i64 ti, .int .i64 tz, .bool tg, .int .i64 tl, .int .i64 ts, .bool tj, .bool tc, .int .i64 tn, .bool tf, .bool tk] 39)
            replace HOwn := Lib.hid (HOwn.out.below hA)
            replace HZero := Lib.hid (HZero.out.below hA)
            have HLine := Lib.hid (blk_new V3 #[.bool th, .int .i64 ti, .int .i64 tz, .bool tg, .int .i64 tl, .int .i64 ts, .bool tj, .bool tc, .int .i64 tn, .bool tf, .bool tk] 39)
            replace HBV := Lib.hid (below_alloc HBV.out (.cells #[.bool th, .int .i64 ti, .int .i64 tz, .bool tg, .int .i64 tl, .int .i64 ts, .bool tj, .bool tc, .int .i64 tn, .bool tf, .bool tk] 39))
            clear hA
            refine hKx.out _ _ (HOLD.out _ HBV.out) (fun hHeld => ?_)
            clear hKx Kx
            (try simp only [Act.put, List.setIfInBounds_toArray, List.set_cons_zero, List.set_cons_succ])
            generalize V3.alloc (.cells #[.bool th, .int .i64 ti, .int .i64 tz, .bool tg, .int .i64 tl, .int .i64 ts, .bool tj, .bool tc, .int .i64 tn, .bool tf, .bool tk] 39) = V4 at *
            refine wpAnyH_ready (rs := [6]) (by kernel_rfl) (by simp) ?_
            refine AllReadyH.cons (o := ?_) ?_ (fun Kx hKx => ?_) AllReadyH.nil
            rotate_left
            · (simp only [List.getElem?_toArray, List.getElem?_cons_zero, List.getElem?_cons_succ]; rfl)
            refine step_appK rfl _ _ rfl V0.heap.size (.slice (some ⟨g3, 0, none⟩) K cap3) K ls rfl HN.out HOwn.out (V3.heap.size) 0 1 1 [⟨th, ti, tz, tg, tl, ts, tj, tc, tn, tf, tk⟩] rfl rfl (elsK_one ⟨th, ti, tz, tg, tl, ts, tj, tc, tn, tf, tk⟩ _ HLine.out) (by decide) (by have := HK1.out; omega) HBV.out.size (K + 1) rfl ?_
            intro g6 cap6 V5 hown hb hg
            have hF := Keep.grown (F := fun x => x = g3) hg (fun g e => (Option.some.inj e).symm)
            have hne := HOwn.out.ne HZero.out (by decide)
            replace HZero := Lib.hid (HZero.out.keep hF (fun e => hne (by rw [e]; rfl)))
            clear hne hF
            replace HOwn := Lib.hid hown
            replace HBV := Lib.hid (HBV.out.trans hb)
            clear hown hb hg HLine
            refine hKx.out _ _ (HOLD.out _ HBV.out) (fun hHeld => ?_)
            clear hKx Kx
            (try simp only [Act.put, List.setIfInBounds_toArray, List.set_cons_zero, List.set_cons_succ])
            refine wpAnyH_ready (rs := [9]) (by kernel_rfl) (by simp) ?_
            refine AllReadyH.cons (o := ?_) ?_ (fun Kx hKx => ?_) AllReadyH.nil
            rotate_left
            · (simp only [List.getElem?_toArray, List.getElem?_cons_zero, List.getElem?_cons_succ]; rfl)
            go_simp
            (with_reducible refine (HE2.out V5 HBV.out _ HOwn.out.els).mono ?_)
            rintro e V6 ⟨rfl, hb⟩
            replace HZero := Lib.hid (HZero.out.below hb)
            replace HBV := Lib.hid (below_call HBV.out hb)
            clear hb HOwn
            go_wp2_with fail
            refine hKx.out _ _ (HOLD.out _ HBV.out) (fun hHeld => ?_)
            clear hKx Kx
            (try simp only [Act.put, List.setIfInBounds_toArray, List.set_cons_zero, List.set_cons_succ])
            refine wpAnyH_ready (rs := [11]) (by kernel_rfl) (by simp) ?_
            refine AllReadyH.cons (o := ?_) ?_ (fun Kx hKx => ?_) AllReadyH.nil
            rotate_left
            · (simp only [List.getElem?_toArray, List.getElem?_cons_zero, List.getElem?_cons_succ]; rfl)
            obtain ⟨z0, z1⟩ := two_cells HZero.out
            have z2 := HZero.out.frz 0
            have z3 := HZero.out.frz 1
            go_simp
            have hS := ((Keep.refl (fun x => x = V0.heap.size) V6).store (V0.heap.size) 0 (.bool q2) rfl).store (V0.heap.size) 1 (.bool u2) rfl
            have HEnd := Lib.hid (set2_ HZero.out (.bool q2) (.bool u2))
            replace HBV := Lib.hid (below_keep HBV.out hS (fun g e => by rw [e]; exact hZge))
            clear z0 z1 z2 z3 HZero hS
            refine hKx.out _ _ (HOLD.out _ HBV.out) (fun hHeld => ?_)
            clear hKx Kx
            (try simp only [Act.put, List.setIfInBounds_toArray, List.set_cons_zero, List.set_cons_succ])
            refine wpAnyH_done (by kernel_rfl) ?_ _
            go_wp2_with fail
            go_meet
            exact ⟨V0.heap.size, rfl, HEnd, Lib.hid (HB3.out.trans (HBV.out.mono HB3.out.size))⟩
          · refine AllReadyH.cons (o := ?_) ?_ (fun Kx hKx => ?_) AllReadyH.nil
            rotate_left
            · (simp only [List.getElem?_toArray, List.getElem?_cons_zero, List.getElem?_cons_succ]; rfl)
            have hOlt := HOwn.out.lt (g := V1.heap.size) rfl
            go_simp
            have hA := below_alloc (Below.refl _ V2) (.cells #[.bool th, .int .i64 ti, .int .i64 tz, .bool tg, .int .i64 tl, .int .i64 ts, .bool tj, .bool tc, .int .i64 tn, .bool tf, .bool tk] 39)
            replace HOwn := Lib.hid (HOwn.out.below hA)
            replace HZero := Lib.hid (HZero.out.below hA)
            have HLine := Lib.hid (blk_new V2 #[.bool th, .int .i64 ti, .int .i64 tz, .bool tg, .int .i64 tl, .int .i64 ts, .bool tj, .bool tc, .int .i64 tn, .bool tf, .bool tk] 39)
            have hOL : V2.heap.size ≠ V1.heap.size := Nat.ne_of_gt hOlt.2
            clear hOlt
            replace HBV := Lib.hid (below_alloc HBV.out (.cells #[.bool th, .int .i64 ti, .int .i64 tz, .bool tg, .int .i64 tl, .int .i64 ts, .bool tj, .bool tc, .int .i64 tn, .bool tf, .bool tk] 39))
            clear hA
            refine hKx.out _ _ (HOLD.out _ HBV.out) (fun hHeld => ?_)
            clear hKx Kx
            (try simp only [Act.put, List.setIfInBounds_toArray, List.set_cons_zero, List.set_cons_succ])
            generalize V2.alloc (.cells #[.bool th, .int .i64 ti, .int .i64 tz, .bool tg, .int .i64 tl, .int .i64 ts, .bool tj, .bool tc, .int .i64 tn, .bool tf, .bool tk] 39) = V3 at *
            refine wpAnyH_ready (rs := [3]) (by kernel_rfl) (by simp) ?_
            refine AllReadyH.cons (o := ?_) ?_ (fun Kx hKx => ?_) AllReadyH.nil
            rotate_left
            · (simp only [List.getElem?_toArray, List.getElem?_cons_zero, List.getElem?_cons_succ]; rfl)
            refine step_appK rfl _ _ rfl V0.heap.size (.slice (some ⟨V1.heap.size, 0, none⟩) 0 0) 0 [] rfl rfl HOwn.out ga oa K c0 ls rfl HN.out.symm (HVS.out V3 HBV.out) HK0.out (by have := HK1.out; omega) HBV.out.size K (Nat.zero_add K) ?_
            intro g3 cap3 V4 hown hb hg
            have hF := Keep.grown (F := fun x => x = V1.heap.size) hg (fun g e => (Option.some.inj e).symm)
            have hne := HOwn.out.ne HZero.out (by decide)
            replace HZero := Lib.hid (HZero.out.keep hF (fun e => hne (by rw [e]; rfl)))
            clear hne
            replace HLine := Lib.hid (HLine.out.keep hF hOL)
            clear hOL
            replace HOwn := Lib.hid (show OwnK V4 V0.heap.size (.slice (some ⟨g3, 0, none⟩) K cap3) ls from hown)
            replace HBV := Lib.hid (HBV.out.trans hb)
            clear hown hb hg hF
            refine hKx.out _ _ (HOLD.out _ HBV.out) (fun hHeld => ?_)
            clear hKx Kx
            (try simp only [Act.put, List.setIfInBounds_toArray, List.set_cons_zero, List.set_cons_succ])
            refine wpAnyH_ready (rs := [6]) (by kernel_rfl) (by simp) ?_
            refine AllReadyH.cons (o := ?_) ?_ (fun Kx hKx => ?_) AllReadyH.nil
            rotate_left
            · (simp only [List.getElem?_toArray, List.getElem?_cons_zero, List.getElem?_cons_succ]; rfl)
            refine step_appK rfl _ _ rfl V0.heap.size (.slice (some ⟨g3, 0, none⟩) K cap3) K ls rfl HN.out HOwn.out (V2.heap.size) 0 1 1 [⟨th, ti, tz, tg, tl, ts, tj, tc, tn, tf, tk⟩] rfl rfl (elsK_one ⟨th, ti, tz, tg, tl, ts, tj, tc, tn, tf, tk⟩ _ HLine.out) (by decide) (by have := HK1.out; omega) HBV.out.size (K + 1) rfl ?_
            intro g6 cap6 V5 hown hb hg
            have hF := Keep.grown (F := fun x => x = g3) hg (fun g e => (Option.some.inj e).symm)
            have hne := HOwn.out.ne HZero.out (by decide)
            replace HZero := Lib.hid (HZero.out.keep hF (fun e => hne (by rw [e]; rfl)))
            clear hne hF
            replace HOwn := Lib.hid hown
            replace HBV := Lib.hid (HBV.out.trans hb)
            clear hown hb hg HLine
            refine hKx.out _ _ (HOLD.out _ HBV.out) (fun hHeld => ?_)
            clear hKx Kx
            (try simp only [Act.put, List.setIfInBounds_toArray, List.set_cons_zero, List.set_cons_succ])
            refine wpAnyH_ready (rs := [9]) (by kernel_rfl) (by simp) ?_
            refine AllReadyH.cons (o := ?_) ?_ (fun Kx hKx => ?_) AllReadyH.nil
            rotate_left
            · (simp only [List.getElem?_toArray, List.getElem?_cons_zero, List.getElem?_cons_succ]; rfl)
            go_simp
            (with_reducible refine (HE2.out V5 HBV.out _ HOwn.out.els).mono ?_)
            rintro e V6 ⟨rfl, hb⟩
            replace HZero := Lib.hid (HZero.out.below hb)
            replace HBV := Lib.hid (below_call HBV.out hb)
            clear hb HOwn
            go_wp2_with fail
            refine hKx.out _ _ (HOLD.out _ HBV.out) (fun hHeld => ?_)
            clear hKx Kx
            (try simp only [Act.put, List.setIfInBounds_toArray, List.set_cons_zero, List.set_cons_succ])
            refine wpAnyH_ready (rs := [11]) (by kernel_rfl) (by simp) ?_
            refine AllReadyH.cons (o := ?_) ?_ (fun Kx hKx => ?_) AllReadyH.nil
            rotate_left
            · (simp only [List.getElem?_toArray, List.getElem?_cons_zero, List.getElem?_cons_succ]; rfl)
            obtain ⟨z0, z1⟩ := two_cells HZero.out
            have z2 := HZero.out.frz 0
            have z3 := HZero.out.frz 1
            go_simp
            have hS := ((Keep.refl (fun x => x = V0.heap.size) V6).store (V0.heap.size) 0 (.bool q2) rfl).store (V0.heap.size) 1 (.bool u2) rfl
            have HEnd := Lib.hid (set2_ HZero.out (.bool q2) (.bool u2))
            replace HBV := Lib.hid (below_keep HBV.out hS (fun g e => by rw [e]; exact hZge))
            clear z0 z1 z2 z3 HZero hS
            refine hKx.out _ _ (HOLD.out _ HBV.out) (fun hHeld => ?_)
            clear hKx Kx
            (try simp only [Act.put, List.setIfInBounds_toArray, List.set_cons_zero, List.set_cons_succ])
            refine wpAnyH_done (by kernel_rfl) ?_ _
            go_wp2_with fail
            go_meet
            exact ⟨V0.heap.size, rfl, HEnd, Lib.hid (HB3.out.trans (HBV.out.mono HB3.out.size))⟩
        · refine AllReadyH.cons (o := ?_) ?_ (fun Kx hKx => ?_) AllReadyH.nil
          rotate_left
          · (simp only [List.getElem?_toArray, List.getElem?_cons_zero, List.getElem?_cons_succ]; rfl)
          go_simp
          have hA := below_alloc (Below.refl _ V1) (.cells #[.bool th, .int .i64 ti, .int .i64 tz, .bool tg, .int .i64 tl, .int .i64 ts, .bool tj, .bool tc, .int .i64 tn, .bool tf, .bool tk] 39)
          replace HZero := Lib.hid (HZero.out.below hA)
          have HLine := Lib.hid (blk_new V1 #[.bool th, .int .i64 ti, .int .i64 tz, .bool tg, .int .i64 tl, .int .i64 ts, .bool tj, .bool tc, .int .i64 tn, .bool tf, .bool tk] 39)
          replace HBV := Lib.hid (below_alloc HBV.out (.cells #[.bool th, .int .i64 ti, .int .i64 tz, .bool tg, .int .i64 tl, .int .i64 ts, .bool tj, .bool tc, .int .i64 tn, .bool tf, .bool tk] 39))
          clear hA
          refine hKx.out _ _ (HOLD.out _ HBV.out) (fun hHeld => ?_)
          clear hKx Kx
          (try simp only [Act.put, List.setIfInBounds_toArray, List.set_cons_zero, List.set_cons_succ])
          generalize V1.alloc (.cells #[.bool th, .int .i64 ti, .int .i64 tz, .bool tg, .int .i64 tl, .int .i64 ts, .bool tj, .bool tc, .int .i64 tn, .bool tf, .bool tk] 39) = V2 at *
          refine wpAnyH_ready (rs := [1]) (by kernel_rfl) (by simp) ?_
          refine AllReadyH.cons (o := ?_) ?_ (fun Kx hKx => ?_) AllReadyH.nil
          rotate_left
          · (simp only [List.getElem?_toArray, List.getElem?_cons_zero, List.getElem?_cons_succ]; rfl)
          have hLlt := HLine.out.lt
          go_simp
          have hA := below_alloc (Below.refl _ V2) (.cells #[] 39)
          replace HLine := Lib.hid (HLine.out.below hA)
          replace HZero := Lib.hid (HZero.out.below hA)
          have HOwn := Lib.hid (ownK_lit V2 V0.heap.size HBV.out.size)
          have hOL : V1.heap.size ≠ V2.heap.size := Nat.ne_of_lt hLlt
          clear hLlt
          replace HBV := Lib.hid (below_alloc HBV.out (.cells #[] 39))
          clear hA
          refine hKx.out _ _ (HOLD.out _ HBV.out) (fun hHeld => ?_)
          clear hKx Kx
          (try simp only [Act.put, List.setIfInBounds_toArray, List.set_cons_zero, List.set_cons_succ])
          generalize V2.alloc (.cells #[] 39) = V3 at *
          refine wpAnyH_ready (rs := [3]) (by kernel_rfl) (by simp) ?_
          refine AllReadyH.cons (o := ?_) ?_ (fun Kx hKx => ?_) AllReadyH.nil
          rotate_left
          · (simp only [List.getElem?_toArray, List.getElem?_cons_zero, List.getElem?_cons_succ]; rfl)
          refine step_appK rfl _ _ rfl V0.heap.size (.slice (some ⟨V2.heap.size, 0, none⟩) 0 0) 0 [] rfl rfl HOwn.out ga oa K c0 ls rfl HN.out.symm (HVS.out V3 HBV.out) HK0.out (by have := HK1.out; omega) HBV.out.size K (Nat.zero_add K) ?_
          intro g3 cap3 V4 hown hb hg
          have hF := Keep.grown (F := fun x => x = V2.heap.size) hg (fun g e => (Option.some.inj e).symm)
          have hne := HOwn.out.ne HZero.out (by decide)
          replace HZero := Lib.hid (HZero.out.keep hF (fun e => hne (by rw [e]; rfl)))
          clear hne
          replace HLine := Lib.hid (HLine.out.keep hF hOL)
          clear hOL
          replace HOwn := Lib.hid (show OwnK V4 V0.heap.size (.slice (some ⟨g3, 0, none⟩) K cap3) ls from hown)
          replace HBV := Lib.hid (HBV.out.trans hb)
          clear hown hb hg hF
          refine hKx.out _ _ (HOLD.out _ HBV.out) (fun hHeld => ?_)
          clear hKx Kx
          (try simp only [Act.put, List.setIfInBounds_toArray, List.set_cons_zero, List.set_cons_succ])
          refine wpAnyH_ready (rs := [6]) (by kernel_rfl) (by simp) ?_
          refine AllReadyH.cons (o := ?_) ?_ (fun Kx hKx => ?_) AllReadyH.nil
          rotate_left
          · (simp only [List.getElem?_toArray, List.getElem?_cons_zero, List.getElem?_cons_succ]; rfl)
          refine step_appK rfl _ _ rfl V0.heap.size (.slice (some ⟨g3, 0, none⟩) K cap3) K ls rfl HN.out HOwn.out (V1.heap.size) 0 1 1 [⟨th, ti, tz, tg, tl, ts, tj, tc, tn, tf, tk⟩] rfl rfl (elsK_one ⟨th, ti, tz, tg, tl, ts, tj, tc, tn, tf, tk⟩ _ HLine.out) (by decide) (by have := HK1.out; omega) HBV.out.size (K + 1) rfl ?_
          intro g6 cap6 V5 hown hb hg
          have hF := Keep.grown (F := fun x => x = g3) hg (fun g e => (Option.some.inj e).symm)
          have hne := HOwn.out.ne HZero.out (by decide)
          replace HZero := Lib.hid (HZero.out.keep hF (fun e => hne (by rw [e]; rfl)))
          clear hne hF
          replace HOwn := Lib.hid hown
          replace HBV := Lib.hid (HBV.out.trans hb)
          clear hown hb hg HLine
          refine hKx.out _ _ (HOLD.out _ HBV.out) (fun hHeld => ?_)
          clear hKx Kx
          (try simp only [Act.put, List.setIfInBounds_toArray, List.set_cons_zero, List.set_cons_succ])
          refine wpAnyH_ready (rs := [9]) (by kernel_rfl) (by simp) ?_
          refine AllReadyH.cons (o := ?_) ?_ (fun Kx hKx => ?_) AllReadyH.nil
          rotate_left
          · (simp only [List.getElem?_toArray, List.getElem?_cons_zero, List.getElem?_cons_succ]; rfl)
          go_simp
          (with_reducible refine (HE2.out V5 HBV.out _ HOwn.out.els).mono ?_)
          rintro e V6 ⟨rfl, hb⟩
          replace HZero := Lib.hid (HZero.out.below hb)
          replace HBV := Lib.hid (below_call HBV.out hb)
          clear hb HOwn
          go_wp2_with fail
          refine hKx.out _ _ (HOLD.out _ HBV.out) (fun hHeld => ?_)
          clear hKx Kx
          (try simp only [Act.put, List.setIfInBounds_toArray, List.set_cons_zero, List.set_cons_succ])
          refine wpAnyH_ready (rs := [11]) (by kernel_rfl) (by simp) ?_
          refine AllReadyH.cons (o := ?_) ?_ (fun Kx hKx => ?_) AllReadyH.nil
          rotate_left
          · (simp only [List.getElem?_toArray, List.getElem?_cons_zero, List.getElem?_cons_succ]; rfl)
          obtain ⟨z0, z1⟩ := two_cells HZero.out
          have z2 := HZero.out.frz 0
          have z3 := HZero.out.frz 1
          go_simp
          have hS := ((Keep.refl (fun x => x = V0.heap.size) V6).store (V0.heap.size) 0 (.bool q2) rfl).store (V0.heap.size) 1 (.bool u2) rfl
          have HEnd := Lib.hid (set2_ HZero.out (.bool q2) (.bool u2))
          replace HBV := Lib.hid (below_keep HBV.out hS (fun g e => by rw [e]; exact hZge))
          clear z0 z1 z2 z3 HZero hS
          refine hKx.out _ _ (HOLD.out _ HBV.out) (fun hHeld => ?_)
          clear hKx Kx
          (try simp only [Act.put, List.setIfInBounds_toArray, List.set_cons_zero, List.set_cons_succ])
          refine wpAnyH_done (by kernel_rfl) ?_ _
          go_wp2_with fail
          go_meet
          exact ⟨V0.heap.size, rfl, HEnd, Lib.hid (HB3.out.trans (HBV.out.mono HB3.out.size))⟩
  case rest =>
    obtain ⟨g13, rfl, HD2, HBX⟩ := hcut
    have hY := HY.out.below HBX.out
    have y7 := hY.cell 7 (u := .bool tc) rfl
    have y9 := hY.cell 9 (u := .bool tf) rfl
    have y10 := hY.cell 10 (u := .bool tk) rfl
    obtain ⟨s0, s1⟩ := two_cells (HC.out.below HBX.out)
    obtain ⟨t0, t1⟩ := two_cells HD2.out
    have HBF := Lib.hid (below_call HB.out HBX.out)
    obtain ⟨k1, k2, k3, k4⟩ := HFACT.out
    have EQ := eql_dms q u
    clear hY HY HX HC HD2 HB HBX HFACT HE1 HM HM2 HN HK0 HK1
    have hcs : (tf = true) ∨ (tf = false ∧ u2 = u ∧ tk = true) ∨ (tf = false ∧ u2 = u ∧ tk = false ∧ tc = false) ∨ (tf = false ∧ u2 = u ∧ tk = false ∧ tc = true ∧ q2 = q) := by
      cases tf
      · have e := k1 rfl
        cases tk
        · cases tc
          · exact .inr (.inr (.inl ⟨rfl, e, rfl, rfl⟩))
          · exact .inr (.inr (.inr ⟨rfl, e, rfl, rfl, k4 rfl rfl rfl⟩))
        · exact .inr (.inl ⟨rfl, e, rfl⟩)
      · exact .inl rfl
    have hq : (q = false) ∨ (q = true ∧ q2 = true) := by cases q; exact .inl rfl; exact .inr ⟨rfl, k3 rfl⟩
    have hu : (u = false) ∨ (u = true ∧ u2 = true) := by cases u; exact .inl rfl; exact .inr ⟨rfl, k2 rfl⟩
    clear k1 k2 k3 k4
    rcases hcs with rfl | ⟨rfl, rfl, rfl⟩ | ⟨rfl, rfl, rfl, rfl⟩ | ⟨rfl, rfl, rfl, rfl, rfl⟩
    all_goals
      rcases hq with rfl | ⟨rfl, hq⟩
      all_goals
        rcases hu with rfl | ⟨rfl, hu⟩
        all_goals
          (try subst hq)
          (try subst hu)
          have e1 : (true == true) = true := rfl
          have e2 : (false == false) = true := rfl
          go_wp2_with fail
          go_ret
          exact ⟨rfl, HBF.out⟩
theorem more_any (a b c d s l o : Bool) (m : Int) (mn ba : Bool) (r : Int) (tv : Value) (v : Value) (ls : List Tk) (th : Bool) (ti tz : Int) (tg : Bool) (tl ts : Int) (tj tc : Bool) (tn : Int) (tf tk : Bool) (lk op : Bool) (w : World) (hv : Els RTk 11 w v ls) : Calls Try.prog 5 #[.agg #[.bool a, .bool b, .bool c, .bool d, .bool s, .bool l, .bool o, .int .i64 m, .bool mn, .bool ba, .int .i64 r, tv], v, .agg #[.bool th, .int .i64 ti, .int .i64 tz, .bool tg, .int .i64 tl, .int .i64 ts, .bool tj, .bool tc, .int .i64 tn, .bool tf, .bool tk], .bool lk, .bool op] w fun e w' => e = .returned (.bool true) ∧ Below w.heap.size w w' := by
  obtain ⟨a0, c0, rfl⟩ := hv.len
  obtain ⟨K, hK⟩ : ∃ n, n = ls.length := ⟨_, rfl⟩
  rw [← hK] at hv ⊢
  by_cases h : 100 < K
  · exact more_out a b c d s l o m mn ba r tv a0 K c0 th ti tz tg tl ts tj tc tn tf tk lk op w h
  · by_cases h0 : 0 < K
    · obtain ⟨y, hy⟩ : ∃ y, ls[0]? = some y := ⟨_, List.getElem?_eq_getElem (by omega)⟩
      obtain ⟨ga, oa, ea, _⟩ := hv.at_ hy
      subst ea
      exact more_some a b c d s l o m mn ba r tv ga oa K c0 ls th ti tz tg tl ts tj tc tn tf tk lk op w hv hK h0 (by omega)
    · obtain rfl : K = 0 := by omega
      exact more_none a b c d s l o m mn ba r tv a0 c0 th ti tz tg tl ts tj tc tn tf tk lk op w
end Go.Proofs.Ytoedecngemkblaa

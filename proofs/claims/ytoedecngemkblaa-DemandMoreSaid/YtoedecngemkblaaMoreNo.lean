/-
  The walk of crossbucklaw19.DemandMore: true, where there is no track.
-/
import Derived.Test.YtoedecngemkblaaSmall
import Derived.Test.YtoedecngemkblaaTkOwn
import Derived.Lib.QuietBelow
import Derived.BigQuiet
import Derived.Deep.CutRange
import Derived.Deep.DeepCutAuto
import Derived.Deep.RegionHeld3
namespace Go.Proofs.Ytoedecngemkblaa
open Go.RowKit

theorem more_boxes (a b c d s l o : Bool) (m : Int) (mn ba : Bool) (r : Int) (tv : Value) (th : Bool) (ti tz : Int) (tg : Bool) (tl ts : Int) (tj tc : Bool) (tn : Int) (tf tk : Bool) (w : World) : Blk ((w.alloc (.cells #[.bool a, .bool b, .bool c, .bool d, .bool s, .bool l, .bool o, .int .i64 m, .bool mn, .bool ba, .int .i64 r, tv] 26)).alloc (.cells #[.bool th, .int .i64 ti, .int .i64 tz, .bool tg, .int .i64 tl, .int .i64 ts, .bool tj, .bool tc, .int .i64 tn, .bool tf, .bool tk] 39)) w.heap.size #[.bool a, .bool b, .bool c, .bool d, .bool s, .bool l, .bool o, .int .i64 m, .bool mn, .bool ba, .int .i64 r, tv] 26 ∧ Blk ((w.alloc (.cells #[.bool a, .bool b, .bool c, .bool d, .bool s, .bool l, .bool o, .int .i64 m, .bool mn, .bool ba, .int .i64 r, tv] 26)).alloc (.cells #[.bool th, .int .i64 ti, .int .i64 tz, .bool tg, .int .i64 tl, .int .i64 ts, .bool tj, .bool tc, .int .i64 tn, .bool tf, .bool tk] 39)) (w.heap.size + 1) #[.bool th, .int .i64 ti, .int .i64 tz, .bool tg, .int .i64 tl, .int .i64 ts, .bool tj, .bool tc, .int .i64 tn, .bool tf, .bool tk] 39 ∧ Below w.heap.size w ((w.alloc (.cells #[.bool a, .bool b, .bool c, .bool d, .bool s, .bool l, .bool o, .int .i64 m, .bool mn, .bool ba, .int .i64 r, tv] 26)).alloc (.cells #[.bool th, .int .i64 ti, .int .i64 tz, .bool tg, .int .i64 tl, .int .i64 ts, .bool tj, .bool tc, .int .i64 tn, .bool tf, .bool tk] 39)) := by
  have b1 := blk_new w #[.bool a, .bool b, .bool c, .bool d, .bool s, .bool l, .bool o, .int .i64 m, .bool mn, .bool ba, .int .i64 r, tv] 26
  have b2 := blk_new (w.alloc (.cells #[.bool a, .bool b, .bool c, .bool d, .bool s, .bool l, .bool o, .int .i64 m, .bool mn, .bool ba, .int .i64 r, tv] 26)) #[.bool th, .int .i64 ti, .int .i64 tz, .bool tg, .int .i64 tl, .int .i64 ts, .bool tj, .bool tc, .int .i64 tn, .bool tf, .bool tk] 39
  have k2 := below_alloc (Below.refl _ (w.alloc (.cells #[.bool a, .bool b, .bool c, .bool d, .bool s, .bool l, .bool o, .int .i64 m, .bool mn, .bool ba, .int .i64 r, tv] 26))) (.cells #[.bool th, .int .i64 ti, .int .i64 tz, .bool tg, .int .i64 tl, .int .i64 ts, .bool tj, .bool tc, .int .i64 tn, .bool tf, .bool tk] 39)
  simp only [World.size_alloc] at b2
  exact ⟨b1.below k2, b2, below_alloc (below_alloc (Below.refl _ w) _) _⟩
set_option maxHeartbeats 1000000 in
theorem more_out (a b c d s l o : Bool) (m : Int) (mn ba : Bool) (r : Int) (tv : Value) (a0 : Option Addr) (K c0 : Nat) (th : Bool) (ti tz : Int) (tg : Bool) (tl ts : Int) (tj tc : Bool) (tn : Int) (tf tk : Bool) (lk op : Bool) (w : World) (h : 100 < K) : Calls Try.prog 5 #[.agg #[.bool a, .bool b, .bool c, .bool d, .bool s, .bool l, .bool o, .int .i64 m, .bool mn, .bool ba, .int .i64 r, tv], .slice a0 K c0, .agg #[.bool th, .int .i64 ti, .int .i64 tz, .bool tg, .int .i64 tl, .int .i64 ts, .bool tj, .bool tc, .int .i64 tn, .bool tf, .bool tk], .bool lk, .bool op] w fun e w' => e = .returned (.bool true) ∧ Below w.heap.size w w' := by
  have HB0 := Lib.hid (more_boxes a b c d s l o m mn ba r tv th ti tz tg tl ts tj tc tn tf tk w).2.2
  have h1 : 100 < (K : Int) := by omega
  clear h
  go_enter Try.func5, Try.ntmps5
  go_wp2_with fail
  (with_reducible refine (small_true _).mono ?_)
  rintro e w1 ⟨rfl, hb⟩
  have HB1 := Lib.hid (below_call HB0.out hb)
  clear hb
  go_wp2_with fail
  go_ret
  exact ⟨rfl, HB1.out⟩
theorem dany_snoc (p : Tk → Bool) (ls : List Tk) (t : Tk) : dany p (ls ++ [t]) = (dany p ls || p t) := by
  unfold dany
  simp
/-- One track more. -/
theorem more_facts (m r : Int) (mn l lk op : Bool) (ls : List Tk) (t : Tk) (u q u2 q2 : Bool) (hu : (!dgood m mn l ls) = u) (hq : dshut u r ls lk op = q) (hu2 : (!dgood m mn l (ls ++ [t])) = u2) (hq2 : dshut u2 r (ls ++ [t]) lk op = q2) :
    (t.f = false → u2 = u) ∧ (u = true → u2 = true) ∧ (q = true → q2 = true) ∧ (t.f = false → t.c = false → t.cl = true → q2 = q) := by
  unfold dgood at hu hu2
  unfold dshut at hq hq2
  rw [dany_snoc] at hu2 hq2
  have e1 : dfault t = t.f := rfl
  have e2 : dask op t = (t.c || (!op && !t.cl)) := rfl
  rw [e1] at hu2
  rw [e2] at hq2
  obtain ⟨x1, h1⟩ : ∃ x, (m != 1 && mn && l) = x := ⟨_, rfl⟩
  obtain ⟨x2, h2⟩ : ∃ x, dany dfault ls = x := ⟨_, rfl⟩
  obtain ⟨x3, h3⟩ : ∃ x, (r != 0) = x := ⟨_, rfl⟩
  obtain ⟨x4, h4⟩ : ∃ x, dany (dask op) ls = x := ⟨_, rfl⟩
  obtain ⟨x5, h5⟩ : ∃ x, t.f = x := ⟨_, rfl⟩
  obtain ⟨x6, h6⟩ : ∃ x, t.c = x := ⟨_, rfl⟩
  obtain ⟨x7, h7⟩ : ∃ x, t.cl = x := ⟨_, rfl⟩
  rw [h1, h2] at hu
  rw [h1, h2, h5] at hu2
  rw [h3, h4] at hq
  rw [h3, h4, h6, h7] at hq2
  rw [h5, h6, h7]
  clear h1 h2 h3 h4 h5 h6 h7 e1 e2
  subst hu hu2 hq hq2
  refine ⟨?_, ?_, ?_, ?_⟩
  · rintro rfl; cases x1 <;> cases x2 <;> rfl
  · cases x1 <;> cases x2 <;> cases x5 <;> simp
  · cases x1 <;> cases x2 <;> cases x3 <;> cases x4 <;> cases x5 <;> cases lk <;> simp
  · rintro rfl rfl rfl; cases x1 <;> cases x2 <;> cases x3 <;> cases x4 <;> cases lk <;> cases op <;> rfl
theorem set2_ {w : World} {g : Nat} {T : TypeId} {c0 c1 : Value} (h : Blk w g #[c0, c1] T) (u0 u1 : Value) : Blk ((w.setCell ⟨g, 0, none⟩ u0).setCell ⟨g, 1, none⟩ u1) g #[u0, u1] T := (h.set_ 0 u0).set_ 1 u1
theorem els_any0 (a0 : Option Addr) (c0 : Nat) (w : World) : Els RTk 11 w (.slice a0 0 c0) [] := ⟨a0, c0, rfl, fun j y hy => by simp at hy⟩
theorem cells11k {w : World} {g : Nat} {T : TypeId} {c0 c1 c2 c3 c4 c5 c6 c7 c8 c9 c10 : Value} (h : Blk w g #[c0, c1, c2, c3, c4, c5, c6, c7, c8, c9, c10] T) : w.cell? ⟨g, 0, none⟩ = some c0 ∧ w.cell? ⟨g, 1, none⟩ = some c1 ∧ w.cell? ⟨g, 2, none⟩ = some c2 ∧ w.cell? ⟨g, 3, none⟩ = some c3 ∧ w.cell? ⟨g, 4, none⟩ = some c4 ∧ w.cell? ⟨g, 5, none⟩ = some c5 ∧ w.cell? ⟨g, 6, none⟩ = some c6 ∧ w.cell? ⟨g, 7, none⟩ = some c7 ∧ w.cell? ⟨g, 8, none⟩ = some c8 ∧ w.cell? ⟨g, 9, none⟩ = some c9 ∧ w.cell? ⟨g, 10, none⟩ = some c10 :=
  ⟨h.cell 0 rfl, h.cell 1 rfl, h.cell 2 rfl, h.cell 3 rfl, h.cell 4 rfl, h.cell 5 rfl, h.cell 6 rfl, h.cell 7 rfl, h.cell 8 rfl, h.cell 9 rfl, h.cell 10 rfl⟩
set_option maxHeartbeats 16000000 in
set_option maxRecDepth 10000 in
theorem more_none (a b c d s l o : Bool) (m : Int) (mn ba : Bool) (r : Int) (tv : Value) (a0 : Option Addr) (c0 : Nat) (th : Bool) (ti tz : Int) (tg : Bool) (tl ts : Int) (tj tc : Bool) (tn : Int) (tf tk : Bool) (lk op : Bool) (w : World) : Calls Try.prog 5 #[.agg #[.bool a, .bool b, .bool c, .bool d, .bool s, .bool l, .bool o, .int .i64 m, .bool mn, .bool ba, .int .i64 r, tv], .slice a0 0 c0, .agg #[.bool th, .int .i64 ti, .int .i64 tz, .bool tg, .int .i64 tl, .int .i64 ts, .bool tj, .bool tc, .int .i64 tn, .bool tf, .bool tk], .bool lk, .bool op] w fun e w' => e = .returned (.bool true) ∧ Below w.heap.size w w' := by
  have HV := Lib.hid (els_any0 a0 c0 w)
  have h1 : ¬ 100 < ((0 : Nat) : Int) := by decide
  have HM := Lib.hid (show ([] : List Tk).length ≤ maxLen by decide)
  have HM2 := Lib.hid (show ([] ++ [⟨th, ti, tz, tg, tl, ts, tj, tc, tn, tf, tk⟩] : List Tk).length ≤ maxLen by show 1 ≤ maxLen; decide)
  obtain ⟨u, hu⟩ : ∃ u, (!dgood m mn l []) = u := ⟨_, rfl⟩
  obtain ⟨q, hq⟩ : ∃ z, dshut u r [] lk op = z := ⟨_, rfl⟩
  obtain ⟨u2, hu2⟩ : ∃ u, (!dgood m mn l ([] ++ [⟨th, ti, tz, tg, tl, ts, tj, tc, tn, tf, tk⟩])) = u := ⟨_, rfl⟩
  obtain ⟨q2, hq2⟩ : ∃ z, dshut u2 r ([] ++ [⟨th, ti, tz, tg, tl, ts, tj, tc, tn, tf, tk⟩]) lk op = z := ⟨_, rfl⟩
  have HFACT := Lib.hid (more_facts m r mn l lk op [] ⟨th, ti, tz, tg, tl, ts, tj, tc, tn, tf, tk⟩ u q u2 q2 hu hq hu2 hq2)
  obtain ⟨bx, by_, bb⟩ := more_boxes a b c d s l o m mn ba r tv th ti tz tg tl ts tj tc tn tf tk w
  have HX0 := Lib.hid bx
  have HY0 := Lib.hid by_
  have HB0 := Lib.hid bb
  have HE := Lib.hid (fun (W : World) (hW : Below w.heap.size w W) => of_to a b c d s l o m mn ba r tv _ [] W (HV.out.below (fun _ _ _ h => h.below hW)) HM.out lk op u q hu hq)
  have HE1 := Lib.hid (fun (W : World) (v : Value) (hv : Els RTk 11 W v ([] ++ [⟨th, ti, tz, tg, tl, ts, tj, tc, tn, tf, tk⟩])) => of_to a b c d s l o m mn ba r tv v _ W hv HM2.out lk op u2 q2 hu2 hq2)
  clear hu hq hu2 hq2 bx by_ bb
  go_enter Try.func5, Try.ntmps5
  go_wp2_with fail
  (with_reducible refine (small_true _).mono ?_)
  rintro e w1 ⟨rfl, hb⟩
  have HB := Lib.hid (below_call HB0.out hb)
  have HX := Lib.hid (HX0.out.below hb)
  have HY := Lib.hid (HY0.out.below hb)
  clear hb HB0 HX0 HY0
  obtain ⟨x0, x1, x2, x3, x4, x5, x6, x7, x8, x9, x10, x11⟩ := cells12 HX.out
  have H1 := Lib.hid (HE.out w1 HB.out)
  go_wp2_with fail
  (with_reducible refine (H1.out).mono ?_)
  rintro e w2 ⟨rfl, hb⟩
  replace HB := Lib.hid (below_alloc (below_call HB.out hb) (.cells #[.bool q, .bool u] 31))
  replace HX := Lib.hid ((HX.out.below hb).below (below_alloc (Below.refl _ w2) (.cells #[.bool q, .bool u] 31)))
  replace HY := Lib.hid ((HY.out.below hb).below (below_alloc (Below.refl _ w2) (.cells #[.bool q, .bool u] 31)))
  have HC := Lib.hid (blk_new w2 #[.bool q, .bool u] 31)
  clear hb H1 HE x0 x1 x2 x3 x4 x5 x6 x7 x8 x9 x10 x11
  go_upto_region 5 with fail
  generalize w2.alloc (.cells #[.bool q, .bool u] 31) = w3 at *
  go_cut [13] (fun s13 wx => ∃ g13, s13 = .pointer (some ⟨g13, 0, none⟩) ∧ Hid (Blk wx g13 #[.bool q2, .bool u2] 31) ∧ Hid (Below w3.heap.size w3 wx))
  case first =>
    have HB3 := Lib.hid (bel_drew w3)
    have HXd := Lib.hid (HX.out.below HB3.out)
    have HYd := Lib.hid (HY.out.below HB3.out)
    have HVd := Lib.hid ((HV.out.below (fun _ _ _ h => h.below HB.out)).below (fun _ _ _ h => h.below HB3.out))
    clear HX HY HB HV HC HFACT HM HM2
    refine wp_region_held_drew (S := (fun w' => Blk w' w.heap.size #[.bool a, .bool b, .bool c, .bool d, .bool s, .bool l, .bool o, .int .i64 m, .bool mn, .bool ba, .int .i64 r, tv] 26 ∧ Blk w' (w.heap.size + 1) #[.bool th, .int .i64 ti, .int .i64 tz, .bool tg, .int .i64 tl, .int .i64 ts, .bool tj, .bool tc, .int .i64 tn, .bool tf, .bool tk] 39)) (by kernel_rfl) ⟨HXd.out, HYd.out⟩ (fun hHeld => ?_)
    generalize w3.drew = V0 at *
    have HOLD := Lib.hid (show ∀ w', Below V0.heap.size V0 w' → (fun w' => Blk w' w.heap.size #[.bool a, .bool b, .bool c, .bool d, .bool s, .bool l, .bool o, .int .i64 m, .bool mn, .bool ba, .int .i64 r, tv] 26 ∧ Blk w' (w.heap.size + 1) #[.bool th, .int .i64 ti, .int .i64 tz, .bool tg, .int .i64 tl, .int .i64 ts, .bool tj, .bool tc, .int .i64 tn, .bool tf, .bool tk] 39) w' from fun _ hb => ⟨HXd.out.below hb, HYd.out.below hb⟩)
    have HVS := Lib.hid (show ∀ w', Below V0.heap.size V0 w' → Els RTk 11 w' (.slice a0 0 c0) [] from fun _ hb => HVd.out.below (fun _ _ _ h => h.below hb))
    have HE2 := Lib.hid (show ∀ w', Below V0.heap.size V0 w' → ∀ v, Els RTk 11 w' v ([] ++ [⟨th, ti, tz, tg, tl, ts, tj, tc, tn, tf, tk⟩]) → _ from fun w' _ v hv => HE1.out w' v hv)
    have HBV := Lib.hid (Below.refl V0.heap.size V0)
    clear HE1 HVd HXd HYd
    refine wpAnyH_take (i := 0) (oi := ?_) (v := ?_) ?_ (by kernel_rfl) (by kernel_rfl) (by kernel_rfl) ?_ (Or.inl ⟨?_, ?_⟩) hHeld ?_
    rotate_left 2
    · (simp only [List.getElem?_toArray, List.getElem?_cons_zero]; rfl)
    · exact (fun _ _ _ h => h)
    · rfl
    · (intro w hSw; (try dsimp only at hSw); obtain ⟨x0, x1, x2, x3, x4, x5, x6, x7, x8, x9, x10, x11⟩ := cells12 hSw.1; go_simp; try with_reducible rfl)
    (try simp only [Act.put, List.setIfInBounds_toArray, List.set_cons_zero, List.set_cons_succ])
    refine wpAnyH_take (i := 2) (oi := ?_) (v := ?_) ?_ (by kernel_rfl) (by kernel_rfl) (by kernel_rfl) ?_ (Or.inl ⟨?_, ?_⟩) hHeld ?_
    rotate_left 2
    · (simp only [List.getElem?_toArray, List.getElem?_cons_zero, List.getElem?_cons_succ]; rfl)
    · exact (fun _ _ _ h => h)
    · rfl
    · (intro w hSw; (try dsimp only at hSw); go_simp; try with_reducible rfl)
    (try simp only [Act.put, List.setIfInBounds_toArray, List.set_cons_zero, List.set_cons_succ])
    refine wpAnyH_take (i := 4) (oi := ?_) (v := ?_) ?_ (by kernel_rfl) (by kernel_rfl) (by kernel_rfl) ?_ (Or.inl ⟨?_, ?_⟩) hHeld ?_
    rotate_left 2
    · (simp only [List.getElem?_toArray, List.getElem?_cons_zero, List.getElem?_cons_succ]; rfl)
    · exact (fun _ _ _ h => h)
    · rfl
    · (intro w hSw; (try dsimp only at hSw); obtain ⟨y0, y1, y2, y3, y4, y5, y6, y7, y8, y9, y10⟩ := cells11k hSw.2; go_simp; try with_reducible rfl)
    (try simp only [Act.put, List.setIfInBounds_toArray, List.set_cons_zero, List.set_cons_succ])
    refine wpAnyH_take (i := 7) (oi := ?_) (v := ?_) ?_ (by kernel_rfl) (by kernel_rfl) (by kernel_rfl) ?_ (Or.inl ⟨?_, ?_⟩) hHeld ?_
    rotate_left 2
    · (simp only [List.getElem?_toArray, List.getElem?_cons_zero, List.getElem?_cons_succ]; rfl)
    · exact (fun _ _ _ h => h)
    · rfl
    · (intro w hSw; (try dsimp only at hSw); go_simp; try with_reducible rfl)
    (try simp only [Act.put, List.setIfInBounds_toArray, List.set_cons_zero, List.set_cons_succ])
    refine wpAnyH_take (i := 8) (oi := ?_) (v := ?_) ?_ (by kernel_rfl) (by kernel_rfl) (by kernel_rfl) ?_ (Or.inl ⟨?_, ?_⟩) hHeld ?_
    rotate_left 2
    · (simp only [List.getElem?_toArray, List.getElem?_cons_zero, List.getElem?_cons_succ]; rfl)
    · exact (fun _ _ _ h => h)
    · rfl
    · (intro w hSw; (try dsimp only at hSw); go_simp; try with_reducible rfl)
    (try simp only [Act.put, List.setIfInBounds_toArray, List.set_cons_zero, List.set_cons_succ])
    refine wpAnyH_ready (rs := [1, 5, 10]) (by kernel_rfl) (by simp) ?_
    refine AllReadyH.cons (o := ?_) ?_ (fun Kx hKx => ?_) ?_
    rotate_left
    · (simp only [List.getElem?_toArray, List.getElem?_cons_zero, List.getElem?_cons_succ]; rfl)
    · -- 1 first
      go_simp
      have hA := below_alloc (Below.refl _ V0) (.cells #[] 39)
      have HOwn := Lib.hid (ownK_lit V0 V0.heap.size HBV.out.size)
      replace HBV := Lib.hid (below_alloc HBV.out (.cells #[] 39))
      clear hA
      refine hKx.out _ _ (HOLD.out _ HBV.out) (fun hHeld => ?_)
      clear hKx Kx
      (try simp only [Act.put, List.setIfInBounds_toArray, List.set_cons_zero, List.set_cons_succ])
      generalize V0.alloc (.cells #[] 39) = V1 at *
      refine wpAnyH_ready (rs := [3, 5, 10]) (by kernel_rfl) (by simp) ?_
      refine AllReadyH.cons (o := ?_) ?_ (fun Kx hKx => ?_) ?_
      rotate_left
      · (simp only [List.getElem?_toArray, List.getElem?_cons_zero, List.getElem?_cons_succ]; rfl)
      · -- 3 first
        refine step_appK0 rfl _ _ rfl (V0.heap.size) 0 0 a0 c0 rfl (Nat.le_refl 0) rfl ?_
        refine hKx.out _ _ (HOLD.out _ HBV.out) (fun hHeld => ?_)
        clear hKx Kx
        (try simp only [Act.put, List.setIfInBounds_toArray, List.set_cons_zero, List.set_cons_succ])
        refine wpAnyH_ready (rs := [5, 10]) (by kernel_rfl) (by simp) ?_
        refine AllReadyH.cons (o := ?_) ?_ (fun Kx hKx => ?_) ?_
        rotate_left
        · (simp only [List.getElem?_toArray, List.getElem?_cons_zero, List.getElem?_cons_succ]; rfl)
        · -- 5 first
          go_simp
          have hA := below_alloc (Below.refl _ V1) (.cells #[.bool th, .int .i64 ti, .int .i64 tz, .bool tg, .int .i64 tl, .int .i64 ts, .bool tj, .bool tc, .int .i64 tn, .bool tf, .bool tk] 39)
          replace HOwn := Lib.hid (HOwn.out.below hA)
          have HLine := Lib.hid (blk_new V1 #[.bool th, .int .i64 ti, .int .i64 tz, .bool tg, .int .i64 tl, .int .i64 ts, .bool tj, .bool tc, .int .i64 tn, .bool tf, .bool tk] 39)
          replace HBV := Lib.hid (below_alloc HBV.out (.cells #[.bool th, .int .i64 ti, .int .i64 tz, .bool tg, .int .i64 tl, .int .i64 ts, .bool tj, .bool tc, .int .i64 tn, .bool tf, .bool tk] 39))
          clear hA
          refine hKx.out _ _ (HOLD.out _ HBV.out) (fun hHeld => ?_)
          clear hKx Kx
          (try simp only [Act.put, List.setIfInBounds_toArray, List.set_cons_zero, List.set_cons_succ])
          generalize V1.alloc (.cells #[.bool th, .int .i64 ti, .int .i64 tz, .bool tg, .int .i64 tl, .int .i64 ts, .bool tj, .bool tc, .int .i64 tn, .bool tf, .bool tk] 39) = V2 at *
          refine wpAnyH_ready (rs := [6, 10]) (by kernel_rfl) (by simp) ?_
          refine AllReadyH.cons (o := ?_) ?_ (fun Kx hKx => ?_) ?_
          rotate_left
          · (simp only [List.getElem?_toArray, List.getElem?_cons_zero, List.getElem?_cons_succ]; rfl)
          · -- 6 first
            refine step_appK rfl _ _ rfl V0.heap.size (.slice (some ⟨V0.heap.size, 0, none⟩) 0 0) 0 [] rfl rfl HOwn.out (V1.heap.size) 0 1 1 [⟨th, ti, tz, tg, tl, ts, tj, tc, tn, tf, tk⟩] rfl rfl (elsK_one ⟨th, ti, tz, tg, tl, ts, tj, tc, tn, tf, tk⟩ _ HLine.out) (by decide) (by omega) HBV.out.size (0 + 1) rfl ?_
            intro g6 cap6 V3 hown hb hg
            replace HOwn := Lib.hid hown
            replace HBV := Lib.hid (HBV.out.trans hb)
            clear hown hb hg HLine
            refine hKx.out _ _ (HOLD.out _ HBV.out) (fun hHeld => ?_)
            clear hKx Kx
            (try simp only [Act.put, List.setIfInBounds_toArray, List.set_cons_zero, List.set_cons_succ])
            refine wpAnyH_ready (rs := [9, 10]) (by kernel_rfl) (by simp) ?_
            refine AllReadyH.cons (o := ?_) ?_ (fun Kx hKx => ?_) ?_
            rotate_left
            · (simp only [List.getElem?_toArray, List.getElem?_cons_zero, List.getElem?_cons_succ]; rfl)
            · -- 9 first
              go_simp
              (with_reducible refine (HE2.out V3 HBV.out _ HOwn.out.els).mono ?_)
              rintro e V4 ⟨rfl, hb⟩
              replace HBV := Lib.hid (below_call HBV.out hb)
              clear hb HOwn
              go_wp2_with fail
              refine hKx.out _ _ (HOLD.out _ HBV.out) (fun hHeld => ?_)
              clear hKx Kx
              (try simp only [Act.put, List.setIfInBounds_toArray, List.set_cons_zero, List.set_cons_succ])
              refine wpAnyH_ready (rs := [10]) (by kernel_rfl) (by simp) ?_
              refine AllReadyH.cons (o := ?_) ?_ (fun Kx hKx => ?_) AllReadyH.nil
              rotate_left
              · (simp only [List.getElem?_toArray, List.getElem?_cons_zero, List.getElem?_cons_succ]; rfl)
              go_simp
              have hA := below_alloc (Below.refl _ V4) (.cells #[.bool false, .bool false] 31)
              have HZero := Lib.hid (blk_new V4 #[.bool false, .bool false] 31)
              have hZge : V0.heap.size ≤ V4.heap.size := HBV.out.size
              replace HBV := Lib.hid (below_alloc HBV.out (.cells #[.bool false, .bool false] 31))
              clear hA
              refine hKx.out _ _ (HOLD.out _ HBV.out) (fun hHeld => ?_)
              clear hKx Kx
              (try simp only [Act.put, List.setIfInBounds_toArray, List.set_cons_zero, List.set_cons_succ])
              generalize V4.alloc (.cells #[.bool false, .bool false] 31) = V5 at *
              refine wpAnyH_ready (rs := [11]) (by kernel_rfl) (by simp) ?_
              refine AllReadyH.cons (o := ?_) ?_ (fun Kx hKx => ?_) AllReadyH.nil
              rotate_left
              · (simp only [List.getElem?_toArray, List.getElem?_cons_zero, List.getElem?_cons_succ]; rfl)
              obtain ⟨z0, z1⟩ := two_cells HZero.out
              have z2 := HZero.out.frz 0
              have z3 := HZero.out.frz 1
              go_simp
              have hS := ((Keep.refl (fun x => x = V4.heap.size) V5).store (V4.heap.size) 0 (.bool q2) rfl).store (V4.heap.size) 1 (.bool u2) rfl
              have HEnd := Lib.hid (set2_ HZero.out (.bool q2) (.bool u2))
              replace HBV := Lib.hid (below_keep HBV.out hS (fun g e => by rw [e]; exact hZge))
              clear z0 z1 z2 z3 HZero hS
              refine hKx.out _ _ (HOLD.out _ HBV.out) (fun hHeld => ?_)
              clear hKx Kx
              (try simp only [Act.put, List.setIfInBounds_toArray, List.set_cons_zero, List.set_cons_succ])
              refine wpAnyH_done (by kernel_rfl) ?_ _
              go_wp2_with fail
              go_meet
              exact ⟨V4.heap.size, rfl, HEnd, Lib.hid (HB3.out.trans (HBV.out.mono HB3.out.size))⟩
            · refine AllReadyH.cons (o := ?_) ?_ (fun Kx hKx => ?_) AllReadyH.nil
              rotate_left
              · (simp only [List.getElem?_toArray, List.getElem?_cons_zero, List.getElem?_cons_succ]; rfl)
              go_simp
              have hA := below_alloc (Below.refl _ V3) (.cells #[.bool false, .bool false] 31)
              replace HOwn := Lib.hid (HOwn.out.below hA)
              have HZero := Lib.hid (blk_new V3 #[.bool false, .bool false] 31)
              have hZge : V0.heap.size ≤ V3.heap.size := HBV.out.size
              replace HBV := Lib.hid (below_alloc HBV.out (.cells #[.bool false, .bool false] 31))
              clear hA
              refine hKx.out _ _ (HOLD.out _ HBV.out) (fun hHeld => ?_)
              clear hKx Kx
              (try simp only [Act.put, List.setIfInBounds_toArray, List.set_cons_zero, List.set_cons_succ])
              generalize V3.alloc (.cells #[.bool false, .bool false] 31) = V4 at *
              refine wpAnyH_ready (rs := [9]) (by kernel_rfl) (by simp) ?_
              refine AllReadyH.cons (o := ?_) ?_ (fun Kx hKx => ?_) AllReadyH.nil
              rotate_left
              · (simp only [List.getElem?_toArray, List.getElem?_cons_zero, List.getElem?_cons_succ]; rfl)
              go_simp
              (with_reducible refine (HE2.out V4 HBV.out _ HOwn.out.els).mono ?_)
              rintro e V5 ⟨rfl, hb⟩
              replace HZero := Lib.hid (HZero.out.below hb)
              replace HBV := Lib.hid (below_call HBV.out hb)
              clear hb HOwn
              go_wp2_with fail
              refine hKx.out _ _ (HOLD.out _ HBV.out) (fun hHeld => ?_)
              clear hKx Kx
              (try simp only [Act.put, List.setIfInBounds_toArray, List.set_cons_zero, List.set_cons_succ])
              refine wpAnyH_ready (rs := [11]) (by kernel_rfl) (by simp) ?_
              refine AllReadyH.cons (o := ?_) ?_ (fun Kx hKx => ?_) AllReadyH.nil
              rotate_left
              · (simp only [List.getElem?_toArray, List.getElem?_cons_zero, List.getElem?_cons_succ]; rfl)
              obtain ⟨z0, z1⟩ := two_cells HZero.out
              have z2 := HZero.out.frz 0
              have z3 := HZero.out.frz 1
              go_simp
              have hS := ((Keep.refl (fun x => x = V3.heap.size) V5).store (V3.heap.size) 0 (.bool q2) rfl).store (V3.heap.size) 1 (.bool u2) rfl
              have HEnd := Lib.hid (set2_ HZero.out (.bool q2) (.bool u2))
              replace HBV := Lib.hid (below_keep HBV.out hS (fun g e => by rw [e]; exact hZge))
              clear z0 z1 z2 z3 HZero hS
              refine hKx.out _ _ (HOLD.out _ HBV.out) (fun hHeld => ?_)
              clear hKx Kx
              (try simp only [Act.put, List.setIfInBounds_toArray, List.set_cons_zero, List.set_cons_succ])
              refine wpAnyH_done (by kernel_rfl) ?_ _
              go_wp2_with fail
              go_meet
              exact ⟨V3.heap.size, rfl, HEnd, Lib.hid (HB3.out.trans (HBV.out.mono HB3.out.size))⟩
          · refine AllReadyH.cons (o := ?_) ?_ (fun Kx hKx => ?_) AllReadyH.nil
            rotate_left
            · (simp only [List.getElem?_toArray, List.getElem?_cons_zero, List.getElem?_cons_succ]; rfl)
            go_simp
            have hA := below_alloc (Below.refl _ V2) (.cells #[.bool false, .bool false] 31)
            replace HOwn := Lib.hid (HOwn.out.below hA)
            replace HLine := Lib.hid (HLine.out.below hA)
            have HZero := Lib.hid (blk_new V2 #[.bool false, .bool false] 31)
            have hZge : V0.heap.size ≤ V2.heap.size := HBV.out.size
            replace HBV := Lib.hid (below_alloc HBV.out (.cells #[.bool false, .bool false] 31))
            clear hA
            refine hKx.out _ _ (HOLD.out _ HBV.out) (fun hHeld => ?_)
            clear hKx Kx
            (try simp only [Act.put, List.setIfInBounds_toArray, List.set_cons_zero, List.set_cons_succ])
            generalize V2.alloc (.cells #[.bool false, .bool false] 31) = V3 at *
            refine wpAnyH_ready (rs := [6]) (by kernel_rfl) (by simp) ?_
            refine AllReadyH.cons (o := ?_) ?_ (fun Kx hKx => ?_) AllReadyH.nil
            rotate_left
            · (simp only [List.getElem?_toArray, List.getElem?_cons_zero, List.getElem?_cons_succ]; rfl)
            refine step_appK rfl _ _ rfl V0.heap.size (.slice (some ⟨V0.heap.size, 0, none⟩) 0 0) 0 [] rfl rfl HOwn.out (V1.heap.size) 0 1 1 [⟨th, ti, tz, tg, tl, ts, tj, tc, tn, tf, tk⟩] rfl rfl (elsK_one ⟨th, ti, tz, tg, tl, ts, tj, tc, tn, tf, tk⟩ _ HLine.out) (by decide) (by omega) HBV.out.size (0 + 1) rfl ?_
            intro g6 cap6 V4 hown hb hg
            have hF := Keep.grown (F := fun x => x = V0.heap.size) hg (fun g e => (Option.some.inj e).symm)
            have hne := HOwn.out.ne HZero.out (by decide)
            replace HZero := Lib.hid (HZero.out.keep hF (fun e => hne (by rw [e]; rfl)))
            clear hne hF
            replace HOwn := Lib.hid hown
            replace HBV := Lib.hid (HBV.out.trans hb)
            clear hown hb hg HLine
            refine hKx.out _ _ (HOLD.out _ HBV.out) (fun hHeld => ?_)
            clear hKx Kx
            (try simp only [Act.put, List.setIfInBounds_toArray, List.set_cons_zero, List.set_cons_succ])
            refine wpAnyH_ready (rs := [9]) (by kernel_rfl) (by simp) ?_
            refine AllReadyH.cons (o := ?_) ?_ (fun Kx hKx => ?_) AllReadyH.nil
            rotate_left
            · (simp only [List.getElem?_toArray, List.getElem?_cons_zero, List.getElem?_cons_succ]; rfl)
            go_simp
            (with_reducible refine (HE2.out V4 HBV.out _ HOwn.out.els).mono ?_)
            rintro e V5 ⟨rfl, hb⟩
            replace HZero := Lib.hid (HZero.out.below hb)
            replace HBV := Lib.hid (below_call HBV.out hb)
            clear hb HOwn
            go_wp2_with fail
            refine hKx.out _ _ (HOLD.out _ HBV.out) (fun hHeld => ?_)
            clear hKx Kx
            (try simp only [Act.put, List.setIfInBounds_toArray, List.set_cons_zero, List.set_cons_succ])
            refine wpAnyH_ready (rs := [11]) (by kernel_rfl) (by simp) ?_
            refine AllReadyH.cons (o := ?_) ?_ (fun Kx hKx => ?_) AllReadyH.nil
            rotate_left
            · (simp only [List.getElem?_toArray, List.getElem?_cons_zero, List.getElem?_cons_succ]; rfl)
            obtain ⟨z0, z1⟩ := two_cells HZero.out
            have z2 := HZero.out.frz 0
            have z3 := HZero.out.frz 1
            go_simp
            have hS := ((Keep.refl (fun x => x = V2.heap.size) V5).store (V2.heap.size) 0 (.bool q2) rfl).store (V2.heap.size) 1 (.bool u2) rfl
            have HEnd := Lib.hid (set2_ HZero.out (.bool q2) (.bool u2))
            replace HBV := Lib.hid (below_keep HBV.out hS (fun g e => by rw [e]; exact hZge))
            clear z0 z1 z2 z3 HZero hS
            refine hKx.out _ _ (HOLD.out _ HBV.out) (fun hHeld => ?_)
            clear hKx Kx
            (try simp only [Act.put, List.setIfInBounds_toArray, List.set_cons_zero, List.set_cons_succ])
            refine wpAnyH_done (by kernel_rfl) ?_ _
            go_wp2_with fail
            go_meet
            exact ⟨V2.heap.size, rfl, HEnd, Lib.hid (HB3.out.trans (HBV.out.mono HB3.out.size))⟩
        · refine AllReadyH.cons (o := ?_) ?_ (fun Kx hKx => ?_) AllReadyH.nil
          rotate_left
          · (simp only [List.getElem?_toArray, List.getElem?_cons_zero, List.getElem?_cons_succ]; rfl)
          go_simp
          have hA := below_alloc (Below.refl _ V1) (.cells #[.bool false, .bool false] 31)
          replace HOwn := Lib.hid (HOwn.out.below hA)
          have HZero := Lib.hid (blk_new V1 #[.bool false, .bool false] 31)
          have hZge : V0.heap.size ≤ V1.heap.size := HBV.out.size
          replace HBV := Lib.hid (below_alloc HBV.out (.cells #[.bool false, .bool false] 31))
          clear hA
          refine hKx.out _ _ (HOLD.out _ HBV.out) (fun hHeld => ?_)
          clear hKx Kx
          (try simp only [Act.put, List.setIfInBounds_toArray, List.set_cons_zero, List.set_cons_succ])
          generalize V1.alloc (.cells #[.bool false, .bool false] 31) = V2 at *
          refine wpAnyH_ready (rs := [5]) (by kernel_rfl) (by simp) ?_
          refine AllReadyH.cons (o := ?_) ?_ (fun Kx hKx => ?_) AllReadyH.nil
          rotate_left
          · (simp only [List.getElem?_toArray, List.getElem?_cons_zero, List.getElem?_cons_succ]; rfl)
          go_simp
          have hA := below_alloc (Below.refl _ V2) (.cells #[.bool th, .int .i64 ti, .int .i64 tz, .bool tg, .int .i64 tl, .int .i64 ts, .bool tj, .bool tc, .int .i64 tn, .bool tf, .bool tk] 39)
          replace HOwn := Lib.hid (HOwn.out.below hA)
          replace HZero := Lib.hid (HZero.out.below hA)
          have HLine := Lib.hid (blk_new V2 #[.bool th, .int .i64 ti, .int .i64 tz, .bool tg, .int .i64 tl, .int .i64 ts, .bool tj, .bool tc, .int .i64 tn, .bool tf, .bool tk] 39)
          replace HBV := Lib.hid (below_alloc HBV.out (.cells #[.bool th, .int .i64 ti, .int .i64 tz, .bool tg, .int .i64 tl, .int .i64 ts, .bool tj, .bool tc, .int .i64 tn, .bool tf, .bool tk] 39))
          clear hA
          refine hKx.out _ _ (HOLD.out _ HBV.out) (fun hHeld => ?_)
          clear hKx Kx
          (try simp only [Act.put, List.setIfInBounds_toArray, List.set_cons_zero, List.set_cons_succ])
          generalize V2.alloc (.cells #[.bool th, .int .i64 ti, .int .i64 tz, .bool tg, .int .i64 tl, .int .i64 ts, .bool tj, .bool tc, .int .i64 tn, .bool tf, .bool tk] 39) = V3 at *
          refine wpAnyH_ready (rs := [6]) (by kernel_rfl) (by simp) ?_
          refine AllReadyH.cons (o := ?_) ?_ (fun Kx hKx => ?_) AllReadyH.nil
          rotate_left
          · (simp only [List.getElem?_toArray, List.getElem?_cons_zero, List.getElem?_cons_succ]; rfl)
          refine step_appK rfl _ _ rfl V0.heap.size (.slice (some ⟨V0.heap.size, 0, none⟩) 0 0) 0 [] rfl rfl HOwn.out (V2.heap.size) 0 1 1 [⟨th, ti, tz, tg, tl, ts, tj, tc, tn, tf, tk⟩] rfl rfl (elsK_one ⟨th, ti, tz, tg, tl, ts, tj, tc, tn, tf, tk⟩ _ HLine.out) (by decide) (by omega) HBV.out.size (0 + 1) rfl ?_
          intro g6 cap6 V4 hown hb hg
          have hF := Keep.grown (F := fun x => x = V0.heap.size) hg (fun g e => (Option.some.inj e).symm)
          have hne := HOwn.out.ne HZero.out (by decide)
          replace HZero := Lib.hid (HZero.out.keep hF (fun e => hne (by rw [e]; rfl)))
          clear hne hF
          replace HOwn := Lib.hid hown
          replace HBV := Lib.hid (HBV.out.trans hb)
          clear hown hb hg HLine
          refine hKx.out _ _ (HOLD.out _ HBV.out) (fun hHeld => ?_)
          clear hKx Kx
          (try simp only [Act.put, List.setIfInBounds_toArray, List.set_cons_zero, List.set_cons_succ])
          refine wpAnyH_ready (rs := [9]) (by kernel_rfl) (by simp) ?_
          refine AllReadyH.cons (o := ?_) ?_ (fun Kx hKx => ?_) AllReadyH.nil
          rotate_left
          · (simp only [List.getElem?_toArray, List.getElem?_cons_zero, List.getElem?_cons_succ]; rfl)
          go_simp
          (with_reducible refine (HE2.out V4 HBV.out _ HOwn.out.els).mono ?_)
          rintro e V5 ⟨rfl, hb⟩
          replace HZero := Lib.hid (HZero.out.below hb)
          replace HBV := Lib.hid (below_call HBV.out hb)
          clear hb HOwn
          go_wp2_with fail
          refine hKx.out _ _ (HOLD.out _ HBV.out) (fun hHeld => ?_)
          clear hKx Kx
          (try simp only [Act.put, List.setIfInBounds_toArray, List.set_cons_zero, List.set_cons_succ])
          refine wpAnyH_ready (rs := [11]) (by kernel_rfl) (by simp) ?_
          refine AllReadyH.cons (o := ?_) ?_ (fun Kx hKx => ?_) AllReadyH.nil
          rotate_left
          · (simp only [List.getElem?_toArray, List.getElem?_cons_zero, List.getElem?_cons_succ]; rfl)
          obtain ⟨z0, z1⟩ := two_cells HZero.out
          have z2 := HZero.out.frz 0
          have z3 := HZero.out.frz 1
          go_simp
          have hS := ((Keep.refl (fun x => x = V1.heap.size) V5).store (V1.heap.size) 0 (.bool q2) rfl).store (V1.heap.size) 1 (.bool u2) rfl
          have HEnd := Lib.hid (set2_ HZero.out (.bool q2) (.bool u2))
          replace HBV := Lib.hid (below_keep HBV.out hS (fun g e => by rw [e]; exact hZge))
          clear z0 z1 z2 z3 HZero hS
          refine hKx.out _ _ (HOLD.out _ HBV.out) (fun hHeld => ?_)
          clear hKx Kx
          (try simp only [Act.put, List.setIfInBounds_toArray, List.set_cons_zero, List.set_cons_succ])
          refine wpAnyH_done (by kernel_rfl) ?_ _
          go_wp2_with fail
          go_meet
          exact ⟨V1.heap.size, rfl, HEnd, Lib.hid (HB3.out.trans (HBV.out.mono HB3.out.size))⟩
      · refine AllReadyH.cons (o := ?_) ?_ (fun Kx hKx => ?_) ?_
        rotate_left
        · (simp only [List.getElem?_toArray, List.getElem?_cons_zero, List.getElem?_cons_succ]; rfl)
        · -- 5 first
          go_simp
          have hA := below_alloc (Below.refl _ V1) (.cells #[.bool th, .int .i64 ti, .int .i64 tz, .bool tg, .int .i64 tl, .int .i64 ts, .bool tj, .bool tc, .int .i64 tn, .bool tf, .bool tk] 39)
          replace HOwn := Lib.hid (HOwn.out.below hA)
          have HLine := Lib.hid (blk_new V1 #[.bool th, .int .i64 ti, .int .i64 tz, .bool tg, .int .i64 tl, .int .i64 ts, .bool tj, .bool tc, .int .i64 tn, .bool tf, .bool tk] 39)
          replace HBV := Lib.hid (below_alloc HBV.out (.cells #[.bool th, .int .i64 ti, .int .i64 tz, .bool tg, .int .i64 tl, .int .i64 ts, .bool tj, .bool tc, .int .i64 tn, .bool tf, .bool tk] 39))
          clear hA
          refine hKx.out _ _ (HOLD.out _ HBV.out) (fun hHeld => ?_)
          clear hKx Kx
          (try simp only [Act.put, List.setIfInBounds_toArray, List.set_cons_zero, List.set_cons_succ])
          generalize V1.alloc (.cells #[.bool th, .int .i64 ti, .int .i64 tz, .bool tg, .int .i64 tl, .int .i64 ts, .bool tj, .bool tc, .int .i64 tn, .bool tf, .bool tk] 39) = V2 at *
          refine wpAnyH_ready (rs := [3, 10]) (by kernel_rfl) (by simp) ?_
          refine AllReadyH.cons (o := ?_) ?_ (fun Kx hKx => ?_) ?_
          rotate_left
          · (simp only [List.getElem?_toArray, List.getElem?_cons_zero, List.getElem?_cons_succ]; rfl)
          · -- 3 first
            refine step_appK0 rfl _ _ rfl (V0.heap.size) 0 0 a0 c0 rfl (Nat.le_refl 0) rfl ?_
            refine hKx.out _ _ (HOLD.out _ HBV.out) (fun hHeld => ?_)
            clear hKx Kx
            (try simp only [Act.put, List.setIfInBounds_toArray, List.set_cons_zero, List.set_cons_succ])
            refine wpAnyH_ready (rs := [6, 10]) (by kernel_rfl) (by simp) ?_
            refine AllReadyH.cons (o := ?_) ?_ (fun Kx hKx => ?_) ?_
            rotate_left
            · (simp only [List.getElem?_toArray, List.getElem?_cons_zero, List.getElem?_cons_succ]; rfl)
            · -- 6 first
              refine step_appK rfl _ _ rfl V0.heap.size (.slice (some ⟨V0.heap.size, 0, none⟩) 0 0) 0 [] rfl rfl HOwn.out (V1.heap.size) 0 1 1 [⟨th, ti, tz, tg, tl, ts, tj, tc, tn, tf, tk⟩] rfl rfl (elsK_one ⟨th, ti, tz, tg, tl, ts, tj, tc, tn, tf, tk⟩ _ HLine.out) (by decide) (by omega) HBV.out.size (0 + 1) rfl ?_
              intro g6 cap6 V3 hown hb hg
              replace HOwn := Lib.hid hown
              replace HBV := Lib.hid (HBV.out.trans hb)
              clear hown hb hg HLine
              refine hKx.out _ _ (HOLD.out _ HBV.out) (fun hHeld => ?_)
              clear hKx Kx
              (try simp only [Act.put, List.setIfInBounds_toArray, List.set_cons_zero, List.set_cons_succ])
              refine wpAnyH_ready (rs := [9, 10]) (by kernel_rfl) (by simp) ?_
              refine AllReadyH.cons (o := ?_) ?_ (fun Kx hKx => ?_) ?_
              rotate_left
              · (simp only [List.getElem?_toArray, List.getElem?_cons_zero, List.getElem?_cons_succ]; rfl)
              · -- 9 first
                go_simp
                (with_reducible refine (HE2.out V3 HBV.out _ HOwn.out.els).mono ?_)
                rintro e V4 ⟨rfl, hb⟩
                replace HBV := Lib.hid (below_call HBV.out hb)
                clear hb HOwn
                go_wp2_with fail
                refine hKx.out _ _ (HOLD.out _ HBV.out) (fun hHeld => ?_)
                clear hKx Kx
                (try simp only [Act.put, List.setIfInBounds_toArray, List.set_cons_zero, List.set_cons_succ])
                refine wpAnyH_ready (rs := [10]) (by kernel_rfl) (by simp) ?_
                refine AllReadyH.cons (o := ?_) ?_ (fun Kx hKx => ?_) AllReadyH.nil
                rotate_left
                · (simp only [List.getElem?_toArray, List.getElem?_cons_zero, List.getElem?_cons_succ]; rfl)
                go_simp
                have hA := below_alloc (Below.refl _ V4) (.cells #[.bool false, .bool false] 31)
                have HZero := Lib.hid (blk_new V4 #[.bool false, .bool false] 31)
                have hZge : V0.heap.size ≤ V4.heap.size := HBV.out.size
                replace HBV := Lib.hid (below_alloc HBV.out (.cells #[.bool false, .bool false] 31))
                clear hA
                refine hKx.out _ _ (HOLD.out _ HBV.out) (fun hHeld => ?_)
                clear hKx Kx
                (try simp only [Act.put, List.setIfInBounds_toArray, List.set_cons_zero, List.set_cons_succ])
                generalize V4.alloc (.cells #[.bool false, .bool false] 31) = V5 at *
                refine wpAnyH_ready (rs := [11]) (by kernel_rfl) (by simp) ?_
                refine AllReadyH.cons (o := ?_) ?_ (fun Kx hKx => ?_) AllReadyH.nil
                rotate_left
                · (simp only [List.getElem?_toArray, List.getElem?_cons_zero, List.getElem?_cons_succ]; rfl)
                obtain ⟨z0, z1⟩ := two_cells HZero.out
                have z2 := HZero.out.frz 0
                have z3 := HZero.out.frz 1
                go_simp
                have hS := ((Keep.refl (fun x => x = V4.heap.size) V5).store (V4.heap.size) 0 (.bool q2) rfl).store (V4.heap.size) 1 (.bool u2) rfl
                have HEnd := Lib.hid (set2_ HZero.out (.bool q2) (.bool u2))
                replace HBV := Lib.hid (below_keep HBV.out hS (fun g e => by rw [e]; exact hZge))
                clear z0 z1 z2 z3 HZero hS
                refine hKx.out _ _ (HOLD.out _ HBV.out) (fun hHeld => ?_)
                clear hKx Kx
                (try simp only [Act.put, List.setIfInBounds_toArray, List.set_cons_zero, List.set_cons_succ])
                refine wpAnyH_done (by kernel_rfl) ?_ _
                go_wp2_with fail
                go_meet
                exact ⟨V4.heap.size, rfl, HEnd, Lib.hid (HB3.out.trans (HBV.out.mono HB3.out.size))⟩
              · refine AllReadyH.cons (o := ?_) ?_ (fun Kx hKx => ?_) AllReadyH.nil
                rotate_left
                · (simp only [List.getElem?_toArray, List.getElem?_cons_zero, List.getElem?_cons_succ]; rfl)
                go_simp
                have hA := below_alloc (Below.refl _ V3) (.cells #[.bool false, .bool false] 31)
                replace HOwn := Lib.hid (HOwn.out.below hA)
                have HZero := Lib.hid (blk_new V3 #[.bool false, .bool false] 31)
                have hZge : V0.heap.size ≤ V3.heap.size := HBV.out.size
                replace HBV := Lib.hid (below_alloc HBV.out (.cells #[.bool false, .bool false] 31))
                clear hA
                refine hKx.out _ _ (HOLD.out _ HBV.out) (fun hHeld => ?_)
                clear hKx Kx
                (try simp only [Act.put, List.setIfInBounds_toArray, List.set_cons_zero, List.set_cons_succ])
                generalize V3.alloc (.cells #[.bool false, .bool false] 31) = V4 at *
                refine wpAnyH_ready (rs := [9]) (by kernel_rfl) (by simp) ?_
                refine AllReadyH.cons (o := ?_) ?_ (fun Kx hKx => ?_) AllReadyH.nil
                rotate_left
                · (simp only [List.getElem?_toArray, List.getElem?_cons_zero, List.getElem?_cons_succ]; rfl)
                go_simp
                (with_reducible refine (HE2.out V4 HBV.out _ HOwn.out.els).mono ?_)
                rintro e V5 ⟨rfl, hb⟩
                replace HZero := Lib.hid (HZero.out.below hb)
                replace HBV := Lib.hid (below_call HBV.out hb)
                clear hb HOwn
                go_wp2_with fail
                refine hKx.out _ _ (HOLD.out _ HBV.out) (fun hHeld => ?_)
                clear hKx Kx
                (try simp only [Act.put, List.setIfInBounds_toArray, List.set_cons_zero, List.set_cons_succ])
                refine wpAnyH_ready (rs := [11]) (by kernel_rfl) (by simp) ?_
                refine AllReadyH.cons (o := ?_) ?_ (fun Kx hKx => ?_) AllReadyH.nil
                rotate_left
                · (simp only [List.getElem?_toArray, List.getElem?_cons_zero, List.getElem?_cons_succ]; rfl)
                obtain ⟨z0, z1⟩ := two_cells HZero.out
                have z2 := HZero.out.frz 0
                have z3 := HZero.out.frz 1
                go_simp
                have hS := ((Keep.refl (fun x => x = V3.heap.size) V5).store (V3.heap.size) 0 (.bool q2) rfl).store (V3.heap.size) 1 (.bool u2) rfl
                have HEnd := Lib.hid (set2_ HZero.out (.bool q2) (.bool u2))
                replace HBV := Lib.hid (below_keep HBV.out hS (fun g e => by rw [e]; exact hZge))
                clear z0 z1 z2 z3 HZero hS
                refine hKx.out _ _ (HOLD.out _ HBV.out) (fun hHeld => ?_)
                clear hKx Kx
                (try simp only [Act.put, List.setIfInBounds_toArray, List.set_cons_zero, List.set_cons_succ])
                refine wpAnyH_done (by kernel_rfl) ?_ _
                go_wp2_with fail
                go_meet
                exact ⟨V3.heap.size, rfl, HEnd, Lib.hid (HB3.out.trans (HBV.out.mono HB3.out.size))⟩
            · refine AllReadyH.cons (o := ?_) ?_ (fun Kx hKx => ?_) AllReadyH.nil
              rotate_left
              · (simp only [List.getElem?_toArray, List.getElem?_cons_zero, List.getElem?_cons_succ]; rfl)
              go_simp
              have hA := below_alloc (Below.refl _ V2) (.cells #[.bool false, .bool false] 31)
              replace HOwn := Lib.hid (HOwn.out.below hA)
              replace HLine := Lib.hid (HLine.out.below hA)
              have HZero := Lib.hid (blk_new V2 #[.bool false, .bool false] 31)
              have hZge : V0.heap.size ≤ V2.heap.size := HBV.out.size
              replace HBV := Lib.hid (below_alloc HBV.out (.cells #[.bool false, .bool false] 31))
              clear hA
              refine hKx.out _ _ (HOLD.out _ HBV.out) (fun hHeld => ?_)
              clear hKx Kx
              (try simp only [Act.put, List.setIfInBounds_toArray, List.set_cons_zero, List.set_cons_succ])
              generalize V2.alloc (.cells #[.bool false, .bool false] 31) = V3 at *
              refine wpAnyH_ready (rs := [6]) (by kernel_rfl) (by simp) ?_
              refine AllReadyH.cons (o := ?_) ?_ (fun Kx hKx => ?_) AllReadyH.nil
              rotate_left
              · (simp only [List.getElem?_toArray, List.getElem?_cons_zero, List.getElem?_cons_succ]; rfl)
              refine step_appK rfl _ _ rfl V0.heap.size (.slice (some ⟨V0.heap.size, 0, none⟩) 0 0) 0 [] rfl rfl HOwn.out (V1.heap.size) 0 1 1 [⟨th, ti, tz, tg, tl, ts, tj, tc, tn, tf, tk⟩] rfl rfl (elsK_one ⟨th, ti, tz, tg, tl, ts, tj, tc, tn, tf, tk⟩ _ HLine.out) (by decide) (by omega) HBV.out.size (0 + 1) rfl ?_
              intro g6 cap6 V4 hown hb hg
              have hF := Keep.grown (F := fun x => x = V0.heap.size) hg (fun g e => (Option.some.inj e).symm)
              have hne := HOwn.out.ne HZero.out (by decide)
              replace HZero := Lib.hid (HZero.out.keep hF (fun e => hne (by rw [e]; rfl)))
              clear hne hF
              replace HOwn := Lib.hid hown
              replace HBV := Lib.hid (HBV.out.trans hb)
              clear hown hb hg HLine
              refine hKx.out _ _ (HOLD.out _ HBV.out) (fun hHeld => ?_)
              clear hKx Kx
              (try simp only [Act.put, List.setIfInBounds_toArray, List.set_cons_zero, List.set_cons_succ])
              refine wpAnyH_ready (rs := [9]) (by kernel_rfl) (by simp) ?_
              refine AllReadyH.cons (o := ?_) ?_ (fun Kx hKx => ?_) AllReadyH.nil
              rotate_left
              · (simp only [List.getElem?_toArray, List.getElem?_cons_zero, List.getElem?_cons_succ]; rfl)
              go_simp
              (with_reducible refine (HE2.out V4 HBV.out _ HOwn.out.els).mono ?_)
              rintro e V5 ⟨rfl, hb⟩
              replace HZero := Lib.hid (HZero.out.below hb)
              replace HBV := Lib.hid (below_call HBV.out hb)
              clear hb HOwn
              go_wp2_with fail
              refine hKx.out _ _ (HOLD.out _ HBV.out) (fun hHeld => ?_)
              clear hKx Kx
              (try simp only [Act.put, List.setIfInBounds_toArray, List.set_cons_zero, List.set_cons_succ])
              refine wpAnyH_ready (rs := [11]) (by kernel_rfl) (by simp) ?_
              refine AllReadyH.cons (o := ?_) ?_ (fun Kx hKx => ?_) AllReadyH.nil
              rotate_left
              · (simp only [List.getElem?_toArray, List.getElem?_cons_zero, List.getElem?_cons_succ]; rfl)
              obtain ⟨z0, z1⟩ := two_cells HZero.out
              have z2 := HZero.out.frz 0
              have z3 := HZero.out.frz 1
              go_simp
              have hS := ((Keep.refl (fun x => x = V2.heap.size) V5).store (V2.heap.size) 0 (.bool q2) rfl).store (V2.heap.size) 1 (.bool u2) rfl
              have HEnd := Lib.hid (set2_ HZero.out (.bool q2) (.bool u2))
              replace HBV := Lib.hid (below_keep HBV.out hS (fun g e => by rw [e]; exact hZge))
              clear z0 z1 z2 z3 HZero hS
              refine hKx.out _ _ (HOLD.out _ HBV.out) (fun hHeld => ?_)
              clear hKx Kx
              (try simp only [Act.put, List.setIfInBounds_toArray, List.set_cons_zero, List.set_cons_succ])
              refine wpAnyH_done (by kernel_rfl) ?_ _
              go_wp2_with fail
              go_meet
              exact ⟨V2.heap.size, rfl, HEnd, Lib.hid (HB3.out.trans (HBV.out.mono HB3.out.size))⟩
          · refine AllReadyH.cons (o := ?_) ?_ (fun Kx hKx => ?_) AllReadyH.nil
            rotate_left
            · (simp only [List.getElem?_toArray, List.getElem?_cons_zero, List.getElem?_cons_succ]; rfl)
            go_simp
            have hA := below_alloc (Below.refl _ V2) (.cells #[.bool false, .bool false] 31)
            replace HOwn := Lib.hid (HOwn.out.below hA)
            replace HLine := Lib.hid (HLine.out.below hA)
            have HZero := Lib.hid (blk_new V2 #[.bool false, .bool false] 31)
            have hZge : V0.heap.size ≤ V2.heap.size := HBV.out.size
            replace HBV := Lib.hid (below_alloc HBV.out (.cells #[.bool false, .bool false] 31))
            clear hA
            refine hKx.out _ _ (HOLD.out _ HBV.out) (fun hHeld => ?_)
            clear hKx Kx
            (try simp only [Act.put, List.setIfInBounds_toArray, List.set_cons_zero, List.set_cons_succ])
            generalize V2.alloc (.cells #[.bool false, .bool false] 31) = V3 at *
            refine wpAnyH_ready (rs := [3]) (by kernel_rfl) (by simp) ?_
            refine AllReadyH.cons (o := ?_) ?_ (fun Kx hKx => ?_) AllReadyH.nil
            rotate_left
            · (simp only [List.getElem?_toArray, List.getElem?_cons_zero, List.getElem?_cons_succ]; rfl)
            refine step_appK0 rfl _ _ rfl (V0.heap.size) 0 0 a0 c0 rfl (Nat.le_refl 0) rfl ?_
            refine hKx.out _ _ (HOLD.out _ HBV.out) (fun hHeld => ?_)
            clear hKx Kx
            (try simp only [Act.put, List.setIfInBounds_toArray, List.set_cons_zero, List.set_cons_succ])
            refine wpAnyH_ready (rs := [6]) (by kernel_rfl) (by simp) ?_
            refine AllReadyH.cons (o := ?_) ?_ (fun Kx hKx => ?_) AllReadyH.nil
            rotate_left
            · (simp only [List.getElem?_toArray, List.getElem?_cons_zero, List.getElem?_cons_succ]; rfl)
            refine step_appK rfl _ _ rfl V0.heap.size (.slice (some ⟨V0.heap.size, 0, none⟩) 0 0) 0 [] rfl rfl HOwn.out (V1.heap.size) 0 1 1 [⟨th, ti, tz, tg, tl, ts, tj, tc, tn, tf, tk⟩] rfl rfl (elsK_one ⟨th, ti, tz, tg, tl, ts, tj, tc, tn, tf, tk⟩ _ HLine.out) (by decide) (by omega) HBV.out.size (0 + 1) rfl ?_
            intro g6 cap6 V4 hown hb hg
            have hF := Keep.grown (F := fun x => x = V0.heap.size) hg (fun g e => (Option.some.inj e).symm)
            have hne := HOwn.out.ne HZero.out (by decide)
            replace HZero := Lib.hid (HZero.out.keep hF (fun e => hne (by rw [e]; rfl)))
            clear hne hF
            replace HOwn := Lib.hid hown
            replace HBV := Lib.hid (HBV.out.trans hb)
            clear hown hb hg HLine
            refine hKx.out _ _ (HOLD.out _ HBV.out) (fun hHeld => ?_)
            clear hKx Kx
            (try simp only [Act.put, List.setIfInBounds_toArray, List.set_cons_zero, List.set_cons_succ])
            refine wpAnyH_ready (rs := [9]) (by kernel_rfl) (by simp) ?_
            refine AllReadyH.cons (o := ?_) ?_ (fun Kx hKx => ?_) AllReadyH.nil
            rotate_left
            · (simp only [List.getElem?_toArray, List.getElem?_cons_zero, List.getElem?_cons_succ]; rfl)
            go_simp
            (with_reducible refine (HE2.out V4 HBV.out _ HOwn.out.els).mono ?_)
            rintro e V5 ⟨rfl, hb⟩
            replace HZero := Lib.hid (HZero.out.below hb)
            replace HBV := Lib.hid (below_call HBV.out hb)
            clear hb HOwn
            go_wp2_with fail
            refine hKx.out _ _ (HOLD.out _ HBV.out) (fun hHeld => ?_)
            clear hKx Kx
            (try simp only [Act.put, List.setIfInBounds_toArray, List.set_cons_zero, List.set_cons_succ])
            refine wpAnyH_ready (rs := [11]) (by kernel_rfl) (by simp) ?_
            refine AllReadyH.cons (o := ?_) ?_ (fun Kx hKx => ?_) AllReadyH.nil
            rotate_left
            · (simp only [List.getElem?_toArray, List.getElem?_cons_zero, List.getElem?_cons_succ]; rfl)
            obtain ⟨z0, z1⟩ := two_cells HZero.out
            have z2 := HZero.out.frz 0
            have z3 := HZero.out.frz 1
            go_simp
            have hS := ((Keep.refl (fun x => x = V2.heap.size) V5).store (V2.heap.size) 0 (.bool q2) rfl).store (V2.heap.size) 1 (.bool u2) rfl
            have HEnd := Lib.hid (set2_ HZero.out (.bool q2) (.bool u2))
            replace HBV := Lib.hid (below_keep HBV.out hS (fun g e => by rw [e]; exact hZge))
            clear z0 z1 z2 z3 HZero hS
            refine hKx.out _ _ (HOLD.out _ HBV.out) (fun hHeld => ?_)
            clear hKx Kx
            (try simp only [Act.put, List.setIfInBounds_toArray, List.set_cons_zero, List.set_cons_succ])
            refine wpAnyH_done (by kernel_rfl) ?_ _
            go_wp2_with fail
            go_meet
            exact ⟨V2.heap.size, rfl, HEnd, Lib.hid (HB3.out.trans (HBV.out.mono HB3.out.size))⟩
        · refine AllReadyH.cons (o := ?_) ?_ (fun Kx hKx => ?_) AllReadyH.nil
          rotate_left
          · (simp only [List.getElem?_toArray, List.getElem?_cons_zero, List.getElem?_cons_succ]; rfl)
          go_simp
          have hA := below_alloc (Below.refl _ V1) (.cells #[.bool false, .bool false] 31)
          replace HOwn := Lib.hid (HOwn.out.below hA)
          have HZero := Lib.hid (blk_new V1 #[.bool false, .bool false] 31)
          have hZge : V0.heap.size ≤ V1.heap.size := HBV.out.size
          replace HBV := Lib.hid (below_alloc HBV.out (.cells #[.bool false, .bool false] 31))
          clear hA
          refine hKx.out _ _ (HOLD.out _ HBV.out) (fun hHeld => ?_)
          clear hKx Kx
          (try simp only [Act.put, List.setIfInBounds_toArray, List.set_cons_zero, List.set_cons_succ])
          generalize V1.alloc (.cells #[.bool false, .bool false] 31) = V2 at *
          refine wpAnyH_ready (rs := [3, 5]) (by kernel_rfl) (by simp) ?_
          refine AllReadyH.cons (o := ?_) ?_ (fun Kx hKx => ?_) ?_
          rotate_left
          · (simp only [List.getElem?_toArray, List.getElem?_cons_zero, List.getElem?_cons_succ]; rfl)
          · -- 3 first
            refine step_appK0 rfl _ _ rfl (V0.heap.size) 0 0 a0 c0 rfl (Nat.le_refl 0) rfl ?_
            refine hKx.out _ _ (HOLD.out _ HBV.out) (fun hHeld => ?_)
            clear hKx Kx
            (try simp only [Act.put, List.setIfInBounds_toArray, List.set_cons_zero, List.set_cons_succ])
            refine wpAnyH_ready (rs := [5]) (by kernel_rfl) (by simp) ?_
            refine AllReadyH.cons (o := ?_) ?_ (fun Kx hKx => ?_) AllReadyH.nil
            rotate_left
            · (simp only [List.getElem?_toArray, List.getElem?_cons_zero, List.getElem?_cons_succ]; rfl)
            go_simp
            have hA := below_alloc (Below.refl _ V2) (.cells #[.bool th, .int .i64 ti, .int .i64 tz, .bool tg, .int .i64 tl, .int .i64 ts, .bool tj, .bool tc, .int .i64 tn, .bool tf, .bool tk] 39)
            replace HOwn := Lib.hid (HOwn.out.below hA)
            replace HZero := Lib.hid (HZero.out.below hA)
            have HLine := Lib.hid (blk_new V2 #[.bool th, .int .i64 ti, .int .i64 tz, .bool tg, .int .i64 tl, .int .i64 ts, .bool tj, .bool tc, .int .i64 tn, .bool tf, .bool tk] 39)
            replace HBV := Lib.hid (below_alloc HBV.out (.cells #[.bool th, .int .i64 ti, .int .i64 tz, .bool tg, .int .i64 tl, .int .i64 ts, .bool tj, .bool tc, .int .i64 tn, .bool tf, .bool tk] 39))
            clear hA
            refine hKx.out _ _ (HOLD.out _ HBV.out) (fun hHeld => ?_)
            clear hKx Kx
            (try simp only [Act.put, List.setIfInBounds_toArray, List.set_cons_zero, List.set_cons_succ])
            generalize V2.alloc (.cells #[.bool th, .int .i64 ti, .int .i64 tz, .bool tg, .int .i64 tl, .int .i64 ts, .bool tj, .bool tc, .int .i64 tn, .bool tf, .bool tk] 39) = V3 at *
            refine wpAnyH_ready (rs := [6]) (by kernel_rfl) (by simp) ?_
            refine AllReadyH.cons (o := ?_) ?_ (fun Kx hKx => ?_) AllReadyH.nil
            rotate_left
            · (simp only [List.getElem?_toArray, List.getElem?_cons_zero, List.getElem?_cons_succ]; rfl)
            refine step_appK rfl _ _ rfl V0.heap.size (.slice (some ⟨V0.heap.size, 0, none⟩) 0 0) 0 [] rfl rfl HOwn.out (V2.heap.size) 0 1 1 [⟨th, ti, tz, tg, tl, ts, tj, tc, tn, tf, tk⟩] rfl rfl (elsK_one ⟨th, ti, tz, tg, tl, ts, tj, tc, tn, tf, tk⟩ _ HLine.out) (by decide) (by omega) HBV.out.size (0 + 1) rfl ?_
            intro g6 cap6 V4 hown hb hg
            have hF := Keep.grown (F := fun x => x = V0.heap.size) hg (fun g e => (Option.some.inj e).symm)
            have hne := HOwn.out.ne HZero.out (by decide)
            replace HZero := Lib.hid (HZero.out.keep hF (fun e => hne (by rw [e]; rfl)))
            clear hne hF
            replace HOwn := Lib.hid hown
            replace HBV := Lib.hid (HBV.out.trans hb)
            clear hown hb hg HLine
            refine hKx.out _ _ (HOLD.out _ HBV.out) (fun hHeld => ?_)
            clear hKx Kx
            (try simp only [Act.put, List.setIfInBounds_toArray, List.set_cons_zero, List.set_cons_succ])
            refine wpAnyH_ready (rs := [9]) (by kernel_rfl) (by simp) ?_
            refine AllReadyH.cons (o := ?_) ?_ (fun Kx hKx => ?_) AllReadyH.nil
            rotate_left
            · (simp only [List.getElem?_toArray, List.getElem?_cons_zero, List.getElem?_cons_succ]; rfl)
            go_simp
            (with_reducible refine (HE2.out V4 HBV.out _ HOwn.out.els).mono ?_)
            rintro e V5 ⟨rfl, hb⟩
            replace HZero := Lib.hid (HZero.out.below hb)
            replace HBV := Lib.hid (below_call HBV.out hb)
            clear hb HOwn
            go_wp2_with fail
            refine hKx.out _ _ (HOLD.out _ HBV.out) (fun hHeld => ?_)
            clear hKx Kx
            (try simp only [Act.put, List.setIfInBounds_toArray, List.set_cons_zero, List.set_cons_succ])
            refine wpAnyH_ready (rs := [11]) (by kernel_rfl) (by simp) ?_
            refine AllReadyH.cons (o := ?_) ?_ (fun Kx hKx => ?_) AllReadyH.nil
            rotate_left
            · (simp only [List.getElem?_toArray, List.getElem?_cons_zero, List.getElem?_cons_succ]; rfl)
            obtain ⟨z0, z1⟩ := two_cells HZero.out
            have z2 := HZero.out.frz 0
            have z3 := HZero.out.frz 1
            go_simp
            have hS := ((Keep.refl (fun x => x = V1.heap.size) V5).store (V1.heap.size) 0 (.bool q2) rfl).store (V1.heap.size) 1 (.bool u2) rfl
            have HEnd := Lib.hid (set2_ HZero.out (.bool q2) (.bool u2))
            replace HBV := Lib.hid (below_keep HBV.out hS (fun g e => by rw [e]; exact hZge))
            clear z0 z1 z2 z3 HZero hS
            refine hKx.out _ _ (HOLD.out _ HBV.out) (fun hHeld => ?_)
            clear hKx Kx
            (try simp only [Act.put, List.setIfInBounds_toArray, List.set_cons_zero, List.set_cons_succ])
            refine wpAnyH_done (by kernel_rfl) ?_ _
            go_wp2_with fail
            go_meet
            exact ⟨V1.heap.size, rfl, HEnd, Lib.hid (HB3.out.trans (HBV.out.mono HB3.out.size))⟩
          · refine AllReadyH.cons (o := ?_) ?_ (fun Kx hKx => ?_) AllReadyH.nil
            rotate_left
            · (simp only [List.getElem?_toArray, List.getElem?_cons_zero, List.getElem?_cons_succ]; rfl)
            go_simp
            have hA := below_alloc (Below.refl _ V2) (.cells #[.bool th, .int .i64 ti, .int .i64 tz, .bool tg, .int .i64 tl, .int .i64 ts, .bool tj, .bool tc, .int .i64 tn, .bool tf, .bool tk] 39)
            replace HOwn := Lib.hid (HOwn.out.below hA)
            replace HZero := Lib.hid (HZero.out.below hA)
            have HLine := Lib.hid (blk_new V2 #[.bool th, .int .i64 ti, .int .i64 tz, .bool tg, .int .i64 tl, .int .i64 ts, .bool tj, .bool tc, .int .i64 tn, .bool tf, .bool tk] 39)
            replace HBV := Lib.hid (below_alloc HBV.out (.cells #[.bool th, .int .i64 ti, .int .i64 tz, .bool tg, .int .i64 tl, .int .i64 ts, .bool tj, .bool tc, .int .i64 tn, .bool tf, .bool tk] 39))
            clear hA
            refine hKx.out _ _ (HOLD.out _ HBV.out) (fun hHeld => ?_)
            clear hKx Kx
            (try simp only [Act.put, List.setIfInBounds_toArray, List.set_cons_zero, List.set_cons_succ])
            generalize V2.alloc (.cells #[.bool th, .int .i64 ti, .int .i64 tz, .bool tg, .int .i64 tl, .int .i64 ts, .bool tj, .bool tc, .int .i64 tn, .bool tf, .bool tk] 39) = V3 at *
            refine wpAnyH_ready (rs := [3]) (by kernel_rfl) (by simp) ?_
            refine AllReadyH.cons (o := ?_) ?_ (fun Kx hKx => ?_) AllReadyH.nil
            rotate_left
            · (simp only [List.getElem?_toArray, List.getElem?_cons_zero, List.getElem?_cons_succ]; rfl)
            refine step_appK0 rfl _ _ rfl (V0.heap.size) 0 0 a0 c0 rfl (Nat.le_refl 0) rfl ?_
            refine hKx.out _ _ (HOLD.out _ HBV.out) (fun hHeld => ?_)
            clear hKx Kx
            (try simp only [Act.put, List.setIfInBounds_toArray, List.set_cons_zero, List.set_cons_succ])
            refine wpAnyH_ready (rs := [6]) (by kernel_rfl) (by simp) ?_
            refine AllReadyH.cons (o := ?_) ?_ (fun Kx hKx => ?_) AllReadyH.nil
            rotate_left
            · (simp only [List.getElem?_toArray, List.getElem?_cons_zero, List.getElem?_cons_succ]; rfl)
            refine step_appK rfl _ _ rfl V0.heap.size (.slice (some ⟨V0.heap.size, 0, none⟩) 0 0) 0 [] rfl rfl HOwn.out (V2.heap.size) 0 1 1 [⟨th, ti, tz, tg, tl, ts, tj, tc, tn, tf, tk⟩] rfl rfl (elsK_one ⟨th, ti, tz, tg, tl, ts, tj, tc, tn, tf, tk⟩ _ HLine.out) (by decide) (by omega) HBV.out.size (0 + 1) rfl ?_
            intro g6 cap6 V4 hown hb hg
            have hF := Keep.grown (F := fun x => x = V0.heap.size) hg (fun g e => (Option.some.inj e).symm)
            have hne := HOwn.out.ne HZero.out (by decide)
            replace HZero := Lib.hid (HZero.out.keep hF (fun e => hne (by rw [e]; rfl)))
            clear hne hF
            replace HOwn := Lib.hid hown
            replace HBV := Lib.hid (HBV.out.trans hb)
            clear hown hb hg HLine
            refine hKx.out _ _ (HOLD.out _ HBV.out) (fun hHeld => ?_)
            clear hKx Kx
            (try simp only [Act.put, List.setIfInBounds_toArray, List.set_cons_zero, List.set_cons_succ])
            refine wpAnyH_ready (rs := [9]) (by kernel_rfl) (by simp) ?_
            refine AllReadyH.cons (o := ?_) ?_ (fun Kx hKx => ?_) AllReadyH.nil
            rotate_left
            · (simp only [List.getElem?_toArray, List.getElem?_cons_zero, List.getElem?_cons_succ]; rfl)
            go_simp
            (with_reducible refine (HE2.out V4 HBV.out _ HOwn.out.els).mono ?_)
            rintro e V5 ⟨rfl, hb⟩
            replace HZero := Lib.hid (HZero.out.below hb)
            replace HBV := Lib.hid (below_call HBV.out hb)
            clear hb HOwn
            go_wp2_with fail
            refine hKx.out _ _ (HOLD.out _ HBV.out) (fun hHeld => ?_)
            clear hKx Kx
            (try simp only [Act.put, List.setIfInBounds_toArray, List.set_cons_zero, List.set_cons_succ])
            refine wpAnyH_ready (rs := [11]) (by kernel_rfl) (by simp) ?_
            refine AllReadyH.cons (o := ?_) ?_ (fun Kx hKx => ?_) AllReadyH.nil
            rotate_left
            · (simp only [List.getElem?_toArray, List.getElem?_cons_zero, List.getElem?_cons_succ]; rfl)
            obtain ⟨z0, z1⟩ := two_cells HZero.out
            have z2 := HZero.out.frz 0
            have z3 := HZero.out.frz 1
            go_simp
            have hS := ((Keep.refl (fun x => x = V1.heap.size) V5).store (V1.heap.size) 0 (.bool q2) rfl).store (V1.heap.size) 1 (.bool u2) rfl
            have HEnd := Lib.hid (set2_ HZero.out (.bool q2) (.bool u2))
            replace HBV := Lib.hid (below_keep HBV.out hS (fun g e => by rw [e]; exact hZge))
            clear z0 z1 z2 z3 HZero hS
            refine hKx.out _ _ (HOLD.out _ HBV.out) (fun hHeld => ?_)
            clear hKx Kx
            (try simp only [Act.put, List.setIfInBounds_toArray, List.set_cons_zero, List.set_cons_succ])
            refine wpAnyH_done (by kernel_rfl) ?_ _
            go_wp2_with fail
            go_meet
            exact ⟨V1.heap.size, rfl, HEnd, Lib.hid (HB3.out.trans (HBV.out.mono HB3.out.size))⟩
    · refine AllReadyH.cons (o := ?_) ?_ (fun Kx hKx => ?_) ?_
      rotate_left
      · (simp only [List.getElem?_toArray, List.getElem?_cons_zero, List.getElem?_cons_succ]; rfl)
      · -- 5 first
        go_simp
        have hA := below_alloc (Below.refl _ V0) (.cells #[.bool th, .int .i64 ti, .int .i64 tz, .bool tg, .int .i64 tl, .int .i64 ts, .bool tj, .bool tc, .int .i64 tn, .bool tf, .bool tk] 39)
        have HLine := Lib.hid (blk_new V0 #[.bool th, .int .i64 ti, .int .i64 tz, .bool tg, .int .i64 tl, .int .i64 ts, .bool tj, .bool tc, .int .i64 tn, .bool tf, .bool tk] 39)
        replace HBV := Lib.hid (below_alloc HBV.out (.cells #[.bool th, .int .i64 ti, .int .i64 tz, .bool tg, .int .i64 tl, .int .i64 ts, .bool tj, .bool tc, .int .i64 tn, .bool tf, .bool tk] 39))
        clear hA
        refine hKx.out _ _ (HOLD.out _ HBV.out) (fun hHeld => ?_)
        clear hKx Kx
        (try simp only [Act.put, List.setIfInBounds_toArray, List.set_cons_zero, List.set_cons_succ])
        generalize V0.alloc (.cells #[.bool th, .int .i64 ti, .int .i64 tz, .bool tg, .int .i64 tl, .int .i64 ts, .bool tj, .bool tc, .int .i64 tn, .bool tf, .bool tk] 39) = V1 at *
        refine wpAnyH_ready (rs := [1, 10]) (by kernel_rfl) (by simp) ?_
        refine AllReadyH.cons (o := ?_) ?_ (fun Kx hKx => ?_) ?_
        rotate_left
        · (simp only [List.getElem?_toArray, List.getElem?_cons_zero, List.getElem?_cons_succ]; rfl)
        · -- 1 first
          go_simp
          have hA := below_alloc (Below.refl _ V1) (.cells #[] 39)
          replace HLine := Lib.hid (HLine.out.below hA)
          have HOwn := Lib.hid (ownK_lit V1 V0.heap.size HBV.out.size)
          replace HBV := Lib.hid (below_alloc HBV.out (.cells #[] 39))
          clear hA
          refine hKx.out _ _ (HOLD.out _ HBV.out) (fun hHeld => ?_)
          clear hKx Kx
          (try simp only [Act.put, List.setIfInBounds_toArray, List.set_cons_zero, List.set_cons_succ])
          generalize V1.alloc (.cells #[] 39) = V2 at *
          refine wpAnyH_ready (rs := [3, 10]) (by kernel_rfl) (by simp) ?_
          refine AllReadyH.cons (o := ?_) ?_ (fun Kx hKx => ?_) ?_
          rotate_left
          · (simp only [List.getElem?_toArray, List.getElem?_cons_zero, List.getElem?_cons_succ]; rfl)
          · -- 3 first
            refine step_appK0 rfl _ _ rfl (V1.heap.size) 0 0 a0 c0 rfl (Nat.le_refl 0) rfl ?_
            refine hKx.out _ _ (HOLD.out _ HBV.out) (fun hHeld => ?_)
            clear hKx Kx
            (try simp only [Act.put, List.setIfInBounds_toArray, List.set_cons_zero, List.set_cons_succ])
            refine wpAnyH_ready (rs := [6, 10]) (by kernel_rfl) (by simp) ?_
            refine AllReadyH.cons (o := ?_) ?_ (fun Kx hKx => ?_) ?_
            rotate_left
            · (simp only [List.getElem?_toArray, List.getElem?_cons_zero, List.getElem?_cons_succ]; rfl)
            · -- 6 first
              refine step_appK rfl _ _ rfl V0.heap.size (.slice (some ⟨V1.heap.size, 0, none⟩) 0 0) 0 [] rfl rfl HOwn.out (V0.heap.size) 0 1 1 [⟨th, ti, tz, tg, tl, ts, tj, tc, tn, tf, tk⟩] rfl rfl (elsK_one ⟨th, ti, tz, tg, tl, ts, tj, tc, tn, tf, tk⟩ _ HLine.out) (by decide) (by omega) HBV.out.size (0 + 1) rfl ?_
              intro g6 cap6 V3 hown hb hg
              replace HOwn := Lib.hid hown
              replace HBV := Lib.hid (HBV.out.trans hb)
              clear hown hb hg HLine
              refine hKx.out _ _ (HOLD.out _ HBV.out) (fun hHeld => ?_)
              clear hKx Kx
              (try simp only [Act.put, List.setIfInBounds_toArray, List.set_cons_zero, List.set_cons_succ])
              refine wpAnyH_ready (rs := [9, 10]) (by kernel_rfl) (by simp) ?_
              refine AllReadyH.cons (o := ?_) ?_ (fun Kx hKx => ?_) ?_
              rotate_left
              · (simp only [List.getElem?_toArray, List.getElem?_cons_zero, List.getElem?_cons_succ]; rfl)
              · -- 9 first
                go_simp
                (with_reducible refine (HE2.out V3 HBV.out _ HOwn.out.els).mono ?_)
                rintro e V4 ⟨rfl, hb⟩
                replace HBV := Lib.hid (below_call HBV.out hb)
                clear hb HOwn
                go_wp2_with fail
                refine hKx.out _ _ (HOLD.out _ HBV.out) (fun hHeld => ?_)
                clear hKx Kx
                (try simp only [Act.put, List.setIfInBounds_toArray, List.set_cons_zero, List.set_cons_succ])
                refine wpAnyH_ready (rs := [10]) (by kernel_rfl) (by simp) ?_
                refine AllReadyH.cons (o := ?_) ?_ (fun Kx hKx => ?_) AllReadyH.nil
                rotate_left
                · (simp only [List.getElem?_toArray, List.getElem?_cons_zero, List.getElem?_cons_succ]; rfl)
                go_simp
                have hA := below_alloc (Below.refl _ V4) (.cells #[.bool false, .bool false] 31)
                have HZero := Lib.hid (blk_new V4 #[.bool false, .bool false] 31)
                have hZge : V0.heap.size ≤ V4.heap.size := HBV.out.size
                replace HBV := Lib.hid (below_alloc HBV.out (.cells #[.bool false, .bool false] 31))
                clear hA
                refine hKx.out _ _ (HOLD.out _ HBV.out) (fun hHeld => ?_)
                clear hKx Kx
                (try simp only [Act.put, List.setIfInBounds_toArray, List.set_cons_zero, List.set_cons_succ])
                generalize V4.alloc (.cells #[.bool false, .bool false] 31) = V5 at *
                refine wpAnyH_ready (rs := [11]) (by kernel_rfl) (by simp) ?_
                refine AllReadyH.cons (o := ?_) ?_ (fun Kx hKx => ?_) AllReadyH.nil
                rotate_left
                · (simp only [List.getElem?_toArray, List.getElem?_cons_zero, List.getElem?_cons_succ]; rfl)
                obtain ⟨z0, z1⟩ := two_cells HZero.out
                have z2 := HZero.out.frz 0
                have z3 := HZero.out.frz 1
                go_simp
                have hS := ((Keep.refl (fun x => x = V4.heap.size) V5).store (V4.heap.size) 0 (.bool q2) rfl).store (V4.heap.size) 1 (.bool u2) rfl
                have HEnd := Lib.hid (set2_ HZero.out (.bool q2) (.bool u2))
                replace HBV := Lib.hid (below_keep HBV.out hS (fun g e => by rw [e]; exact hZge))
                clear z0 z1 z2 z3 HZero hS
                refine hKx.out _ _ (HOLD.out _ HBV.out) (fun hHeld => ?_)
                clear hKx Kx
                (try simp only [Act.put, List.setIfInBounds_toArray, List.set_cons_zero, List.set_cons_succ])
                refine wpAnyH_done (by kernel_rfl) ?_ _
                go_wp2_with fail
                go_meet
                exact ⟨V4.heap.size, rfl, HEnd, Lib.hid (HB3.out.trans (HBV.out.mono HB3.out.size))⟩
              · refine AllReadyH.cons (o := ?_) ?_ (fun Kx hKx => ?_) AllReadyH.nil
                rotate_left
                · (simp only [List.getElem?_toArray, List.getElem?_cons_zero, List.getElem?_cons_succ]; rfl)
                go_simp
                have hA := below_alloc (Below.refl _ V3) (.cells #[.bool false, .bool false] 31)
                replace HOwn := Lib.hid (HOwn.out.below hA)
                have HZero := Lib.hid (blk_new V3 #[.bool false, .bool false] 31)
                have hZge : V0.heap.size ≤ V3.heap.size := HBV.out.size
                replace HBV := Lib.hid (below_alloc HBV.out (.cells #[.bool false, .bool false] 31))
                clear hA
                refine hKx.out _ _ (HOLD.out _ HBV.out) (fun hHeld => ?_)
                clear hKx Kx
                (try simp only [Act.put, List.setIfInBounds_toArray, List.set_cons_zero, List.set_cons_succ])
                generalize V3.alloc (.cells #[.bool false, .bool false] 31) = V4 at *
                refine wpAnyH_ready (rs := [9]) (by kernel_rfl) (by simp) ?_
                refine AllReadyH.cons (o := ?_) ?_ (fun Kx hKx => ?_) AllReadyH.nil
                rotate_left
                · (simp only [List.getElem?_toArray, List.getElem?_cons_zero, List.getElem?_cons_succ]; rfl)
                go_simp
                (with_reducible refine (HE2.out V4 HBV.out _ HOwn.out.els).mono ?_)
                rintro e V5 ⟨rfl, hb⟩
                replace HZero := Lib.hid (HZero.out.below hb)
                replace HBV := Lib.hid (below_call HBV.out hb)
                clear hb HOwn
                go_wp2_with fail
                refine hKx.out _ _ (HOLD.out _ HBV.out) (fun hHeld => ?_)
                clear hKx Kx
                (try simp only [Act.put, List.setIfInBounds_toArray, List.set_cons_zero, List.set_cons_succ])
                refine wpAnyH_ready (rs := [11]) (by kernel_rfl) (by simp) ?_
                refine AllReadyH.cons (o := ?_) ?_ (fun Kx hKx => ?_) AllReadyH.nil
                rotate_left
                · (simp only [List.getElem?_toArray, List.getElem?_cons_zero, List.getElem?_cons_succ]; rfl)
                obtain ⟨z0, z1⟩ := two_cells HZero.out
                have z2 := HZero.out.frz 0
                have z3 := HZero.out.frz 1
                go_simp
                have hS := ((Keep.refl (fun x => x = V3.heap.size) V5).store (V3.heap.size) 0 (.bool q2) rfl).store (V3.heap.size) 1 (.bool u2) rfl
                have HEnd := Lib.hid (set2_ HZero.out (.bool q2) (.bool u2))
                replace HBV := Lib.hid (below_keep HBV.out hS (fun g e => by rw [e]; exact hZge))
                clear z0 z1 z2 z3 HZero hS
                refine hKx.out _ _ (HOLD.out _ HBV.out) (fun hHeld => ?_)
                clear hKx Kx
                (try simp only [Act.put, List.setIfInBounds_toArray, List.set_cons_zero, List.set_cons_succ])
                refine wpAnyH_done (by kernel_rfl) ?_ _
                go_wp2_with fail
                go_meet
                exact ⟨V3.heap.size, rfl, HEnd, Lib.hid (HB3.out.trans (HBV.out.mono HB3.out.size))⟩
            · refine AllReadyH.cons (o := ?_) ?_ (fun Kx hKx => ?_) AllReadyH.nil
              rotate_left
              · (simp only [List.getElem?_toArray, List.getElem?_cons_zero, List.getElem?_cons_succ]; rfl)
              go_simp
              have hA := below_alloc (Below.refl _ V2) (.cells #[.bool false, .bool false] 31)
              replace HOwn := Lib.hid (HOwn.out.below hA)
              replace HLine := Lib.hid (HLine.out.below hA)
              have HZero := Lib.hid (blk_new V2 #[.bool false, .bool false] 31)
              have hZge : V0.heap.size ≤ V2.heap.size := HBV.out.size
              replace HBV := Lib.hid (below_alloc HBV.out (.cells #[.bool false, .bool false] 31))
              clear hA
              refine hKx.out _ _ (HOLD.out _ HBV.out) (fun hHeld => ?_)
              clear hKx Kx
              (try simp only [Act.put, List.setIfInBounds_toArray, List.set_cons_zero, List.set_cons_succ])
              generalize V2.alloc (.cells #[.bool false, .bool false] 31) = V3 at *
              refine wpAnyH_ready (rs := [6]) (by kernel_rfl) (by simp) ?_
              refine AllReadyH.cons (o := ?_) ?_ (fun Kx hKx => ?_) AllReadyH.nil
              rotate_left
              · (simp only [List.getElem?_toArray, List.getElem?_cons_zero, List.getElem?_cons_succ]; rfl)
              refine step_appK rfl _ _ rfl V0.heap.size (.slice (some ⟨V1.heap.size, 0, none⟩) 0 0) 0 [] rfl rfl HOwn.out (V0.heap.size) 0 1 1 [⟨th, ti, tz, tg, tl, ts, tj, tc, tn, tf, tk⟩] rfl rfl (elsK_one ⟨th, ti, tz, tg, tl, ts, tj, tc, tn, tf, tk⟩ _ HLine.out) (by decide) (by omega) HBV.out.size (0 + 1) rfl ?_
              intro g6 cap6 V4 hown hb hg
              have hF := Keep.grown (F := fun x => x = V1.heap.size) hg (fun g e => (Option.some.inj e).symm)
              have hne := HOwn.out.ne HZero.out (by decide)
              replace HZero := Lib.hid (HZero.out.keep hF (fun e => hne (by rw [e]; rfl)))
              clear hne hF
              replace HOwn := Lib.hid hown
              replace HBV := Lib.hid (HBV.out.trans hb)
              clear hown hb hg HLine
              refine hKx.out _ _ (HOLD.out _ HBV.out) (fun hHeld => ?_)
              clear hKx Kx
              (try simp only [Act.put, List.setIfInBounds_toArray, List.set_cons_zero, List.set_cons_succ])
              refine wpAnyH_ready (rs := [9]) (by kernel_rfl) (by simp) ?_
              refine AllReadyH.cons (o := ?_) ?_ (fun Kx hKx => ?_) AllReadyH.nil
              rotate_left
              · (simp only [List.getElem?_toArray, List.getElem?_cons_zero, List.getElem?_cons_succ]; rfl)
              go_simp
              (with_reducible refine (HE2.out V4 HBV.out _ HOwn.out.els).mono ?_)
              rintro e V5 ⟨rfl, hb⟩
              replace HZero := Lib.hid (HZero.out.below hb)
              replace HBV := Lib.hid (below_call HBV.out hb)
              clear hb HOwn
              go_wp2_with fail
              refine hKx.out _ _ (HOLD.out _ HBV.out) (fun hHeld => ?_)
              clear hKx Kx
              (try simp only [Act.put, List.setIfInBounds_toArray, List.set_cons_zero, List.set_cons_succ])
              refine wpAnyH_ready (rs := [11]) (by kernel_rfl) (by simp) ?_
              refine AllReadyH.cons (o := ?_) ?_ (fun Kx hKx => ?_) AllReadyH.nil
              rotate_left
              · (simp only [List.getElem?_toArray, List.getElem?_cons_zero, List.getElem?_cons_succ]; rfl)
              obtain ⟨z0, z1⟩ := two_cells HZero.out
              have z2 := HZero.out.frz 0
              have z3 := HZero.out.frz 1
              go_simp
              have hS := ((Keep.refl (fun x => x = V2.heap.size) V5).store (V2.heap.size) 0 (.bool q2) rfl).store (V2.heap.size) 1 (.bool u2) rfl
              have HEnd := Lib.hid (set2_ HZero.out (.bool q2) (.bool u2))
              replace HBV := Lib.hid (below_keep HBV.out hS (fun g e => by rw [e]; exact hZge))
              clear z0 z1 z2 z3 HZero hS
              refine hKx.out _ _ (HOLD.out _ HBV.out) (fun hHeld => ?_)
              clear hKx Kx
              (try simp only [Act.put, List.setIfInBounds_toArray, List.set_cons_zero, List.set_cons_succ])
              refine wpAnyH_done (by kernel_rfl) ?_ _
              go_wp2_with fail
              go_meet
              exact ⟨V2.heap.size, rfl, HEnd, Lib.hid (HB3.out.trans (HBV.out.mono HB3.out.size))⟩
          · refine AllReadyH.cons (o := ?_) ?_ (fun Kx hKx => ?_) AllReadyH.nil
            rotate_left
            · (simp only [List.getElem?_toArray, List.getElem?_cons_zero, List.getElem?_cons_succ]; rfl)
            go_simp
            have hA := below_alloc (Below.refl _ V2) (.cells #[.bool false, .bool false] 31)
            replace HOwn := Lib.hid (HOwn.out.below hA)
            replace HLine := Lib.hid (HLine.out.below hA)
            have HZero := Lib.hid (blk_new V2 #[.bool false, .bool false] 31)
            have hZge : V0.heap.size ≤ V2.heap.size := HBV.out.size
            replace HBV := Lib.hid (below_alloc HBV.out (.cells #[.bool false, .bool false] 31))
            clear hA
            refine hKx.out _ _ (HOLD.out _ HBV.out) (fun hHeld => ?_)
            clear hKx Kx
            (try simp only [Act.put, List.setIfInBounds_toArray, List.set_cons_zero, List.set_cons_succ])
            generalize V2.alloc (.cells #[.bool false, .bool false] 31) = V3 at *
            refine wpAnyH_ready (rs := [3]) (by kernel_rfl) (by simp) ?_
            refine AllReadyH.cons (o := ?_) ?_ (fun Kx hKx => ?_) AllReadyH.nil
            rotate_left
            · (simp only [List.getElem?_toArray, List.getElem?_cons_zero, List.getElem?_cons_succ]; rfl)
            refine step_appK0 rfl _ _ rfl (V1.heap.size) 0 0 a0 c0 rfl (Nat.le_refl 0) rfl ?_
            refine hKx.out _ _ (HOLD.out _ HBV.out) (fun hHeld => ?_)
            clear hKx Kx
            (try simp only [Act.put, List.setIfInBounds_toArray, List.set_cons_zero, List.set_cons_succ])
            refine wpAnyH_ready (rs := [6]) (by kernel_rfl) (by simp) ?_
            refine AllReadyH.cons (o := ?_) ?_ (fun Kx hKx => ?_) AllReadyH.nil
            rotate_left
            · (simp only [List.getElem?_toArray, List.getElem?_cons_zero, List.getElem?_cons_succ]; rfl)
            refine step_appK rfl _ _ rfl V0.heap.size (.slice (some ⟨V1.heap.size, 0, none⟩) 0 0) 0 [] rfl rfl HOwn.out (V0.heap.size) 0 1 1 [⟨th, ti, tz, tg, tl, ts, tj, tc, tn, tf, tk⟩] rfl rfl (elsK_one ⟨th, ti, tz, tg, tl, ts, tj, tc, tn, tf, tk⟩ _ HLine.out) (by decide) (by omega) HBV.out.size (0 + 1) rfl ?_
            intro g6 cap6 V4 hown hb hg
            have hF := Keep.grown (F := fun x => x = V1.heap.size) hg (fun g e => (Option.some.inj e).symm)
            have hne := HOwn.out.ne HZero.out (by decide)
            replace HZero := Lib.hid (HZero.out.keep hF (fun e => hne (by rw [e]; rfl)))
            clear hne hF
            replace HOwn := Lib.hid hown
            replace HBV := Lib.hid (HBV.out.trans hb)
            clear hown hb hg HLine
            refine hKx.out _ _ (HOLD.out _ HBV.out) (fun hHeld => ?_)
            clear hKx Kx
            (try simp only [Act.put, List.setIfInBounds_toArray, List.set_cons_zero, List.set_cons_succ])
            refine wpAnyH_ready (rs := [9]) (by kernel_rfl) (by simp) ?_
            refine AllReadyH.cons (o := ?_) ?_ (fun Kx hKx => ?_) AllReadyH.nil
            rotate_left
            · (simp only [List.getElem?_toArray, List.getElem?_cons_zero, List.getElem?_cons_succ]; rfl)
            go_simp
            (with_reducible refine (HE2.out V4 HBV.out _ HOwn.out.els).mono ?_)
            rintro e V5 ⟨rfl, hb⟩
            replace HZero := Lib.hid (HZero.out.below hb)
            replace HBV := Lib.hid (below_call HBV.out hb)
            clear hb HOwn
            go_wp2_with fail
            refine hKx.out _ _ (HOLD.out _ HBV.out) (fun hHeld => ?_)
            clear hKx Kx
            (try simp only [Act.put, List.setIfInBounds_toArray, List.set_cons_zero, List.set_cons_succ])
            refine wpAnyH_ready (rs := [11]) (by kernel_rfl) (by simp) ?_
            refine AllReadyH.cons (o := ?_) ?_ (fun Kx hKx => ?_) AllReadyH.nil
            rotate_left
            · (simp only [List.getElem?_toArray, List.getElem?_cons_zero, List.getElem?_cons_succ]; rfl)
            obtain ⟨z0, z1⟩ := two_cells HZero.out
            have z2 := HZero.out.frz 0
            have z3 := HZero.out.frz 1
            go_simp
            have hS := ((Keep.refl (fun x => x = V2.heap.size) V5).store (V2.heap.size) 0 (.bool q2) rfl).store (V2.heap.size) 1 (.bool u2) rfl
            have HEnd := Lib.hid (set2_ HZero.out (.bool q2) (.bool u2))
            replace HBV := Lib.hid (below_keep HBV.out hS (fun g e => by rw [e]; exact hZge))
            clear z0 z1 z2 z3 HZero hS
            refine hKx.out _ _ (HOLD.out _ HBV.out) (fun hHeld => ?_)
            clear hKx Kx
            (try simp only [Act.put, List.setIfInBounds_toArray, List.set_cons_zero, List.set_cons_succ])
            refine wpAnyH_done (by kernel_rfl) ?_ _
            go_wp2_with fail
            go_meet
            exact ⟨V2.heap.size, rfl, HEnd, Lib.hid (HB3.out.trans (HBV.out.mono HB3.out.size))⟩
        · refine AllReadyH.cons (o := ?_) ?_ (fun Kx hKx => ?_) AllReadyH.nil
          rotate_left
          · (simp only [List.getElem?_toArray, List.getElem?_cons_zero, List.getElem?_cons_succ]; rfl)
          go_simp
          have hA := below_alloc (Below.refl _ V1) (.cells #[.bool false, .bool false] 31)
          replace HLine := Lib.hid (HLine.out.below hA)
          have HZero := Lib.hid (blk_new V1 #[.bool false, .bool false] 31)
          have hZge : V0.heap.size ≤ V1.heap.size := HBV.out.size
          replace HBV := Lib.hid (below_alloc HBV.out (.cells #[.bool false, .bool false] 31))
          clear hA
          refine hKx.out _ _ (HOLD.out _ HBV.out) (fun hHeld => ?_)
          clear hKx Kx
          (try simp only [Act.put, List.setIfInBounds_toArray, List.set_cons_zero, List.set_cons_succ])
          generalize V1.alloc (.cells #[.bool false, .bool false] 31) = V2 at *
          refine wpAnyH_ready (rs := [1]) (by kernel_rfl) (by simp) ?_
          refine AllReadyH.cons (o := ?_) ?_ (fun Kx hKx => ?_) AllReadyH.nil
          rotate_left
          · (simp only [List.getElem?_toArray, List.getElem?_cons_zero, List.getElem?_cons_succ]; rfl)
          go_simp
          have hA := below_alloc (Below.refl _ V2) (.cells #[] 39)
          replace HLine := Lib.hid (HLine.out.below hA)
          replace HZero := Lib.hid (HZero.out.below hA)
          have HOwn := Lib.hid (ownK_lit V2 V0.heap.size HBV.out.size)
          replace HBV := Lib.hid (below_alloc HBV.out (.cells #[] 39))
          clear hA
          refine hKx.out _ _ (HOLD.out _ HBV.out) (fun hHeld => ?_)
          clear hKx Kx
          (try simp only [Act.put, List.setIfInBounds_toArray, List.set_cons_zero, List.set_cons_succ])
          generalize V2.alloc (.cells #[] 39) = V3 at *
          refine wpAnyH_ready (rs := [3]) (by kernel_rfl) (by simp) ?_
          refine AllReadyH.cons (o := ?_) ?_ (fun Kx hKx => ?_) AllReadyH.nil
          rotate_left
          · (simp only [List.getElem?_toArray, List.getElem?_cons_zero, List.getElem?_cons_succ]; rfl)
          refine step_appK0 rfl _ _ rfl (V2.heap.size) 0 0 a0 c0 rfl (Nat.le_refl 0) rfl ?_
          refine hKx.out _ _ (HOLD.out _ HBV.out) (fun hHeld => ?_)
          clear hKx Kx
          (try simp only [Act.put, List.setIfInBounds_toArray, List.set_cons_zero, List.set_cons_succ])
          refine wpAnyH_ready (rs := [6]) (by kernel_rfl) (by simp) ?_
          refine AllReadyH.cons (o := ?_) ?_ (fun Kx hKx => ?_) AllReadyH.nil
          rotate_left
          · (simp only [List.getElem?_toArray, List.getElem?_cons_zero, List.getElem?_cons_succ]; rfl)
          refine step_appK rfl _ _ rfl V0.heap.size (.slice (some ⟨V2.heap.size, 0, none⟩) 0 0) 0 [] rfl rfl HOwn.out (V0.heap.size) 0 1 1 [⟨th, ti, tz, tg, tl, ts, tj, tc, tn, tf, tk⟩] rfl rfl (elsK_one ⟨th, ti, tz, tg, tl, ts, tj, tc, tn, tf, tk⟩ _ HLine.out) (by decide) (by omega) HBV.out.size (0 + 1) rfl ?_
          intro g6 cap6 V4 hown hb hg
          have hF := Keep.grown (F := fun x => x = V2.heap.size) hg (fun g e => (Option.some.inj e).symm)
          have hne := HOwn.out.ne HZero.out (by decide)
          replace HZero := Lib.hid (HZero.out.keep hF (fun e => hne (by rw [e]; rfl)))
          clear hne hF
          replace HOwn := Lib.hid hown
          replace HBV := Lib.hid (HBV.out.trans hb)
          clear hown hb hg HLine
          refine hKx.out _ _ (HOLD.out _ HBV.out) (fun hHeld => ?_)
          clear hKx Kx
          (try simp only [Act.put, List.setIfInBounds_toArray, List.set_cons_zero, List.set_cons_succ])
          refine wpAnyH_ready (rs := [9]) (by kernel_rfl) (by simp) ?_
          refine AllReadyH.cons (o := ?_) ?_ (fun Kx hKx => ?_) AllReadyH.nil
          rotate_left
          · (simp only [List.getElem?_toArray, List.getElem?_cons_zero, List.getElem?_cons_succ]; rfl)
          go_simp
          (with_reducible refine (HE2.out V4 HBV.out _ HOwn.out.els).mono ?_)
          rintro e V5 ⟨rfl, hb⟩
          replace HZero := Lib.hid (HZero.out.below hb)
          replace HBV := Lib.hid (below_call HBV.out hb)
          clear hb HOwn
          go_wp2_with fail
          refine hKx.out _ _ (HOLD.out _ HBV.out) (fun hHeld => ?_)
          clear hKx Kx
          (try simp only [Act.put, List.setIfInBounds_toArray, List.set_cons_zero, List.set_cons_succ])
          refine wpAnyH_ready (rs := [11]) (by kernel_rfl) (by simp) ?_
          refine AllReadyH.cons (o := ?_) ?_ (fun Kx hKx => ?_) AllReadyH.nil
          rotate_left
          · (simp only [List.getElem?_toArray, List.getElem?_cons_zero, List.getElem?_cons_succ]; rfl)
          obtain ⟨z0, z1⟩ := two_cells HZero.out
          have z2 := HZero.out.frz 0
          have z3 := HZero.out.frz 1
          go_simp
          have hS := ((Keep.refl (fun x => x = V1.heap.size) V5).store (V1.heap.size) 0 (.bool q2) rfl).store (V1.heap.size) 1 (.bool u2) rfl
          have HEnd := Lib.hid (set2_ HZero.out (.bool q2) (.bool u2))
          replace HBV := Lib.hid (below_keep HBV.out hS (fun g e => by rw [e]; exact hZge))
          clear z0 z1 z2 z3 HZero hS
          refine hKx.out _ _ (HOLD.out _ HBV.out) (fun hHeld => ?_)
          clear hKx Kx
          (try simp only [Act.put, List.setIfInBounds_toArray, List.set_cons_zero, List.set_cons_succ])
          refine wpAnyH_done (by kernel_rfl) ?_ _
          go_wp2_with fail
          go_meet
          exact ⟨V1.heap.size, rfl, HEnd, Lib.hid (HB3.out.trans (HBV.out.mono HB3.out.size))⟩
      · refine AllReadyH.cons (o := ?_) ?_ (fun Kx hKx => ?_) AllReadyH.nil
        rotate_left
        · (simp only [List.getElem?_toArray, List.getElem?_cons_zero, List.getElem?_cons_succ]; rfl)
        go_simp
        have hA := below_alloc (Below.refl _ V0) (.cells #[.bool false, .bool false] 31)
        have HZero := Lib.hid (blk_new V0 #[.bool false, .bool false] 31)
        have hZge : V0.heap.size ≤ V0.heap.size := HBV.out.size
        replace HBV := Lib.hid (below_alloc HBV.out (.cells #[.bool false, .bool false] 31))
        clear hA
        refine hKx.out _ _ (HOLD.out _ HBV.out) (fun hHeld => ?_)
        clear hKx Kx
        (try simp only [Act.put, List.setIfInBounds_toArray, List.set_cons_zero, List.set_cons_succ])
        generalize V0.alloc (.cells #[.bool false, .bool false] 31) = V1 at *
        refine wpAnyH_ready (rs := [1, 5]) (by kernel_rfl) (by simp) ?_
        refine AllReadyH.cons (o := ?_) ?_ (fun Kx hKx => ?_) ?_
        rotate_left
        · (simp only [List.getElem?_toArray, List.getElem?_cons_zero, List.getElem?_cons_succ]; rfl)
        · -- 1 first
          go_simp
          have hA := below_alloc (Below.refl _ V1) (.cells #[] 39)
          replace HZero := Lib.hid (HZero.out.below hA)
          have HOwn := Lib.hid (ownK_lit V1 V0.heap.size HBV.out.size)
          replace HBV := Lib.hid (below_alloc HBV.out (.cells #[] 39))
          clear hA
          refine hKx.out _ _ (HOLD.out _ HBV.out) (fun hHeld => ?_)
          clear hKx Kx
          (try simp only [Act.put, List.setIfInBounds_toArray, List.set_cons_zero, List.set_cons_succ])
          generalize V1.alloc (.cells #[] 39) = V2 at *
          refine wpAnyH_ready (rs := [3, 5]) (by kernel_rfl) (by simp) ?_
          refine AllReadyH.cons (o := ?_) ?_ (fun Kx hKx => ?_) ?_
          rotate_left
          · (simp only [List.getElem?_toArray, List.getElem?_cons_zero, List.getElem?_cons_succ]; rfl)
          · -- 3 first
            refine step_appK0 rfl _ _ rfl (V1.heap.size) 0 0 a0 c0 rfl (Nat.le_refl 0) rfl ?_
            refine hKx.out _ _ (HOLD.out _ HBV.out) (fun hHeld => ?_)
            clear hKx Kx
            (try simp only [Act.put, List.setIfInBounds_toArray, List.set_cons_zero, List.set_cons_succ])
            refine wpAnyH_ready (rs := [5]) (by kernel_rfl) (by simp) ?_
            refine AllReadyH.cons (o := ?_) ?_ (fun Kx hKx => ?_) AllReadyH.nil
            rotate_left
            · (simp only [List.getElem?_toArray, List.getElem?_cons_zero, List.getElem?_cons_succ]; rfl)
            go_simp
            have hA := below_alloc (Below.refl _ V2) (.cells #[.bool th, .int .i64 ti, .int .i64 tz, .bool tg, .int .i64 tl, .int .i64 ts, .bool tj, .bool tc, .int .i64 tn, .bool tf, .bool tk] 39)
            replace HOwn := Lib.hid (HOwn.out.below hA)
            replace HZero := Lib.hid (HZero.out.below hA)
            have HLine := Lib.hid (blk_new V2 #[.bool th, .int .i64 ti, .int .i64 tz, .bool tg, .int .i64 tl, .int .i64 ts, .bool tj, .bool tc, .int .i64 tn, .bool tf, .bool tk] 39)
            replace HBV := Lib.hid (below_alloc HBV.out (.cells #[.bool th, .int .i64 ti, .int .i64 tz, .bool tg, .int .i64 tl, .int .i64 ts, .bool tj, .bool tc, .int .i64 tn, .bool tf, .bool tk] 39))
            clear hA
            refine hKx.out _ _ (HOLD.out _ HBV.out) (fun hHeld => ?_)
            clear hKx Kx
            (try simp only [Act.put, List.setIfInBounds_toArray, List.set_cons_zero, List.set_cons_succ])
            generalize V2.alloc (.cells #[.bool th, .int .i64 ti, .int .i64 tz, .bool tg, .int .i64 tl, .int .i64 ts, .bool tj, .bool tc, .int .i64 tn, .bool tf, .bool tk] 39) = V3 at *
            refine wpAnyH_ready (rs := [6]) (by kernel_rfl) (by simp) ?_
            refine AllReadyH.cons (o := ?_) ?_ (fun Kx hKx => ?_) AllReadyH.nil
            rotate_left
            · (simp only [List.getElem?_toArray, List.getElem?_cons_zero, List.getElem?_cons_succ]; rfl)
            refine step_appK rfl _ _ rfl V0.heap.size (.slice (some ⟨V1.heap.size, 0, none⟩) 0 0) 0 [] rfl rfl HOwn.out (V2.heap.size) 0 1 1 [⟨th, ti, tz, tg, tl, ts, tj, tc, tn, tf, tk⟩] rfl rfl (elsK_one ⟨th, ti, tz, tg, tl, ts, tj, tc, tn, tf, tk⟩ _ HLine.out) (by decide) (by omega) HBV.out.size (0 + 1) rfl ?_
            intro g6 cap6 V4 hown hb hg
            have hF := Keep.grown (F := fun x => x = V1.heap.size) hg (fun g e => (Option.some.inj e).symm)
            have hne := HOwn.out.ne HZero.out (by decide)
            replace HZero := Lib.hid (HZero.out.keep hF (fun e => hne (by rw [e]; rfl)))
            clear hne hF
            replace HOwn := Lib.hid hown
            replace HBV := Lib.hid (HBV.out.trans hb)
            clear hown hb hg HLine
            refine hKx.out _ _ (HOLD.out _ HBV.out) (fun hHeld => ?_)
            clear hKx Kx
            (try simp only [Act.put, List.setIfInBounds_toArray, List.set_cons_zero, List.set_cons_succ])
            refine wpAnyH_ready (rs := [9]) (by kernel_rfl) (by simp) ?_
            refine AllReadyH.cons (o := ?_) ?_ (fun Kx hKx => ?_) AllReadyH.nil
            rotate_left
            · (simp only [List.getElem?_toArray, List.getElem?_cons_zero, List.getElem?_cons_succ]; rfl)
            go_simp
            (with_reducible refine (HE2.out V4 HBV.out _ HOwn.out.els).mono ?_)
            rintro e V5 ⟨rfl, hb⟩
            replace HZero := Lib.hid (HZero.out.below hb)
            replace HBV := Lib.hid (below_call HBV.out hb)
            clear hb HOwn
            go_wp2_with fail
            refine hKx.out _ _ (HOLD.out _ HBV.out) (fun hHeld => ?_)
            clear hKx Kx
            (try simp only [Act.put, List.setIfInBounds_toArray, List.set_cons_zero, List.set_cons_succ])
            refine wpAnyH_ready (rs := [11]) (by kernel_rfl) (by simp) ?_
            refine AllReadyH.cons (o := ?_) ?_ (fun Kx hKx => ?_) AllReadyH.nil
            rotate_left
            · (simp only [List.getElem?_toArray, List.getElem?_cons_zero, List.getElem?_cons_succ]; rfl)
            obtain ⟨z0, z1⟩ := two_cells HZero.out
            have z2 := HZero.out.frz 0
            have z3 := HZero.out.frz 1
            go_simp
            have hS := ((Keep.refl (fun x => x = V0.heap.size) V5).store (V0.heap.size) 0 (.bool q2) rfl).store (V0.heap.size) 1 (.bool u2) rfl
            have HEnd := Lib.hid (set2_ HZero.out (.bool q2) (.bool u2))
            replace HBV := Lib.hid (below_keep HBV.out hS (fun g e => by rw [e]; exact hZge))
            clear z0 z1 z2 z3 HZero hS
            refine hKx.out _ _ (HOLD.out _ HBV.out) (fun hHeld => ?_)
            clear hKx Kx
            (try simp only [Act.put, List.setIfInBounds_toArray, List.set_cons_zero, List.set_cons_succ])
            refine wpAnyH_done (by kernel_rfl) ?_ _
            go_wp2_with fail
            go_meet
            exact ⟨V0.heap.size, rfl, HEnd, Lib.hid (HB3.out.trans (HBV.out.mono HB3.out.size))⟩
          · refine AllReadyH.cons (o := ?_) ?_ (fun Kx hKx => ?_) AllReadyH.nil
            rotate_left
            · (simp only [List.getElem?_toArray, List.getElem?_cons_zero, List.getElem?_cons_succ]; rfl)
            go_simp
            have hA := below_alloc (Below.refl _ V2) (.cells #[.bool th, .int .i64 ti, .int .i64 tz, .bool tg, .int .i64 tl, .int .i64 ts, .bool tj, .bool tc, .int .i64 tn, .bool tf, .bool tk] 39)
            replace HOwn := Lib.hid (HOwn.out.below hA)
            replace HZero := Lib.hid (HZero.out.below hA)
            have HLine := Lib.hid (blk_new V2 #[.bool th, .int .i64 ti, .int .i64 tz, .bool tg, .int .i64 tl, .int .i64 ts, .bool tj, .bool tc, .int .i64 tn, .bool tf, .bool tk] 39)
            replace HBV := Lib.hid (below_alloc HBV.out (.cells #[.bool th, .int .i64 ti, .int .i64 tz, .bool tg, .int .i64 tl, .int .i64 ts, .bool tj, .bool tc, .int .i64 tn, .bool tf, .bool tk] 39))
            clear hA
            refine hKx.out _ _ (HOLD.out _ HBV.out) (fun hHeld => ?_)
            clear hKx Kx
            (try simp only [Act.put, List.setIfInBounds_toArray, List.set_cons_zero, List.set_cons_succ])
            generalize V2.alloc (.cells #[.bool th, .int .i64 ti, .int .i64 tz, .bool tg, .int .i64 tl, .int .i64 ts, .bool tj, .bool tc, .int .i64 tn, .bool tf, .bool tk] 39) = V3 at *
            refine wpAnyH_ready (rs := [3]) (by kernel_rfl) (by simp) ?_
            refine AllReadyH.cons (o := ?_) ?_ (fun Kx hKx => ?_) AllReadyH.nil
            rotate_left
            · (simp only [List.getElem?_toArray, List.getElem?_cons_zero, List.getElem?_cons_succ]; rfl)
            refine step_appK0 rfl _ _ rfl (V1.heap.size) 0 0 a0 c0 rfl (Nat.le_refl 0) rfl ?_
            refine hKx.out _ _ (HOLD.out _ HBV.out) (fun hHeld => ?_)
            clear hKx Kx
            (try simp only [Act.put, List.setIfInBounds_toArray, List.set_cons_zero, List.set_cons_succ])
            refine wpAnyH_ready (rs := [6]) (by kernel_rfl) (by simp) ?_
            refine AllReadyH.cons (o := ?_) ?_ (fun Kx hKx => ?_) AllReadyH.nil
            rotate_left
            · (simp only [List.getElem?_toArray, List.getElem?_cons_zero, List.getElem?_cons_succ]; rfl)
            refine step_appK rfl _ _ rfl V0.heap.size (.slice (some ⟨V1.heap.size, 0, none⟩) 0 0) 0 [] rfl rfl HOwn.out (V2.heap.size) 0 1 1 [⟨th, ti, tz, tg, tl, ts, tj, tc, tn, tf, tk⟩] rfl rfl (elsK_one ⟨th, ti, tz, tg, tl, ts, tj, tc, tn, tf, tk⟩ _ HLine.out) (by decide) (by omega) HBV.out.size (0 + 1) rfl ?_
            intro g6 cap6 V4 hown hb hg
            have hF := Keep.grown (F := fun x => x = V1.heap.size) hg (fun g e => (Option.some.inj e).symm)
            have hne := HOwn.out.ne HZero.out (by decide)
            replace HZero := Lib.hid (HZero.out.keep hF (fun e => hne (by rw [e]; rfl)))
            clear hne hF
            replace HOwn := Lib.hid hown
            replace HBV := Lib.hid (HBV.out.trans hb)
            clear hown hb hg HLine
            refine hKx.out _ _ (HOLD.out _ HBV.out) (fun hHeld => ?_)
            clear hKx Kx
            (try simp only [Act.put, List.setIfInBounds_toArray, List.set_cons_zero, List.set_cons_succ])
            refine wpAnyH_ready (rs := [9]) (by kernel_rfl) (by simp) ?_
            refine AllReadyH.cons (o := ?_) ?_ (fun Kx hKx => ?_) AllReadyH.nil
            rotate_left
            · (simp only [List.getElem?_toArray, List.getElem?_cons_zero, List.getElem?_cons_succ]; rfl)
            go_simp
            (with_reducible refine (HE2.out V4 HBV.out _ HOwn.out.els).mono ?_)
            rintro e V5 ⟨rfl, hb⟩
            replace HZero := Lib.hid (HZero.out.below hb)
            replace HBV := Lib.hid (below_call HBV.out hb)
            clear hb HOwn
            go_wp2_with fail
            refine hKx.out _ _ (HOLD.out _ HBV.out) (fun hHeld => ?_)
            clear hKx Kx
            (try simp only [Act.put, List.setIfInBounds_toArray, List.set_cons_zero, List.set_cons_succ])
            refine wpAnyH_ready (rs := [11]) (by kernel_rfl) (by simp) ?_
            refine AllReadyH.cons (o := ?_) ?_ (fun Kx hKx => ?_) AllReadyH.nil
            rotate_left
            · (simp only [List.getElem?_toArray, List.getElem?_cons_zero, List.getElem?_cons_succ]; rfl)
            obtain ⟨z0, z1⟩ := two_cells HZero.out
            have z2 := HZero.out.frz 0
            have z3 := HZero.out.frz 1
            go_simp
            have hS := ((Keep.refl (fun x => x = V0.heap.size) V5).store (V0.heap.size) 0 (.bool q2) rfl).store (V0.heap.size) 1 (.bool u2) rfl
            have HEnd := Lib.hid (set2_ HZero.out (.bool q2) (.bool u2))
            replace HBV := Lib.hid (below_keep HBV.out hS (fun g e => by rw [e]; exact hZge))
            clear z0 z1 z2 z3 HZero hS
            refine hKx.out _ _ (HOLD.out _ HBV.out) (fun hHeld => ?_)
            clear hKx Kx
            (try simp only [Act.put, List.setIfInBounds_toArray, List.set_cons_zero, List.set_cons_succ])
            refine wpAnyH_done (by kernel_rfl) ?_ _
            go_wp2_with fail
            go_meet
            exact ⟨V0.heap.size, rfl, HEnd, Lib.hid (HB3.out.trans (HBV.out.mono HB3.out.size))⟩
        · refine AllReadyH.cons (o := ?_) ?_ (fun Kx hKx => ?_) AllReadyH.nil
          rotate_left
          · (simp only [List.getElem?_toArray, List.getElem?_cons_zero, List.getElem?_cons_succ]; rfl)
          go_simp
          have hA := below_alloc (Below.refl _ V1) (.cells #[.bool th, .int .i64 ti, .int .i64 tz, .bool tg, .int .i64 tl, .int .i64 ts, .bool tj, .bool tc, .int .i64 tn, .bool tf, .bool tk] 39)
          replace HZero := Lib.hid (HZero.out.below hA)
          have HLine := Lib.hid (blk_new V1 #[.bool th, .int .i64 ti, .int .i64 tz, .bool tg, .int .i64 tl, .int .i64 ts, .bool tj, .bool tc, .int .i64 tn, .bool tf, .bool tk] 39)
          replace HBV := Lib.hid (below_alloc HBV.out (.cells #[.bool th, .int .i64 ti, .int .i64 tz, .bool tg, .int .i64 tl, .int .i64 ts, .bool tj, .bool tc, .int .i64 tn, .bool tf, .bool tk] 39))
          clear hA
          refine hKx.out _ _ (HOLD.out _ HBV.out) (fun hHeld => ?_)
          clear hKx Kx
          (try simp only [Act.put, List.setIfInBounds_toArray, List.set_cons_zero, List.set_cons_succ])
          generalize V1.alloc (.cells #[.bool th, .int .i64 ti, .int .i64 tz, .bool tg, .int .i64 tl, .int .i64 ts, .bool tj, .bool tc, .int .i64 tn, .bool tf, .bool tk] 39) = V2 at *
          refine wpAnyH_ready (rs := [1]) (by kernel_rfl) (by simp) ?_
          refine AllReadyH.cons (o := ?_) ?_ (fun Kx hKx => ?_) AllReadyH.nil
          rotate_left
          · (simp only [List.getElem?_toArray, List.getElem?_cons_zero, List.getElem?_cons_succ]; rfl)
          go_simp
          have hA := below_alloc (Below.refl _ V2) (.cells #[] 39)
          replace HLine := Lib.hid (HLine.out.below hA)
          replace HZero := Lib.hid (HZero.out.below hA)
          have HOwn := Lib.hid (ownK_lit V2 V0.heap.size HBV.out.size)
          replace HBV := Lib.hid (below_alloc HBV.out (.cells #[] 39))
          clear hA
          refine hKx.out _ _ (HOLD.out _ HBV.out) (fun hHeld => ?_)
          clear hKx Kx
          (try simp only [Act.put, List.setIfInBounds_toArray, List.set_cons_zero, List.set_cons_succ])
          generalize V2.alloc (.cells #[] 39) = V3 at *
          refine wpAnyH_ready (rs := [3]) (by kernel_rfl) (by simp) ?_
          refine AllReadyH.cons (o := ?_) ?_ (fun Kx hKx => ?_) AllReadyH.nil
          rotate_left
          · (simp only [List.getElem?_toArray, List.getElem?_cons_zero, List.getElem?_cons_succ]; rfl)
          refine step_appK0 rfl _ _ rfl (V2.heap.size) 0 0 a0 c0 rfl (Nat.le_refl 0) rfl ?_
          refine hKx.out _ _ (HOLD.out _ HBV.out) (fun hHeld => ?_)
          clear hKx Kx
          (try simp only [Act.put, List.setIfInBounds_toArray, List.set_cons_zero, List.set_cons_succ])
          refine wpAnyH_ready (rs := [6]) (by kernel_rfl) (by simp) ?_
          refine AllReadyH.cons (o := ?_) ?_ (fun Kx hKx => ?_) AllReadyH.nil
          rotate_left
          · (simp only [List.getElem?_toArray, List.getElem?_cons_zero, List.getElem?_cons_succ]; rfl)
          refine step_appK rfl _ _ rfl V0.heap.size (.slice (some ⟨V2.heap.size, 0, none⟩) 0 0) 0 [] rfl rfl HOwn.out (V1.heap.size) 0 1 1 [⟨th, ti, tz, tg, tl, ts, tj, tc, tn, tf, tk⟩] rfl rfl (elsK_one ⟨th, ti, tz, tg, tl, ts, tj, tc, tn, tf, tk⟩ _ HLine.out) (by decide) (by omega) HBV.out.size (0 + 1) rfl ?_
          intro g6 cap6 V4 hown hb hg
          have hF := Keep.grown (F := fun x => x = V2.heap.size) hg (fun g e => (Option.some.inj e).symm)
          have hne := HOwn.out.ne HZero.out (by decide)
          replace HZero := Lib.hid (HZero.out.keep hF (fun e => hne (by rw [e]; rfl)))
          clear hne hF
          replace HOwn := Lib.hid hown
          replace HBV := Lib.hid (HBV.out.trans hb)
          clear hown hb hg HLine
          refine hKx.out _ _ (HOLD.out _ HBV.out) (fun hHeld => ?_)
          clear hKx Kx
          (try simp only [Act.put, List.setIfInBounds_toArray, List.set_cons_zero, List.set_cons_succ])
          refine wpAnyH_ready (rs := [9]) (by kernel_rfl) (by simp) ?_
          refine AllReadyH.cons (o := ?_) ?_ (fun Kx hKx => ?_) AllReadyH.nil
          rotate_left
          · (simp only [List.getElem?_toArray, List.getElem?_cons_zero, List.getElem?_cons_succ]; rfl)
          go_simp
          (with_reducible refine (HE2.out V4 HBV.out _ HOwn.out.els).mono ?_)
          rintro e V5 ⟨rfl, hb⟩
          replace HZero := Lib.hid (HZero.out.below hb)
          replace HBV := Lib.hid (below_call HBV.out hb)
          clear hb HOwn
          go_wp2_with fail
          refine hKx.out _ _ (HOLD.out _ HBV.out) (fun hHeld => ?_)
          clear hKx Kx
          (try simp only [Act.put, List.setIfInBounds_toArray, List.set_cons_zero, List.set_cons_succ])
          refine wpAnyH_ready (rs := [11]) (by kernel_rfl) (by simp) ?_
          refine AllReadyH.cons (o := ?_) ?_ (fun Kx hKx => ?_) AllReadyH.nil
          rotate_left
          · (simp only [List.getElem?_toArray, List.getElem?_cons_zero, List.getElem?_cons_succ]; rfl)
          obtain ⟨z0, z1⟩ := two_cells HZero.out
          have z2 := HZero.out.frz 0
          have z3 := HZero.out.frz 1
          go_simp
          have hS := ((Keep.refl (fun x => x = V0.heap.size) V5).store (V0.heap.size) 0 (.bool q2) rfl).store (V0.heap.size) 1 (.bool u2) rfl
          have HEnd := Lib.hid (set2_ HZero.out (.bool q2) (.bool u2))
          replace HBV := Lib.hid (below_keep HBV.out hS (fun g e => by rw [e]; exact hZge))
          clear z0 z1 z2 z3 HZero hS
          refine hKx.out _ _ (HOLD.out _ HBV.out) (fun hHeld => ?_)
          clear hKx Kx
          (try simp only [Act.put, List.setIfInBounds_toArray, List.set_cons_zero, List.set_cons_succ])
          refine wpAnyH_done (by kernel_rfl) ?_ _
          go_wp2_with fail
          go_meet
          exact ⟨V0.heap.size, rfl, HEnd, Lib.hid (HB3.out.trans (HBV.out.mono HB3.out.size))⟩
  case rest =>
    obtain ⟨g13, rfl, HD2, HBX⟩ := hcut
    have hY := HY.out.below HBX.out
    have y7 := hY.cell 7 (u := .bool tc) rfl
    have y9 := hY.cell 9 (u := .bool tf) rfl
    have y10 := hY.cell 10 (u := .bool tk) rfl
    obtain ⟨s0, s1⟩ := two_cells (HC.out.below HBX.out)
    obtain ⟨t0, t1⟩ := two_cells HD2.out
    have HBF := Lib.hid (below_call HB.out HBX.out)
    obtain ⟨k1, k2, k3, k4⟩ := HFACT.out
    have EQ := eql_dms q u
    clear hY HY HX HC HD2 HB HBX HFACT HE1 HM HM2
    have hcs : (tf = true) ∨ (tf = false ∧ u2 = u ∧ tk = true) ∨ (tf = false ∧ u2 = u ∧ tk = false ∧ tc = false) ∨ (tf = false ∧ u2 = u ∧ tk = false ∧ tc = true ∧ q2 = q) := by
      cases tf
      · have e := k1 rfl
        cases tk
        · cases tc
          · exact .inr (.inr (.inl ⟨rfl, e, rfl, rfl⟩))
          · exact .inr (.inr (.inr ⟨rfl, e, rfl, rfl, k4 rfl rfl rfl⟩))
        · exact .inr (.inl ⟨rfl, e, rfl⟩)
      · exact .inl rfl
    have hq : (q = false) ∨ (q = true ∧ q2 = true) := by cases q; exact .inl rfl; exact .inr ⟨rfl, k3 rfl⟩
    have hu : (u = false) ∨ (u = true ∧ u2 = true) := by cases u; exact .inl rfl; exact .inr ⟨rfl, k2 rfl⟩
    clear k1 k2 k3 k4
    rcases hcs with rfl | ⟨rfl, rfl, rfl⟩ | ⟨rfl, rfl, rfl, rfl⟩ | ⟨rfl, rfl, rfl, rfl, rfl⟩
    all_goals
      rcases hq with rfl | ⟨rfl, hq⟩
      all_goals
        rcases hu with rfl | ⟨rfl, hu⟩
        all_goals
          (try subst hq)
          (try subst hu)
          have e1 : (true == true) = true := rfl
          have e2 : (false == false) = true := rfl
          go_wp2_with fail
          go_ret
          exact ⟨rfl, HBF.out⟩
end Go.Proofs.Ytoedecngemkblaa

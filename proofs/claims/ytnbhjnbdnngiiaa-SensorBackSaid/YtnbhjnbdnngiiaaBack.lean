/-
  The walk of crossbucklaw13.SensorBack: true.
-/
import Derived.Test.YtnbhjnbdnngiiaaOnce
import Derived.Deep.CutRange
import Derived.Deep.DeepCutAuto
namespace Go.Proofs.Ytnbhjnbdnngiiaa
open Go.RowKit

/-- The inputs in their box, their tracks where they lie. -/
structure Sb (w wx : World) (C : Array Value) (tv : Value) (ls : List Ct) : Prop where
  bel : Below w.heap.size w wx
  blk : Blk wx w.heap.size C 38
  els : Els RCt 5 wx tv ls
theorem Sb.call {w wx w' : World} {C : Array Value} {tv : Value} {ls : List Ct} (h : Sb w wx C tv ls) (hb : Below wx.heap.size wx w') : Sb w w' C tv ls := ⟨below_call h.bel hb, h.blk.below hb, h.els.below (fun _ _ _ hr => hr.below hb)⟩
/-- What was told of the barriers, or nothing. -/
def ToldB (w' : World) (v : Value) (a b c d : Bool) : Prop := v = .slice none 0 0 ∨ (((a && b) || (c && d)) = false ∧ ∃ g, v = .slice (some ⟨g, 0, none⟩) 1 1 ∧ Byts w' v [byteOf (lay1 [a, b, c, d])])
/-- A number below n, or nothing. -/
def ToldN (w' : World) (v : Value) (m n : Int) : Prop := v = .slice none 0 0 ∨ ((0 ≤ m ∧ m < n) ∧ ∃ g, v = .slice (some ⟨g, 0, none⟩) 1 1 ∧ Byts w' v [byteOf m])
/-- What is told of a track, or nothing. -/
def ToldT (w' : World) (v : Value) (y : Ct) : Prop := v = .slice none 0 0 ∨ (cntOf true (ctBytes y) = y ∧ ∃ g, v = .slice (some ⟨g, 0, none⟩) 4 4 ∧ Byts w' v (ctBytes y))
theorem ToldB.below {w w' : World} {v : Value} {a b c d : Bool} (h : ToldB w v a b c d) (hb : Below w.heap.size w w') : ToldB w' v a b c d := h.imp id fun ⟨h1, g, e, hy⟩ => ⟨h1, g, e, hy.below hb⟩
theorem ToldN.below {w w' : World} {v : Value} {m n : Int} (h : ToldN w v m n) (hb : Below w.heap.size w w') : ToldN w' v m n := h.imp id fun ⟨h1, g, e, hy⟩ => ⟨h1, g, e, hy.below hb⟩
section
variable (a b c d s l o : Bool) (m : Int) (mn ba : Bool) (r : Int) (tv : Value) (w : World)
theorem print_bar_any : Calls Try.prog 23 #[.agg #[.bool a, .bool b, .bool c, .bool d, .bool s, .bool l, .bool o, .int .i64 m, .bool mn, .bool ba, .int .i64 r, tv], .int .i64 0] w fun e w' => ∃ v, e = .returned v ∧ Below w.heap.size w w' ∧ ToldB w' v a b c d := by
  cases h : ((a && b) || (c && d)) with
  | true => exact (print_bar_no a b c d s l o m mn ba r tv w h).mono fun e w' ⟨he, hb⟩ => ⟨_, he, hb, .inl rfl⟩
  | false => exact (print_bar_yes a b c d s l o m mn ba r tv w h).mono fun e w' ⟨g, he, hy, _, hb⟩ => ⟨_, he, hb, .inr ⟨h, g, rfl, hy⟩⟩
theorem print_mode_any : Calls Try.prog 23 #[.agg #[.bool a, .bool b, .bool c, .bool d, .bool s, .bool l, .bool o, .int .i64 m, .bool mn, .bool ba, .int .i64 r, tv], .int .i64 3] w fun e w' => ∃ v, e = .returned v ∧ Below w.heap.size w w' ∧ ToldN w' v m 3 := by
  by_cases h : 0 ≤ m ∧ m < 3
  · exact (print_mode_yes a b c d s l o m mn ba r tv w h).mono fun e w' ⟨g, he, hy, _, hb⟩ => ⟨_, he, hb, .inr ⟨h, g, rfl, hy⟩⟩
  · exact (print_mode_no a b c d s l o m mn ba r tv w h).mono fun e w' ⟨he, hb⟩ => ⟨_, he, hb, .inl rfl⟩
theorem print_routes_any : Calls Try.prog 23 #[.agg #[.bool a, .bool b, .bool c, .bool d, .bool s, .bool l, .bool o, .int .i64 m, .bool mn, .bool ba, .int .i64 r, tv], .int .i64 5] w fun e w' => ∃ v, e = .returned v ∧ Below w.heap.size w w' ∧ ToldN w' v r 256 := by
  by_cases h : 0 ≤ r ∧ r < 256
  · exact (print_routes_yes a b c d s l o m mn ba r tv w h).mono fun e w' ⟨g, he, hy, _, hb⟩ => ⟨_, he, hb, .inr ⟨h, g, rfl, hy⟩⟩
  · exact (print_routes_no a b c d s l o m mn ba r tv w h).mono fun e w' ⟨he, hb⟩ => ⟨_, he, hb, .inl rfl⟩
theorem print_track_any (ls : List Ct) (ch : Int) (i : Nat) (y : Ct) (hv : Els RCt 5 w tv ls) (hch : ch = 8 + (i : Int)) (hi : i < 1000) (hy : ls[i]? = some y) : Calls Try.prog 23 #[.agg #[.bool a, .bool b, .bool c, .bool d, .bool s, .bool l, .bool o, .int .i64 m, .bool mn, .bool ba, .int .i64 r, tv], .int .i64 ch] w fun e w' => ∃ v, e = .returned v ∧ Below w.heap.size w w' ∧ ToldT w' v y := by
  by_cases h : cntOf true (ctBytes y) = y
  · exact (print_track_yes a b c d s l o m mn ba r tv w ls ch i y hv hch hi hy h).mono fun e w' ⟨g, he, hy, _, hb⟩ => ⟨_, he, hb, .inr ⟨h, g, rfl, hy⟩⟩
  · exact (print_track_no a b c d s l o m mn ba r tv w ls ch i y hv hch hi hy h).mono fun e w' ⟨he, hb⟩ => ⟨_, he, hb, .inl rfl⟩
end
theorem lay_pow (p q : Bool) : bt (onl (lay1 [p, q]) 4) 1 = p ∧ bt (onl (lay1 [p, q]) 4) 2 = q := by cases p <;> cases q <;> decide
theorem lay_lamp (p : Bool) : decide (lay1 [p] = 1) = p ∧ decide (lay1 [p] ≠ 0) = p := by cases p <;> decide
theorem lay_small (p q : Bool) : (0 ≤ lay1 [p] ∧ lay1 [p] ≤ 255) ∧ 0 ≤ lay1 [p, q] ∧ lay1 [p, q] ≤ 255 := by cases p <;> cases q <;> decide
theorem bar_fine {a b c d : Bool} (h : ((a && b) || (c && d)) = false) : barIs (lay1 [a, b, c, d]) a b c d ∧ 0 ≤ lay1 [a, b, c, d] ∧ lay1 [a, b, c, d] ≤ 255 := by
  have h1 := bar_lay a b c d
  have h2 := lay1_range [a, b, c, d] (by simp)
  refine ⟨?_, h2.1, by omega⟩
  revert h h1
  cases a <;> cases b <;> cases c <;> cases d <;> simp
set_option maxHeartbeats 8000000 in
set_option maxRecDepth 10000 in
theorem back_long (a b c d s l o : Bool) (m : Int) (mn ba : Bool) (r : Int) (ta : Option Addr) (n tc : Nat) (ls : List Ct) (w : World) (hv : Els RCt 5 w (.slice ta n tc) ls) (h8 : 8 < n) : Calls Try.prog 4 #[.agg #[.bool a, .bool b, .bool c, .bool d, .bool s, .bool l, .bool o, .int .i64 m, .bool mn, .bool ba, .int .i64 r, .slice ta n tc]] w fun e w' => e = .returned (.bool true) ∧ Below w.heap.size w w' := by
  have hl : (8 : Int) < (n : Int) := by omega
  clear h8
  have HS0 : Hid (Sb w (w.alloc (.cells #[.bool a, .bool b, .bool c, .bool d, .bool s, .bool l, .bool o, .int .i64 m, .bool mn, .bool ba, .int .i64 r, .slice ta n tc] 38)) #[.bool a, .bool b, .bool c, .bool d, .bool s, .bool l, .bool o, .int .i64 m, .bool mn, .bool ba, .int .i64 r, .slice ta n tc] (.slice ta n tc) ls) := Lib.hid ⟨below_alloc (Below.refl _ w) _, blk_new w _ _, hv.below (fun _ _ _ hr => hr.below (below_alloc (Below.refl _ w) _))⟩
  clear hv
  go_enter Try.func4, Try.ntmps4
  go_wp2_with fail
  (with_reducible refine (small_true _).mono ?_)
  rintro e w1 ⟨rfl, hb⟩
  have HS := Lib.hid (HS0.out.call hb)
  clear hb HS0
  obtain ⟨c0, c1, c2, c3, c4, c5, c6, c7, c8, c9, c10, c11⟩ := blk_twelve HS.out.blk
  go_wp2_with fail
  go_ret
  exact ⟨rfl, HS.out.bel⟩
set_option maxHeartbeats 8000000 in
set_option maxRecDepth 10000 in
theorem back_main (a b c d s l o : Bool) (m : Int) (mn ba : Bool) (r : Int) (ta : Option Addr) (n tc : Nat) (ls : List Ct) (w : World) (hv : Els RCt 5 w (.slice ta n tc) ls) (hn : ls.length = n) (h8 : n ≤ 8) : Calls Try.prog 4 #[.agg #[.bool a, .bool b, .bool c, .bool d, .bool s, .bool l, .bool o, .int .i64 m, .bool mn, .bool ba, .int .i64 r, .slice ta n tc]] w fun e w' => e = .returned (.bool true) ∧ Below w.heap.size w w' := by
  have hl : ¬ (8 : Int) < (n : Int) := by omega
  have HS0 : Hid (Sb w (w.alloc (.cells #[.bool a, .bool b, .bool c, .bool d, .bool s, .bool l, .bool o, .int .i64 m, .bool mn, .bool ba, .int .i64 r, .slice ta n tc] 38)) #[.bool a, .bool b, .bool c, .bool d, .bool s, .bool l, .bool o, .int .i64 m, .bool mn, .bool ba, .int .i64 r, .slice ta n tc] (.slice ta n tc) ls) := Lib.hid ⟨below_alloc (Below.refl _ w) _, blk_new w _ _, hv.below (fun _ _ _ hr => hr.below (below_alloc (Below.refl _ w) _))⟩
  clear hv
  go_enter Try.func4, Try.ntmps4
  go_wp2_with fail
  (with_reducible refine (small_true _).mono ?_)
  rintro e w1 ⟨rfl, hb⟩
  have HS := Lib.hid (HS0.out.call hb)
  clear hb HS0
  obtain ⟨c0, c1, c2, c3, c4, c5, c6, c7, c8, c9, c10, c11⟩ := blk_twelve HS.out.blk
  go_wp2_with fail
  (with_reducible refine (print_bar_any a b c d s l o m mn ba r (.slice ta n tc) _).mono ?_)
  rintro e w2 ⟨v4, rfl, hb, hv4⟩
  replace HS := Lib.hid (HS.out.call hb)
  have HV4 := Lib.hid hv4
  clear hb hv4
  clear c0 c1 c2 c3 c4 c5 c6 c7 c8 c9 c10 c11
  go_upto_region 5 with fail
  go_cut [27] (fun z wx => z = .bool false ∧ Hid (Sb w wx #[.bool a, .bool b, .bool c, .bool d, .bool s, .bool l, .bool o, .int .i64 m, .bool mn, .bool ba, .int .i64 r, .slice ta n tc] (.slice ta n tc) ls))
  case first =>
    obtain ⟨c0, c1, c2, c3, c4, c5, c6, c7, c8, c9, c10, c11⟩ := blk_twelve HS.out.blk
    rcases HV4.out with rfl | ⟨h1, g, rfl, hy⟩
    · as_aux_lemma =>
        replace c0 := cell_regrown c0
        replace c1 := cell_regrown c1
        replace c2 := cell_regrown c2
        replace c3 := cell_regrown c3
        refine wp_region_quiet_below (by kernel_rfl) (by kernel_rfl) ?_
        repeat (go_big_quiet_step (fail))
        refine wpQuiet_nil ?_
        intro _ hw'
        obtain ⟨⟨dq, osq⟩, hw''⟩ := hw'
        subst hw''
        go_wp2_with fail
        go_meet
        exact ⟨rfl, Lib.hid (HS.out.call (below_regrown _ dq osq))⟩
    · as_aux_lemma =>
        obtain ⟨hi, hk0, hk1⟩ := bar_fine h1
        have HM := Lib.hid (fun (W : World) (hW : Below w2.heap.size w2 W) => barrier_to true _ _ _ (sone_byte hk0 hk1) a b c d hi W (hy.below hW))
        have hE := neq_bar a b c d a b c d false (by simp)
        clear hy h1 hi hk0 hk1
        replace c0 := cell_regrown c0
        replace c1 := cell_regrown c1
        replace c2 := cell_regrown c2
        replace c3 := cell_regrown c3
        refine wp_region_quiet_below (by kernel_rfl) (by kernel_rfl) ?_
        repeat (go_big_quiet_step ((with_reducible exact Calls.regrown_of (HM.out _ (below_regrown _ _ _)))))
        refine wpQuiet_nil ?_
        intro _ hw'
        obtain ⟨⟨dq, osq⟩, hw''⟩ := hw'
        subst hw''
        go_wp2_with fail
        go_meet
        exact ⟨rfl, Lib.hid (HS.out.call (below_regrown _ dq osq))⟩
  case rest =>
    obtain ⟨rfl, HS5⟩ := hcut
    clear HS HV4
    obtain ⟨c0, c1, c2, c3, c4, c5, c6, c7, c8, c9, c10, c11⟩ := blk_twelve HS5.out.blk
    go_wp2_with fail
    (with_reducible refine (print_power a b c d s l o m mn ba r (.slice ta n tc) _).mono ?_)
    rintro e w6 ⟨g6, rfl, hy, _, hb⟩
    have HS6 := Lib.hid (HS5.out.call hb)
    have HK := Lib.hid (lay_small mn ba)
    have HP := Lib.hid (lay_pow mn ba)
    clear c0 c1 c2 c3 c4 c5 c6 c7 c8 c9 c10 c11
    clear hb HS5
    go_wp2_with fail
    (with_reducible refine (power_to true _ _ _ (sone_byte HK.out.2.1 HK.out.2.2) _ mn ba HP.out.1 HP.out.2 hy).mono ?_)
    rintro e w7 ⟨rfl, rfl⟩
    clear hy HK HP
    go_wp2_with fail
    have ql : (l != l) = false := by simp
    have qo : (o != o) = false := by simp
    have qm : (mn != mn) = false := by simp
    have qb : (ba != ba) = false := by simp
    have HKl := Lib.hid (lay_small l l)
    have HKo := Lib.hid (lay_small o o)
    have HPl := Lib.hid (lay_lamp l)
    have HPo := Lib.hid (lay_lamp o)
    replace HS6 := Lib.hid (HS6.out.call (bel_drew w7))
    refine wp_region_held_drew (S := (fun wx => Sb w wx #[.bool a, .bool b, .bool c, .bool d, .bool s, .bool l, .bool o, .int .i64 m, .bool mn, .bool ba, .int .i64 r, .slice ta n tc] (.slice ta n tc) ls)) (by kernel_rfl) HS6.out (fun hHeld => ?_)
    clear hHeld; generalize w7.drew = w8 at *; have hHeld := HS6.out
    refine wpAnyH_take (i := 0) (oi := ?_) (v := ?_) ?_ (by kernel_rfl) (by kernel_rfl) (by kernel_rfl) ?_ (Or.inl ⟨?_, ?_⟩) hHeld ?_
    rotate_left 2
    · (simp only [List.getElem?_toArray, List.getElem?_cons_zero]; rfl)
    · exact (fun _ _ _ h => h)
    · rfl
    · (intro w hSw; (try dsimp only at hSw); obtain ⟨c0, c1, c2, c3, c4, c5, c6, c7, c8, c9, c10, c11⟩ := blk_twelve hSw.blk; go_simp; try with_reducible rfl)
    (try simp only [Act.put, List.setIfInBounds_toArray, List.set_cons_zero, List.set_cons_succ])
    refine wpAnyH_take (i := 3) (oi := ?_) (v := ?_) ?_ (by kernel_rfl) (by kernel_rfl) (by kernel_rfl) ?_ (Or.inl ⟨?_, ?_⟩) hHeld ?_
    rotate_left 2
    · (simp only [List.getElem?_toArray, List.getElem?_cons_zero, List.getElem?_cons_succ]; rfl)
    · exact (fun _ _ _ h => h)
    · rfl
    · (intro w hSw; (try dsimp only at hSw); go_simp; try with_reducible rfl)
    (try simp only [Act.put, List.setIfInBounds_toArray, List.set_cons_zero, List.set_cons_succ])
    refine wpAnyH_take (i := 4) (oi := ?_) (v := ?_) ?_ (by kernel_rfl) (by kernel_rfl) (by kernel_rfl) ?_ (Or.inl ⟨?_, ?_⟩) hHeld ?_
    rotate_left 2
    · (simp only [List.getElem?_toArray, List.getElem?_cons_zero, List.getElem?_cons_succ]; rfl)
    · exact (fun _ _ _ h => h)
    · rfl
    · (intro w hSw; (try dsimp only at hSw); obtain ⟨c0, c1, c2, c3, c4, c5, c6, c7, c8, c9, c10, c11⟩ := blk_twelve hSw.blk; go_simp; try with_reducible rfl)
    (try simp only [Act.put, List.setIfInBounds_toArray, List.set_cons_zero, List.set_cons_succ])
    refine wpAnyH_ready (rs := [1]) (by kernel_rfl) (by simp) ?_
    refine AllReadyH.cons (o := ?_) ?_ (fun K hK => ?_) AllReadyH.nil
    rotate_left
    · (simp only [List.getElem?_toArray, List.getElem?_cons_zero, List.getElem?_cons_succ]; rfl)
    go_simp
    (with_reducible refine (print_lamps a b c d s l o m mn ba r (.slice ta n tc) _).mono ?_)
    rintro e v1 ⟨u1, rfl, hy, _, hb⟩
    replace HS6 := Lib.hid (HS6.out.call hb)
    clear hb
    go_wp2_with fail
    refine hK.out _ _ HS6.out (fun hHeld => ?_)
    clear hK K
    (try simp only [Act.put, List.setIfInBounds_toArray, List.set_cons_zero, List.set_cons_succ])
    refine wpAnyH_ready (rs := [2]) (by kernel_rfl) (by simp) ?_
    refine AllReadyH.cons (o := ?_) ?_ (fun K hK => ?_) AllReadyH.nil
    rotate_left
    · (simp only [List.getElem?_toArray, List.getElem?_cons_zero, List.getElem?_cons_succ]; rfl)
    go_simp
    (with_reducible refine (lamps_to true _ _ _ (sone_byte HKl.out.1.1 HKl.out.1.2) _ l HPl.out.1 hy).mono ?_)
    rintro e v2 ⟨rfl, rfl⟩
    clear hy
    go_wp2_with fail
    refine hK.out _ _ HS6.out (fun hHeld => ?_)
    clear hK K
    (try simp only [Act.put, List.setIfInBounds_toArray, List.set_cons_zero, List.set_cons_succ])
    refine wpAnyH_take (i := 5) (oi := ?_) (v := ?_) ?_ (by kernel_rfl) (by kernel_rfl) (by kernel_rfl) ?_ (Or.inl ⟨?_, ?_⟩) hHeld ?_
    rotate_left 2
    · (simp only [List.getElem?_toArray, List.getElem?_cons_zero, List.getElem?_cons_succ]; rfl)
    · exact (fun _ _ _ h => h)
    · rfl
    · (intro w hSw; (try dsimp only at hSw); go_simp; try with_reducible rfl)
    (try simp only [Act.put, List.setIfInBounds_toArray, List.set_cons_zero, List.set_cons_succ])
    refine wpAnyH_take (i := 6) (oi := ?_) (v := ?_) ?_ (by kernel_rfl) (by kernel_rfl) (by kernel_rfl) ?_ (Or.inl ⟨?_, ?_⟩) hHeld ?_
    rotate_left 2
    · (simp only [List.getElem?_toArray, List.getElem?_cons_zero, List.getElem?_cons_succ]; rfl)
    · exact (fun _ _ _ h => h)
    · rfl
    · (intro w hSw; (try dsimp only at hSw); go_simp; try with_reducible rfl)
    (try simp only [Act.put, List.setIfInBounds_toArray, List.set_cons_zero, List.set_cons_succ])
    refine wpAnyH_take (i := 7) (oi := ?_) (v := ?_) ?_ (by kernel_rfl) (by kernel_rfl) (by kernel_rfl) ?_ (Or.inl ⟨?_, ?_⟩) hHeld ?_
    rotate_left 2
    · (simp only [List.getElem?_toArray, List.getElem?_cons_zero, List.getElem?_cons_succ]; rfl)
    · exact (fun _ _ _ h => h)
    · rfl
    · (intro w hSw; (try dsimp only at hSw); obtain ⟨c0, c1, c2, c3, c4, c5, c6, c7, c8, c9, c10, c11⟩ := blk_twelve hSw.blk; go_simp; try with_reducible rfl)
    (try simp only [Act.put, List.setIfInBounds_toArray, List.set_cons_zero, List.set_cons_succ])
    refine wpAnyH_take (i := 10) (oi := ?_) (v := ?_) ?_ (by kernel_rfl) (by kernel_rfl) (by kernel_rfl) ?_ (Or.inl ⟨?_, ?_⟩) hHeld ?_
    rotate_left 2
    · (simp only [List.getElem?_toArray, List.getElem?_cons_zero, List.getElem?_cons_succ]; rfl)
    · exact (fun _ _ _ h => h)
    · rfl
    · (intro w hSw; (try dsimp only at hSw); go_simp; try with_reducible rfl)
    (try simp only [Act.put, List.setIfInBounds_toArray, List.set_cons_zero, List.set_cons_succ])
    refine wpAnyH_take (i := 11) (oi := ?_) (v := ?_) ?_ (by kernel_rfl) (by kernel_rfl) (by kernel_rfl) ?_ (Or.inl ⟨?_, ?_⟩) hHeld ?_
    rotate_left 2
    · (simp only [List.getElem?_toArray, List.getElem?_cons_zero, List.getElem?_cons_succ]; rfl)
    · exact (fun _ _ _ h => h)
    · rfl
    · (intro w hSw; (try dsimp only at hSw); obtain ⟨c0, c1, c2, c3, c4, c5, c6, c7, c8, c9, c10, c11⟩ := blk_twelve hSw.blk; go_simp; try with_reducible rfl)
    (try simp only [Act.put, List.setIfInBounds_toArray, List.set_cons_zero, List.set_cons_succ])
    refine wpAnyH_ready (rs := [8]) (by kernel_rfl) (by simp) ?_
    refine AllReadyH.cons (o := ?_) ?_ (fun K hK => ?_) AllReadyH.nil
    rotate_left
    · (simp only [List.getElem?_toArray, List.getElem?_cons_zero, List.getElem?_cons_succ]; rfl)
    go_simp
    (with_reducible refine (print_obst a b c d s l o m mn ba r (.slice ta n tc) _).mono ?_)
    rintro e v3 ⟨u3, rfl, hy, _, hb⟩
    replace HS6 := Lib.hid (HS6.out.call hb)
    clear hb
    go_wp2_with fail
    refine hK.out _ _ HS6.out (fun hHeld => ?_)
    clear hK K
    (try simp only [Act.put, List.setIfInBounds_toArray, List.set_cons_zero, List.set_cons_succ])
    refine wpAnyH_ready (rs := [9]) (by kernel_rfl) (by simp) ?_
    refine AllReadyH.cons (o := ?_) ?_ (fun K hK => ?_) AllReadyH.nil
    rotate_left
    · (simp only [List.getElem?_toArray, List.getElem?_cons_zero, List.getElem?_cons_succ]; rfl)
    go_simp
    (with_reducible refine (obst_to true _ _ _ (sone_byte HKo.out.1.1 HKo.out.1.2) _ o HPo.out.2 hy).mono ?_)
    rintro e v4 ⟨rfl, rfl⟩
    clear hy
    go_wp2_with fail
    refine hK.out _ _ HS6.out (fun hHeld => ?_)
    clear hK K
    (try simp only [Act.put, List.setIfInBounds_toArray, List.set_cons_zero, List.set_cons_succ])
    refine wpAnyH_take (i := 12) (oi := ?_) (v := ?_) ?_ (by kernel_rfl) (by kernel_rfl) (by kernel_rfl) ?_ (Or.inl ⟨?_, ?_⟩) hHeld ?_
    rotate_left 2
    · (simp only [List.getElem?_toArray, List.getElem?_cons_zero, List.getElem?_cons_succ]; rfl)
    · exact (fun _ _ _ h => h)
    · rfl
    · (intro w hSw; (try dsimp only at hSw); go_simp; try with_reducible rfl)
    (try simp only [Act.put, List.setIfInBounds_toArray, List.set_cons_zero, List.set_cons_succ])
    refine wpAnyH_take (i := 13) (oi := ?_) (v := ?_) ?_ (by kernel_rfl) (by kernel_rfl) (by kernel_rfl) ?_ (Or.inl ⟨?_, ?_⟩) hHeld ?_
    rotate_left 2
    · (simp only [List.getElem?_toArray, List.getElem?_cons_zero, List.getElem?_cons_succ]; rfl)
    · exact (fun _ _ _ h => h)
    · rfl
    · (intro w hSw; (try dsimp only at hSw); go_simp; try with_reducible rfl)
    (try simp only [Act.put, List.setIfInBounds_toArray, List.set_cons_zero, List.set_cons_succ])
    refine wpAnyH_take (i := 14) (oi := ?_) (v := ?_) ?_ (by kernel_rfl) (by kernel_rfl) (by kernel_rfl) ?_ (Or.inl ⟨?_, ?_⟩) hHeld ?_
    rotate_left 2
    · (simp only [List.getElem?_toArray, List.getElem?_cons_zero, List.getElem?_cons_succ]; rfl)
    · exact (fun _ _ _ h => h)
    · rfl
    · (intro w hSw; (try dsimp only at hSw); go_simp; try with_reducible rfl)
    (try simp only [Act.put, List.setIfInBounds_toArray, List.set_cons_zero, List.set_cons_succ])
    refine wpAnyH_take (i := 15) (oi := ?_) (v := ?_) ?_ (by kernel_rfl) (by kernel_rfl) (by kernel_rfl) ?_ (Or.inl ⟨?_, ?_⟩) hHeld ?_
    rotate_left 2
    · (simp only [List.getElem?_toArray, List.getElem?_cons_zero, List.getElem?_cons_succ]; rfl)
    · exact (fun _ _ _ h => h)
    · rfl
    · (intro w hSw; (try dsimp only at hSw); go_simp; try with_reducible rfl)
    (try simp only [Act.put, List.setIfInBounds_toArray, List.set_cons_zero, List.set_cons_succ])
    refine wpAnyH_take (i := 16) (oi := ?_) (v := ?_) ?_ (by kernel_rfl) (by kernel_rfl) (by kernel_rfl) ?_ (Or.inl ⟨?_, ?_⟩) hHeld ?_
    rotate_left 2
    · (simp only [List.getElem?_toArray, List.getElem?_cons_zero, List.getElem?_cons_succ]; rfl)
    · exact (fun _ _ _ h => h)
    · rfl
    · (intro w hSw; (try dsimp only at hSw); go_simp; try with_reducible rfl)
    (try simp only [Act.put, List.setIfInBounds_toArray, List.set_cons_zero, List.set_cons_succ])
    refine wpAnyH_take (i := 17) (oi := ?_) (v := ?_) ?_ (by kernel_rfl) (by kernel_rfl) (by kernel_rfl) ?_ (Or.inl ⟨?_, ?_⟩) hHeld ?_
    rotate_left 2
    · (simp only [List.getElem?_toArray, List.getElem?_cons_zero, List.getElem?_cons_succ]; rfl)
    · exact (fun _ _ _ h => h)
    · rfl
    · (intro w hSw; (try dsimp only at hSw); obtain ⟨c0, c1, c2, c3, c4, c5, c6, c7, c8, c9, c10, c11⟩ := blk_twelve hSw.blk; go_simp; try with_reducible rfl)
    (try simp only [Act.put, List.setIfInBounds_toArray, List.set_cons_zero, List.set_cons_succ])
    refine wpAnyH_take (i := 18) (oi := ?_) (v := ?_) ?_ (by kernel_rfl) (by kernel_rfl) (by kernel_rfl) ?_ (Or.inl ⟨?_, ?_⟩) hHeld ?_
    rotate_left 2
    · (simp only [List.getElem?_toArray, List.getElem?_cons_zero, List.getElem?_cons_succ]; rfl)
    · exact (fun _ _ _ h => h)
    · rfl
    · (intro w hSw; (try dsimp only at hSw); go_simp; try with_reducible rfl)
    (try simp only [Act.put, List.setIfInBounds_toArray, List.set_cons_zero, List.set_cons_succ])
    refine wpAnyH_take (i := 19) (oi := ?_) (v := ?_) ?_ (by kernel_rfl) (by kernel_rfl) (by kernel_rfl) ?_ (Or.inl ⟨?_, ?_⟩) hHeld ?_
    rotate_left 2
    · (simp only [List.getElem?_toArray, List.getElem?_cons_zero, List.getElem?_cons_succ]; rfl)
    · exact (fun _ _ _ h => h)
    · rfl
    · (intro w hSw; (try dsimp only at hSw); go_simp; try with_reducible rfl)
    (try simp only [Act.put, List.setIfInBounds_toArray, List.set_cons_zero, List.set_cons_succ])
    refine wpAnyH_take (i := 20) (oi := ?_) (v := ?_) ?_ (by kernel_rfl) (by kernel_rfl) (by kernel_rfl) ?_ (Or.inl ⟨?_, ?_⟩) hHeld ?_
    rotate_left 2
    · (simp only [List.getElem?_toArray, List.getElem?_cons_zero, List.getElem?_cons_succ]; rfl)
    · exact (fun _ _ _ h => h)
    · rfl
    · (intro w hSw; (try dsimp only at hSw); go_simp; try with_reducible rfl)
    (try simp only [Act.put, List.setIfInBounds_toArray, List.set_cons_zero, List.set_cons_succ])
    refine wpAnyH_take (i := 21) (oi := ?_) (v := ?_) ?_ (by kernel_rfl) (by kernel_rfl) (by kernel_rfl) ?_ (Or.inl ⟨?_, ?_⟩) hHeld ?_
    rotate_left 2
    · (simp only [List.getElem?_toArray, List.getElem?_cons_zero, List.getElem?_cons_succ]; rfl)
    · exact (fun _ _ _ h => h)
    · rfl
    · (intro w hSw; (try dsimp only at hSw); go_simp; try with_reducible rfl)
    (try simp only [Act.put, List.setIfInBounds_toArray, List.set_cons_zero, List.set_cons_succ])
    refine wpAnyH_take (i := 22) (oi := ?_) (v := ?_) ?_ (by kernel_rfl) (by kernel_rfl) (by kernel_rfl) ?_ (Or.inl ⟨?_, ?_⟩) hHeld ?_
    rotate_left 2
    · (simp only [List.getElem?_toArray, List.getElem?_cons_zero, List.getElem?_cons_succ]; rfl)
    · exact (fun _ _ _ h => h)
    · rfl
    · (intro w hSw; (try dsimp only at hSw); go_simp; try with_reducible rfl)
    (try simp only [Act.put, List.setIfInBounds_toArray, List.set_cons_zero, List.set_cons_succ])
    refine wpAnyH_take (i := 23) (oi := ?_) (v := ?_) ?_ (by kernel_rfl) (by kernel_rfl) (by kernel_rfl) ?_ (Or.inl ⟨?_, ?_⟩) hHeld ?_
    rotate_left 2
    · (simp only [List.getElem?_toArray, List.getElem?_cons_zero, List.getElem?_cons_succ]; rfl)
    · exact (fun _ _ _ h => h)
    · rfl
    · (intro w hSw; (try dsimp only at hSw); obtain ⟨c0, c1, c2, c3, c4, c5, c6, c7, c8, c9, c10, c11⟩ := blk_twelve hSw.blk; go_simp; try with_reducible rfl)
    (try simp only [Act.put, List.setIfInBounds_toArray, List.set_cons_zero, List.set_cons_succ])
    refine wpAnyH_take (i := 24) (oi := ?_) (v := ?_) ?_ (by kernel_rfl) (by kernel_rfl) (by kernel_rfl) ?_ (Or.inl ⟨?_, ?_⟩) hHeld ?_
    rotate_left 2
    · (simp only [List.getElem?_toArray, List.getElem?_cons_zero, List.getElem?_cons_succ]; rfl)
    · exact (fun _ _ _ h => h)
    · rfl
    · (intro w hSw; (try dsimp only at hSw); go_simp; try with_reducible rfl)
    (try simp only [Act.put, List.setIfInBounds_toArray, List.set_cons_zero, List.set_cons_succ])
    refine wpAnyH_take (i := 25) (oi := ?_) (v := ?_) ?_ (by kernel_rfl) (by kernel_rfl) (by kernel_rfl) ?_ (Or.inl ⟨?_, ?_⟩) hHeld ?_
    rotate_left 2
    · (simp only [List.getElem?_toArray, List.getElem?_cons_zero, List.getElem?_cons_succ]; rfl)
    · exact (fun _ _ _ h => h)
    · rfl
    · (intro w hSw; (try dsimp only at hSw); go_simp; try with_reducible rfl)
    (try simp only [Act.put, List.setIfInBounds_toArray, List.set_cons_zero, List.set_cons_succ])
    refine wpAnyH_done (by kernel_rfl) ?_ _
    clear ql qo qm qb HKl HKo HPl HPo hHeld
    obtain ⟨c0, c1, c2, c3, c4, c5, c6, c7, c8, c9, c10, c11⟩ := blk_twelve HS6.out.blk
    go_wp2_with fail
    (with_reducible refine (print_mode_any a b c d s l o m mn ba r (.slice ta n tc) _).mono ?_)
    rintro e w9 ⟨x4, rfl, hb, hv4⟩
    replace HS6 := Lib.hid (HS6.out.call hb)
    have HV4 := Lib.hid hv4
    clear hb hv4 c0 c1 c2 c3 c4 c5 c6 c7 c8 c9 c10 c11
    obtain ⟨c0, c1, c2, c3, c4, c5, c6, c7, c8, c9, c10, c11⟩ := blk_twelve HS6.out.blk
    go_wp2_with fail
    (with_reducible refine (print_routes_any a b c d s l o m mn ba r (.slice ta n tc) _).mono ?_)
    rintro e w10 ⟨x7, rfl, hb, hv7⟩
    replace HS6 := Lib.hid (HS6.out.call hb)
    replace HV4 := Lib.hid (HV4.out.below hb)
    have HV7 := Lib.hid hv7
    clear hb hv7 c0 c1 c2 c3 c4 c5 c6 c7 c8 c9 c10 c11
    go_upto_region 12 with fail
    go_cut [85] (fun z wx => z = .bool false ∧ Hid (Sb w wx #[.bool a, .bool b, .bool c, .bool d, .bool s, .bool l, .bool o, .int .i64 m, .bool mn, .bool ba, .int .i64 r, .slice ta n tc] (.slice ta n tc) ls))
    case first =>
      obtain ⟨c0, c1, c2, c3, c4, c5, c6, c7, c8, c9, c10, c11⟩ := blk_twelve HS6.out.blk
      rcases HV4.out with rfl | ⟨hm, g4, rfl, hy4⟩ <;> rcases HV7.out with rfl | ⟨hr, g7, rfl, hy7⟩
      · as_aux_lemma =>
          clear HV4 HV7
          have qm : (m != m) = false := by simp
          have qr : (r != r) = false := by simp
          replace c7 := cell_regrown c7
          replace c10 := cell_regrown c10
          refine wp_region_quiet_below (by kernel_rfl) (by kernel_rfl) ?_
          repeat (go_big_quiet_step (fail))
          refine wpQuiet_nil ?_
          intro _ hw'
          obtain ⟨⟨dq, osq⟩, hw''⟩ := hw'
          subst hw''
          go_wp2_with fail
          go_meet
          exact ⟨rfl, Lib.hid (HS6.out.call (below_regrown _ dq osq))⟩
      · as_aux_lemma =>
          have HM7 := Lib.hid (fun (W : World) (hW : Below w10.heap.size w10 W) => (routes_to true _ _ r (sone_byte hr.1 (by omega)) W 8 256 r (by decide) (if_pos hr) (hy7.below hW)).mono (fun e w' (h : e = .returned (.int .i64 r) ∧ w' = W) => (⟨h.1, by rw [h.2]; exact Below.refl _ W⟩ : e = .returned (.int .i64 r) ∧ Below W.heap.size W w')))
          clear hy7
          clear HV4 HV7
          have qm : (m != m) = false := by simp
          have qr : (r != r) = false := by simp
          replace c7 := cell_regrown c7
          replace c10 := cell_regrown c10
          refine wp_region_quiet_below (by kernel_rfl) (by kernel_rfl) ?_
          repeat (go_big_quiet_step ((with_reducible exact Calls.regrown_of (HM7.out _ (below_regrown _ _ _)))))
          refine wpQuiet_nil ?_
          intro _ hw'
          obtain ⟨⟨dq, osq⟩, hw''⟩ := hw'
          subst hw''
          go_wp2_with fail
          go_meet
          exact ⟨rfl, Lib.hid (HS6.out.call (below_regrown _ dq osq))⟩
      · as_aux_lemma =>
          have HM4 := Lib.hid (fun (W : World) (hW : Below w10.heap.size w10 W) => (mode_to true _ _ m (sone_byte hm.1 (by omega)) W m (if_pos hm) (hy4.below hW)).mono (fun e w' (h : e = .returned (.int .i64 m) ∧ w' = W) => (⟨h.1, by rw [h.2]; exact Below.refl _ W⟩ : e = .returned (.int .i64 m) ∧ Below W.heap.size W w')))
          clear hy4
          clear HV4 HV7
          have qm : (m != m) = false := by simp
          have qr : (r != r) = false := by simp
          replace c7 := cell_regrown c7
          replace c10 := cell_regrown c10
          refine wp_region_quiet_below (by kernel_rfl) (by kernel_rfl) ?_
          repeat (go_big_quiet_step ((with_reducible exact Calls.regrown_of (HM4.out _ (below_regrown _ _ _)))))
          refine wpQuiet_nil ?_
          intro _ hw'
          obtain ⟨⟨dq, osq⟩, hw''⟩ := hw'
          subst hw''
          go_wp2_with fail
          go_meet
          exact ⟨rfl, Lib.hid (HS6.out.call (below_regrown _ dq osq))⟩
      · as_aux_lemma =>
          have HM4 := Lib.hid (fun (W : World) (hW : Below w10.heap.size w10 W) => (mode_to true _ _ m (sone_byte hm.1 (by omega)) W m (if_pos hm) (hy4.below hW)).mono (fun e w' (h : e = .returned (.int .i64 m) ∧ w' = W) => (⟨h.1, by rw [h.2]; exact Below.refl _ W⟩ : e = .returned (.int .i64 m) ∧ Below W.heap.size W w')))
          clear hy4
          have HM7 := Lib.hid (fun (W : World) (hW : Below w10.heap.size w10 W) => (routes_to true _ _ r (sone_byte hr.1 (by omega)) W 8 256 r (by decide) (if_pos hr) (hy7.below hW)).mono (fun e w' (h : e = .returned (.int .i64 r) ∧ w' = W) => (⟨h.1, by rw [h.2]; exact Below.refl _ W⟩ : e = .returned (.int .i64 r) ∧ Below W.heap.size W w')))
          clear hy7
          clear HV4 HV7
          have qm : (m != m) = false := by simp
          have qr : (r != r) = false := by simp
          replace c7 := cell_regrown c7
          replace c10 := cell_regrown c10
          refine wp_region_quiet_below (by kernel_rfl) (by kernel_rfl) ?_
          repeat (go_big_quiet_step (first | (with_reducible exact Calls.regrown_of (HM4.out _ (below_regrown _ _ _))) | (with_reducible exact Calls.regrown_of (HM7.out _ (below_regrown _ _ _)))))
          refine wpQuiet_nil ?_
          intro _ hw'
          obtain ⟨⟨dq, osq⟩, hw''⟩ := hw'
          subst hw''
          go_wp2_with fail
          go_meet
          exact ⟨rfl, Lib.hid (HS6.out.call (below_regrown _ dq osq))⟩
    case rest =>
      obtain ⟨rfl, HS12⟩ := hcut
      clear HS6 HV4 HV7
      go_wp2_with fail
      go_loopw [8] (fun i wr => ∃ j : Nat, j ≤ n ∧ i = .int .i64 (j : Int) ∧ Hid (Sb w wr #[.bool a, .bool b, .bool c, .bool d, .bool s, .bool l, .bool o, .int .i64 m, .bool mn, .bool ba, .int .i64 r, .slice ta n tc] (.slice ta n tc) ls)) (fun i _ => ((n : Int) - intOf i).toNat)
      case atStart => exact ⟨0, by omega, rfl, HS12⟩
      case round =>
        obtain ⟨j, hj, rfl, HS⟩ := hrel
        clear HS12
        by_cases hlt : j < n
        · obtain ⟨y, hy⟩ : ∃ y, ls[j]? = some y := ⟨_, List.getElem?_eq_getElem (by omega)⟩
          have hw1 : IntKind.i64.wrap (8 + (j : Int)) = 8 + (j : Int) := by rw [IntKind.wrap_i64]; omega
          have hw2 : IntKind.i64.wrap ((j : Int) + 1) = (j : Int) + 1 := by rw [IntKind.wrap_i64]; omega
          have HYY := Lib.hid hy
          have HJ := Lib.hid (show j < 1000 by omega)
          clear hy
          obtain ⟨c0, c1, c2, c3, c4, c5, c6, c7, c8, c9, c10, c11⟩ := blk_twelve HS.out.blk
          go_wp2_with fail
          (with_reducible refine (print_track_any a b c d s l o m mn ba r (.slice ta n tc) _ ls _ j y HS.out.els rfl HJ.out HYY.out).mono ?_)
          rintro e w11 ⟨x9, rfl, hb, hv9⟩
          have HT := Lib.hid (HS.out.call hb)
          have HV9 := Lib.hid hv9
          clear hb hv9 HS c0 c1 c2 c3 c4 c5 c6 c7 c8 c9 c10 c11
          go_upto_region 18 with fail
          go_cut [109] (fun z wx => z = .bool false ∧ Hid (Sb w wx #[.bool a, .bool b, .bool c, .bool d, .bool s, .bool l, .bool o, .int .i64 m, .bool mn, .bool ba, .int .i64 r, .slice ta n tc] (.slice ta n tc) ls))
          case first =>
            obtain ⟨c0, c1, c2, c3, c4, c5, c6, c7, c8, c9, c10, c11⟩ := blk_twelve HT.out.blk
            rcases HV9.out with rfl | ⟨hc9, g9, rfl, hy9⟩
            · as_aux_lemma =>
                replace c11 := cell_regrown c11
                refine wp_region_quiet_below (by kernel_rfl) (by kernel_rfl) ?_
                repeat (go_big_quiet_step (fail))
                refine wpQuiet_nil ?_
                intro _ hw'
                obtain ⟨⟨dq, osq⟩, hw''⟩ := hw'
                subst hw''
                go_wp2_with fail
                go_meet
                exact ⟨rfl, Lib.hid (HT.out.call (below_regrown _ dq osq))⟩
            · as_aux_lemma =>
                have hx0 : 0 ≤ (j : Int) ∧ (j : Int) < (n : Int) := by omega
                obtain ⟨g, p, rfl, hR⟩ := HT.out.els.at_ HYY.out
                obtain ⟨fr, ci, co, cs, li⟩ := y
                have HM := Lib.hid (fun (W : World) (hW : Below w11.heap.size w11 W) => counts_to true _ _ ⟨fr, ci, co, cs, li⟩ hc9 W (hy9.below hW))
                dsimp only at HM
                obtain ⟨d0, d1, d2, d3, d4⟩ := hR
                dsimp only at d0 d1 d2 d3 d4
                have hE := neq_cnt fr ci co cs li fr ci co cs li false (by simp)
                clear hy9 hc9 HV9
                replace d0 := cell_regrown d0
                replace d1 := cell_regrown d1
                replace d2 := cell_regrown d2
                replace d3 := cell_regrown d3
                replace d4 := cell_regrown d4
                replace c11 := cell_regrown c11
                refine wp_region_quiet_below (by kernel_rfl) (by kernel_rfl) ?_
                repeat (go_big_quiet_step ((with_reducible exact Calls.regrown_of (HM.out _ (below_regrown _ _ _)))))
                refine wpQuiet_nil ?_
                intro _ hw'
                obtain ⟨⟨dq, osq⟩, hw''⟩ := hw'
                subst hw''
                go_wp2_with fail
                go_meet
                exact ⟨rfl, Lib.hid (HT.out.call (below_regrown _ dq osq))⟩
          case rest =>
            obtain ⟨rfl, HU⟩ := hcut
            clear HT HV9
            go_wp2_with fail
            go_roundw
            case rel => exact ⟨j + 1, by omega, by simp, HU⟩
            case measure => simp [intOf]; omega
        · obtain rfl : j = n := by omega
          obtain ⟨c0, c1, c2, c3, c4, c5, c6, c7, c8, c9, c10, c11⟩ := blk_twelve HS.out.blk
          go_wp2_with fail
          go_ret
          exact ⟨rfl, HS.out.bel⟩
theorem back_any (a b c d s l o : Bool) (m : Int) (mn ba : Bool) (r : Int) (tv : Value) (ls : List Ct) (w : World) (hv : Els RCt 5 w tv ls) : Calls Try.prog 4 #[.agg #[.bool a, .bool b, .bool c, .bool d, .bool s, .bool l, .bool o, .int .i64 m, .bool mn, .bool ba, .int .i64 r, tv]] w fun e w' => e = .returned (.bool true) ∧ Below w.heap.size w w' := by
  obtain ⟨ta, tc, rfl⟩ := hv.len
  by_cases h : 8 < ls.length
  · exact back_long a b c d s l o m mn ba r ta _ tc ls w hv h
  · exact back_main a b c d s l o m mn ba r ta _ tc ls w hv rfl (by omega)
end Go.Proofs.Ytnbhjnbdnngiiaa

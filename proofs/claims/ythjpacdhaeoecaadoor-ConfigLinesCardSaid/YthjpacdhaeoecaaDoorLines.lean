/-
  The walk of crossbucklaw08.ConfigLines: true, whatever it is given.
-/
import Derived.Test.YthjpacdhaeoecaaDoorAny
import Derived.Test.YthjpacdhaeoecaaDoorTurned
import Derived.Deep.RegionHeld3
namespace Go.Proofs.YthjpacdhaeoecaaDoor
open Go.RowKit

theorem step_appL {w : World} {ops : Array Oper} {o : Oper} {a : Act} {K : Act → World → Prop} {Q : Exit → Act → World → Prop} {E : Prop} (hgd : o.guard = none) (s x : Operand)
    (ho : o.op = .call { callee := .builtin .append, args := #[s, x], argTypes := #[22, 22] })
    (B : Nat) (v : Value) (n : Nat) (ls : List Ln) (hs : a.eval s = v) (hn : n = ls.length) (hown : OwnL w B v ls) (g0 o0 m c : Nat) (us : List Ln) (hx : a.eval x = .slice (some ⟨g0, o0, none⟩) m c) (hm : us.length = m)
    (hu : Els RLn 5 w (.slice (some ⟨g0, o0, none⟩) m c) us) (h0 : 0 < m) (hl : n + m ≤ 1000000) (hB : B ≤ w.heap.size) (N : Nat) (hN : n + m = N)
    (h : ∀ g cap w', OwnL w' B (.slice (some ⟨g, 0, none⟩) N cap) (ls ++ us) → w.grownBy w' v.ownBlock → K (a.put o.dst (.slice (some ⟨g, 0, none⟩) N cap)) w') :
    if Region.wanted o (yielded ops a.tmps) = true then Oper.wp Tryd.prog o a w K Q else E := by
  obtain ⟨i0, hi, hz0, hz1, hz2⟩ := info_parts infoL
  subst hN
  refine step_append_lies w hgd s x 22 ho B 48 i0 (.agg #[.int .i64 0, .int .i64 0, .int .i64 0, .int .i64 0, .int .i64 0]) 5 40 Tryd.underlying22 hi hz0 hz1 hz2 rfl (by decide) v n (ls.flatMap lnl) hs (by rw [hn]; exact hown)
    ⟨g0, o0, none⟩ m c (us.flatMap lnl) hx (by rw [lnl_len, hm]) hu.cells_of (lnl_one us) h0 (by unfold maxLen; omega) (by omega) hB _ rfl (fun g cap w' h1 h2 _ _ => h g cap w' ?_ h2)
  unfold OwnL
  rw [List.length_append, List.flatMap_append, hm, ← hn]
  exact h1
theorem els_blk {w : World} {g : Nat} {lk lg la lb lc : Int} {T : TypeId} (hb : Blk w g #[.int .i64 lk, .int .i64 lg, .int .i64 la, .int .i64 lb, .int .i64 lc] T) : Els RLn 5 w (.slice (some ⟨g, 0, none⟩) 1 1) [⟨lk, lg, la, lb, lc⟩] := by
  refine ⟨_, 1, rfl, fun j y hy => ⟨_, _, rfl, ?_⟩⟩
  rcases j with _ | j
  · cases hy
    exact ⟨hb.cell 0 rfl, hb.cell 1 rfl, hb.cell 2 rfl, hb.cell 3 rfl, hb.cell 4 rfl⟩
  · cases hy
theorem okC_more {T : Nat → Int} {ls : List Ln} {l : Ln} (h : OkC T ls) : OkC T (ls ++ [l]) ↔ ls.length < 8 ∧ OkL l := by
  obtain ⟨h1, h2, h3⟩ := h
  constructor
  · rintro ⟨k1, _, k3⟩
    have := k1.2
    rw [List.length_append, List.length_singleton] at this
    exact ⟨by omega, k3 l (by simp)⟩
  · rintro ⟨k1, k2⟩
    refine ⟨⟨by simp, by rw [List.length_append, List.length_singleton]; omega⟩, h2, fun x hx => ?_⟩
    rcases List.mem_append.1 hx with hx | hx
    · exact h3 x hx
    · rw [List.mem_singleton.1 hx]; exact k2
theorem okC_one {T : Nat → Int} {ls : List Ln} {l : Ln} (h : OkC T ls) : OkC T [l] ↔ OkL l := by
  constructor
  · intro k
    exact k.2.2 l (by simp)
  · intro k
    refine ⟨by simp [OkN], h.2.1, fun x hx => ?_⟩
    rw [List.mem_singleton.1 hx]; exact k
theorem low_of {B : Nat} {w w1 w2 : World} {r : Option Nat} (h : Below B w w1) (hg : w1.grownBy w2 r) (hr : ∀ g, r = some g → B ≤ g) (hB : B ≤ w1.heap.size) : Below B w w2 := h.grown hg hB hr

set_option maxHeartbeats 4000000 in
set_option maxRecDepth 10000 in
theorem lines_head (a : Option Addr) (n c : Nat) (T : Nat → Int) (ls : List Ln) (lk lg la lb lc : Int) (hh : 20 < n ∨ (n ≤ 20 ∧ ¬ OkC T ls)) (w : World) (hv : Els RLn 5 w (.slice a n c) ls) :
    Calls Tryd.prog 6 #[.agg (cfc (.slice a n c) T), .agg #[.int .i64 lk, .int .i64 lg, .int .i64 la, .int .i64 lb, .int .i64 lc]] w fun e w' => e = .returned (.bool true) ∧ Below w.heap.size w w' := by
  have HB := Lib.hid (below_alloc (below_alloc (Below.refl _ w) (.cells (cfc (.slice a n c) T) 26)) (.cells #[.int .i64 lk, .int .i64 lg, .int .i64 la, .int .i64 lb, .int .i64 lc] 48))
  have HX := Lib.hid ((cx_new w (.slice a n c) T ls hv).below (below_alloc (Below.refl _ _) (.cells #[.int .i64 lk, .int .i64 lg, .int .i64 la, .int .i64 lb, .int .i64 lc] 48)))
  clear hv
  unfold cfc at *
  go_enter Tryd.func6, Tryd.ntmps6
  go_wp2_with fail
  (with_reducible refine (small_true _).mono ?_)
  rintro e w1 ⟨rfl, hb⟩
  obtain ⟨c0, c1, c2, c3, c4, c5, c6, c7, c8, c9, c10⟩ := cells11 (HX.out.below hb)
  have HX1 := Lib.hid (HX.out.below hb)
  have HB1 := Lib.hid (below_call HB.out hb)
  clear hb HB HX
  by_cases h1 : 20 < n
  · have q0 : decide ((20 : Int) < (n : Int)) = true := decide_eq_true (by omega)
    clear h1 hh
    go_wp2_with fail
    go_ret
    exact ⟨rfl, HB1.out⟩
  · have q0 : decide ((20 : Int) < (n : Int)) = false := decide_eq_false (by omega)
    have hok : ¬ OkC T ls := by rcases hh with h | h; exact absurd h h1; exact h.2
    have HE := Lib.hid (fun w h => check_any (.slice a n c) T ls 6 (if_neg hok).symm w h)
    unfold cfc at HE
    clear h1 hh hok
    go_wp2_with fail
    (with_reducible refine (HE.out _ HX1.out.els).mono ?_)
    rintro e w2 ⟨r2, rfl, hr, hb⟩
    obtain ⟨g2, rfl, _⟩ := hr.not (by decide)
    have HB2 := Lib.hid (below_call HB1.out hb)
    clear hr hb HB1 HX1 HE c0 c1 c2 c3 c4 c5 c6 c7 c8 c9 c10
    go_wp2_with fail
    go_ret
    exact ⟨rfl, HB2.out⟩

/-- Stores into another block touch no line. -/
theorem els_apart {w w' : World} {g o n c b : Nat} {ls : List Ln} (h : Els RLn 5 w (.slice (some ⟨g, o, none⟩) n c) ls) (ha : Apart b w w') (hg : g ≠ b) : Els RLn 5 w' (.slice (some ⟨g, o, none⟩) n c) ls := by
  obtain ⟨a, c', e, h1⟩ := h
  refine ⟨a, c', e, fun j y hy => ?_⟩
  obtain ⟨g', o', ea, hr⟩ := h1 j y hy
  rw [ea] at e
  simp only [Value.slice.injEq, Option.some.injEq, Addr.mk.injEq] at e
  obtain ⟨⟨rfl, rfl, _⟩, _⟩ := e
  exact ⟨g, o, ea, ha.cell hr.1 hg, ha.cell hr.2.1 hg, ha.cell hr.2.2.1 hg, ha.cell hr.2.2.2.1 hg, ha.cell hr.2.2.2.2 hg⟩

set_option maxHeartbeats 16000000 in
set_option maxRecDepth 10000 in
theorem lines_yes (g o n c : Nat) (T : Nat → Int) (ls : List Ln) (lk lg la lb lc : Int) (hn : n = ls.length) (hok : OkC T ls) (hl : OkL ⟨lk, lg, la, lb, lc⟩) (h8 : n < 8) (w : World) (hv : Els RLn 5 w (.slice (some ⟨g, o, none⟩) n c) ls) :
    Calls Tryd.prog 6 #[.agg (cfc (.slice (some ⟨g, o, none⟩) n c) T), .agg #[.int .i64 lk, .int .i64 lg, .int .i64 la, .int .i64 lb, .int .i64 lc]] w fun e w' => e = .returned (.bool true) ∧ Below w.heap.size w w' := by
  have hn0 : 0 < n := by have := hok.1; omega
  have hn8 : n ≤ 8 := by have := hok.1; omega
  have hgw : g < w.heap.size := by
    obtain ⟨y, hy⟩ : ∃ y, ls[0]? = some y := ⟨_, List.getElem?_eq_getElem (by omega)⟩
    obtain ⟨g', o', e, hr⟩ := hv.at_ hy
    simp only [Option.some.injEq, Addr.mk.injEq] at e
    obtain ⟨rfl, rfl, _⟩ := e
    exact lt_of_cell hr.1
  have HN := Lib.hid hn
  have HE := Lib.hid (fun w h => check_any (.slice (some ⟨g, o, none⟩) n c) T ls 0 (if_pos hok).symm w h)
  have HMORE := Lib.hid (fun g cap w h => check_any (.slice (some ⟨g, 0, none⟩) (n + 1) cap) T (([] ++ ls) ++ [⟨lk, lg, la, lb, lc⟩]) 0 (if_pos ((okC_more hok).2 ⟨by omega, hl⟩)).symm w h)
  have HONE := Lib.hid (fun g w h => check_any (.slice (some ⟨g, 0, none⟩) 1 1) T [⟨lk, lg, la, lb, lc⟩] 0 (if_pos ((okC_one hok).2 hl)).symm w h)
  have q8 : decide ((n : Int) < 8) = true := decide_eq_true (by omega)
  have q8' : decide (n < 8) = true := decide_eq_true (by omega)
  have HB := Lib.hid (below_alloc (below_alloc (Below.refl _ w) (.cells (cfc (.slice (some ⟨g, o, none⟩) n c) T) 26)) (.cells #[.int .i64 lk, .int .i64 lg, .int .i64 la, .int .i64 lb, .int .i64 lc] 48))
  have HX := Lib.hid ((cx_new w (.slice (some ⟨g, o, none⟩) n c) T ls hv).below (below_alloc (Below.refl _ _) (.cells #[.int .i64 lk, .int .i64 lg, .int .i64 la, .int .i64 lb, .int .i64 lc] 48)))
  have hY := blk_new (w.alloc (.cells (cfc (.slice (some ⟨g, o, none⟩) n c) T) 26)) #[.int .i64 lk, .int .i64 lg, .int .i64 la, .int .i64 lb, .int .i64 lc] 48
  rw [show (w.alloc (.cells (cfc (.slice (some ⟨g, o, none⟩) n c) T) 26)).heap.size = w.heap.size + 1 by simp] at hY
  have HY := Lib.hid hY
  have q0 : decide ((20 : Int) < (n : Int)) = false := decide_eq_false (by omega)
  clear hv hY hn hok hl h8
  unfold cfc at *
  go_enter Tryd.func6, Tryd.ntmps6
  go_wp2_with fail
  (with_reducible refine (small_true _).mono ?_)
  rintro e w1 ⟨rfl, hb⟩
  obtain ⟨c0, c1, c2, c3, c4, c5, c6, c7, c8, c9, c10⟩ := cells11 (HX.out.below hb)
  have HX1 := Lib.hid (HX.out.below hb)
  have HY1 := Lib.hid (HY.out.below hb)
  have HB1 := Lib.hid (below_call HB.out hb)
  clear hb HB HX HY
  go_wp2_with fail
  (with_reducible refine (HE.out _ HX1.out.els).mono ?_)
  rintro e w2 ⟨r2, rfl, hr, hb⟩
  obtain rfl := hr.nil
  have HK := Lib.hid (below_call (below_alloc (Below.refl _ w2) (.cells (cfc (.slice (some ⟨g, o, none⟩) n c) T) 26)) (bel_drew _))
  have hb2 := below_call hb HK.out
  have HXd := Lib.hid (HX1.out.below hb2)
  have HYd := Lib.hid (HY1.out.below hb2)
  have HBd := Lib.hid (below_call HB1.out hb2)
  have HZd := Lib.hid ((blk_new w2 (cfc (.slice (some ⟨g, o, none⟩) n c) T) 26).below (bel_drew _))
  have hlt1 := HX1.out.blk.lt
  have hltY := HY1.out.lt
  have hlt2 := hb.size
  have hlt3 : w2.heap.size < (w2.alloc (.cells (cfc (.slice (some ⟨g, o, none⟩) n c) T) 26)).drew.heap.size := HZd.out.lt
  clear c0 c1 c2 c3 c4 c5 c6 c7 c8 c9 c10
  obtain ⟨c0, c1, c2, c3, c4, c5, c6, c7, c8, c9, c10⟩ := cells11 (HX1.out.below hb)
  clear hb hb2 hr HX1 HY1 HB1 HE HK
  unfold cfc at *
  go_wp2_with fail
  clear c0 c1 c2 c3 c4 c5 c6 c7 c8 c9 c10
  refine wp_region_held_drew (S := (fun w' => Cx w' w.heap.size (.slice (some ⟨g, o, none⟩) n c) T ls ∧ Blk w' (w.heap.size + 1) #[.int .i64 lk, .int .i64 lg, .int .i64 la, .int .i64 lb, .int .i64 lc] 48)) (by kernel_rfl) ⟨HXd.out, HYd.out⟩ (fun hHeld => ?_)
  generalize (w2.alloc (.cells #[.slice (some ⟨g, o, none⟩) n c, .int .i64 (T 0), .int .i64 (T 1), .int .i64 (T 2), .int .i64 (T 3), .int .i64 (T 4), .int .i64 (T 5), .int .i64 (T 6), .int .i64 (T 7), .int .i64 (T 8), .int .i64 (T 9)] 26)).drew = Wd at *
  have HOLD := Lib.hid (show ∀ w', Below Wd.heap.size Wd w' → (fun w' => Cx w' w.heap.size (.slice (some ⟨g, o, none⟩) n c) T ls ∧ Blk w' (w.heap.size + 1) #[.int .i64 lk, .int .i64 lg, .int .i64 la, .int .i64 lb, .int .i64 lc] 48) w' from fun _ hb => ⟨HXd.out.below hb, HYd.out.below hb⟩)
  refine wpAnyH_take (i := 1) (oi := ?_) (v := ?_) ?_ (by kernel_rfl) (by kernel_rfl) (by kernel_rfl) ?_ (Or.inl ⟨?_, ?_⟩) hHeld ?_
  rotate_left 2
  · (simp only [List.getElem?_toArray, List.getElem?_cons_zero, List.getElem?_cons_succ]; rfl)
  · exact (fun _ _ _ h => h)
  · rfl
  · (intro w hSw; (try dsimp only at hSw); go_simp; try with_reducible rfl)
  (try simp only [Act.put, List.setIfInBounds_toArray, List.set_cons_zero, List.set_cons_succ])
  refine wpAnyH_take (i := 2) (oi := ?_) (v := ?_) ?_ (by kernel_rfl) (by kernel_rfl) (by kernel_rfl) ?_ (Or.inl ⟨?_, ?_⟩) hHeld ?_
  rotate_left 2
  · (simp only [List.getElem?_toArray, List.getElem?_cons_zero, List.getElem?_cons_succ]; rfl)
  · exact (fun _ _ _ h => h)
  · rfl
  · (intro w hSw; (try dsimp only at hSw); obtain ⟨c0, c1, c2, c3, c4, c5, c6, c7, c8, c9, c10⟩ := cells11 hSw.1; go_simp; try with_reducible rfl)
  (try simp only [Act.put, List.setIfInBounds_toArray, List.set_cons_zero, List.set_cons_succ])
  refine wpAnyH_take (i := 4) (oi := ?_) (v := ?_) ?_ (by kernel_rfl) (by kernel_rfl) (by kernel_rfl) ?_ (Or.inl ⟨?_, ?_⟩) hHeld ?_
  rotate_left 2
  · (simp only [List.getElem?_toArray, List.getElem?_cons_zero, List.getElem?_cons_succ]; rfl)
  · exact (fun _ _ _ h => h)
  · rfl
  · (intro w hSw; (try dsimp only at hSw); have y0 := hSw.2.cell 0 (u := .int .i64 lk) rfl; have y1 := hSw.2.cell 1 (u := .int .i64 lg) rfl; have y2 := hSw.2.cell 2 (u := .int .i64 la) rfl; have y3 := hSw.2.cell 3 (u := .int .i64 lb) rfl; have y4 := hSw.2.cell 4 (u := .int .i64 lc) rfl; go_simp; try with_reducible rfl)
  (try simp only [Act.put, List.setIfInBounds_toArray, List.set_cons_zero, List.set_cons_succ])
  refine wpAnyH_ready (rs := [0, 5]) (by kernel_rfl) (by simp) ?_
  refine AllReadyH.cons (o := ?_) ?_ (fun K hK => ?_) ?_
  rotate_left
  · (simp only [List.getElem?_toArray, List.getElem?_cons_zero]; rfl)
  · -- 0 first
    go_simp
    have HOL := Lib.hid (ownL_lit Wd Wd.heap.size (Nat.le_refl _))
    have HBZ := Lib.hid (below_alloc (Below.refl _ Wd) (.cells #[] 48))
    refine hK.out _ _ (HOLD.out _ HBZ.out) (fun hHeld => ?_)
    clear hK K
    (try simp only [Act.put, List.setIfInBounds_toArray, List.set_cons_zero, List.set_cons_succ])
    refine wpAnyH_ready (rs := [3, 5]) (by kernel_rfl) (by simp) ?_
    refine AllReadyH.cons (o := ?_) ?_ (fun K hK => ?_) ?_
    rotate_left
    · (simp only [List.getElem?_toArray, List.getElem?_cons_zero, List.getElem?_cons_succ]; rfl)
    · -- 3 first
      refine step_appL rfl _ _ rfl Wd.heap.size (.slice (some ⟨Wd.heap.size, 0, none⟩) 0 0) 0 [] rfl rfl HOL.out g o n c ls rfl HN.out.symm (HOLD.out _ HBZ.out).1.els hn0 (by omega) HBZ.out.size n (Nat.zero_add n) ?_
      intro g3 cap3 w3 hown hg
      have HO3 := Lib.hid hown
      have HB3 := Lib.hid (low_of HBZ.out hg (fun g e => (HOL.out.lt e).1) HBZ.out.size)
      clear hown hg
      refine hK.out _ _ (HOLD.out _ HB3.out) (fun hHeld => ?_)
      clear hK K
      (try simp only [Act.put, List.setIfInBounds_toArray, List.set_cons_zero, List.set_cons_succ])
      refine wpAnyH_ready (rs := [5]) (by kernel_rfl) (by simp) ?_
      refine AllReadyH.cons (o := ?_) ?_ (fun K hK => ?_) AllReadyH.nil
      rotate_left
      · (simp only [List.getElem?_toArray, List.getElem?_cons_zero, List.getElem?_cons_succ]; rfl)
      go_simp
      have hLB := blk_new w3 #[.int .i64 lk, .int .i64 lg, .int .i64 la, .int .i64 lb, .int .i64 lc] 48
      have HLB := Lib.hid hLB
      clear hLB
      have HBY := Lib.hid (HB3.out.trans ((below_alloc (Below.refl _ w3) (.cells #[.int .i64 lk, .int .i64 lg, .int .i64 la, .int .i64 lb, .int .i64 lc] 48)).mono HB3.out.size))
      have HO3N := Lib.hid (HO3.out.below (below_alloc (Below.refl _ w3) (.cells #[.int .i64 lk, .int .i64 lg, .int .i64 la, .int .i64 lb, .int .i64 lc] 48)))
      refine hK.out _ _ (HOLD.out _ HBY.out) (fun hHeld => ?_)
      clear hK K
      (try simp only [Act.put, List.setIfInBounds_toArray, List.set_cons_zero, List.set_cons_succ])
      refine wpAnyH_ready (rs := [6]) (by kernel_rfl) (by simp) ?_
      refine AllReadyH.cons (o := ?_) ?_ (fun K hK => ?_) AllReadyH.nil
      rotate_left
      · (simp only [List.getElem?_toArray, List.getElem?_cons_zero, List.getElem?_cons_succ]; rfl)
      refine step_appL rfl _ _ rfl Wd.heap.size (.slice (some ⟨g3, 0, none⟩) n cap3) n ([] ++ ls) rfl HN.out HO3N.out w3.heap.size 0 1 1 [⟨lk, lg, la, lb, lc⟩] rfl rfl (els_blk HLB.out) (by decide) (by omega) HBY.out.size (n + 1) rfl ?_
      intro g6 cap6 w6 hown hg
      have HO6 := Lib.hid hown
      have HB6 := Lib.hid (low_of HBY.out hg (fun g e => (HO3N.out.lt e).1) HBY.out.size)
      clear hown hg
      refine hK.out _ _ (HOLD.out _ HB6.out) (fun hHeld => ?_)
      clear hK K
      (try simp only [Act.put, List.setIfInBounds_toArray, List.set_cons_zero, List.set_cons_succ])
      have hZ6 := HZd.out.low HB6.out (by omega)
      have z0 := hZ6.cell 0 (u := .slice (some ⟨g, o, none⟩) n c) rfl
      have zf := hZ6.frz 0
      have HZ6 := Lib.hid hZ6
      clear hZ6
      refine wpAnyH_take (i := 7) (oi := ?_) (v := ?_) ?_ (by kernel_rfl) (by kernel_rfl) (by kernel_rfl) ?_ (Or.inl ⟨?_, ?_⟩) hHeld ?_
      rotate_left 2
      · (simp only [List.getElem?_toArray, List.getElem?_cons_zero, List.getElem?_cons_succ]; rfl)
      · exact (fun _ _ _ h => h)
      · rfl
      · (intro w hSw; (try dsimp only at hSw); go_simp; try with_reducible rfl)
      (try simp only [Act.put, List.setIfInBounds_toArray, List.set_cons_zero, List.set_cons_succ])
      refine wpAnyH_ready (rs := [8]) (by kernel_rfl) (by simp) ?_
      refine AllReadyH.cons (o := ?_) ?_ (fun K hK => ?_) AllReadyH.nil
      rotate_left
      · (simp only [List.getElem?_toArray, List.getElem?_cons_zero, List.getElem?_cons_succ]; rfl)
      go_simp
      have hS6 := HOLD.out _ HB6.out
      have hA : Apart w2.heap.size w6 (w6.setCell ⟨w2.heap.size, 0, none⟩ (.slice (some ⟨g6, 0, none⟩) (n + 1) cap6)) := Apart.set_ _ _ _ _
      have HX8 := Lib.hid (show Cx (w6.setCell ⟨w2.heap.size, 0, none⟩ (.slice (some ⟨g6, 0, none⟩) (n + 1) cap6)) w.heap.size (.slice (some ⟨g, o, none⟩) n c) T ls from ⟨hS6.1.blk.apart hA (by omega), els_apart hS6.1.els hA (by omega)⟩)
      have HY8 := Lib.hid (hS6.2.apart hA (by omega))
      have HZ8 := Lib.hid (show Blk (w6.setCell ⟨w2.heap.size, 0, none⟩ (.slice (some ⟨g6, 0, none⟩) (n + 1) cap6)) w2.heap.size (cfc (.slice (some ⟨g6, 0, none⟩) (n + 1) cap6) T) 26 from HZ6.out.set_ 0 (.slice (some ⟨g6, 0, none⟩) (n + 1) cap6))
      have HE8 := Lib.hid ((HO6.out.keep (F := fun x => x = w2.heap.size) (Keep.set_ w6 w2.heap.size 0 (.slice (some ⟨g6, 0, none⟩) (n + 1) cap6) rfl) (fun g e => by rw [e]; omega)).els)
      have HB8 := Lib.hid (bel_set (HBd.out.trans (HB6.out.mono (by omega))) (by omega : w.heap.size ≤ w2.heap.size) 0 (.slice (some ⟨g6, 0, none⟩) (n + 1) cap6))
      clear hS6 hA z0 zf HZ6 HO6
      refine hK.out _ _ ⟨HX8.out, HY8.out⟩ (fun hHeld => ?_)
      clear hK K
      (try simp only [Act.put, List.setIfInBounds_toArray, List.set_cons_zero, List.set_cons_succ])
      refine wpAnyH_done (by kernel_rfl) ?_ _
      have hsz8 := HZ8.out.lt
      generalize w6.setCell ⟨w2.heap.size, 0, none⟩ (.slice (some ⟨g6, 0, none⟩) (n + 1) cap6) = w8 at *
      obtain ⟨c0, c1, c2, c3, c4, c5, c6, c7, c8, c9, c10⟩ := cells11 HX8.out
      have hY := HY8.out.below (below_alloc (Below.refl _ w8) (.cells #[.slice (some ⟨g, o, none⟩) n c, .int .i64 (T 0), .int .i64 (T 1), .int .i64 (T 2), .int .i64 (T 3), .int .i64 (T 4), .int .i64 (T 5), .int .i64 (T 6), .int .i64 (T 7), .int .i64 (T 8), .int .i64 (T 9)] 26))
      have y0 := hY.cell 0 (u := .int .i64 lk) rfl
      have y1 := hY.cell 1 (u := .int .i64 lg) rfl
      have y2 := hY.cell 2 (u := .int .i64 la) rfl
      have y3 := hY.cell 3 (u := .int .i64 lb) rfl
      have y4 := hY.cell 4 (u := .int .i64 lc) rfl
      have hL7 := blk_new (w8.alloc (.cells #[.slice (some ⟨w8.heap.size + 1, 0, none⟩) 1 1, .int .i64 (T 0), .int .i64 (T 1), .int .i64 (T 2), .int .i64 (T 3), .int .i64 (T 4), .int .i64 (T 5), .int .i64 (T 6), .int .i64 (T 7), .int .i64 (T 8), .int .i64 (T 9)] 26)) #[.int .i64 lk, .int .i64 lg, .int .i64 la, .int .i64 lb, .int .i64 lc] 48
      rw [show (w8.alloc (.cells #[.slice (some ⟨w8.heap.size + 1, 0, none⟩) 1 1, .int .i64 (T 0), .int .i64 (T 1), .int .i64 (T 2), .int .i64 (T 3), .int .i64 (T 4), .int .i64 (T 5), .int .i64 (T 6), .int .i64 (T 7), .int .i64 (T 8), .int .i64 (T 9)] 26)).heap.size = w8.heap.size + 1 by simp] at hL7
      have HT9 := Lib.hid (show Blk ((w8.alloc (.cells #[.slice (some ⟨w8.heap.size + 1, 0, none⟩) 1 1, .int .i64 (T 0), .int .i64 (T 1), .int .i64 (T 2), .int .i64 (T 3), .int .i64 (T 4), .int .i64 (T 5), .int .i64 (T 6), .int .i64 (T 7), .int .i64 (T 8), .int .i64 (T 9)] 26)).alloc (.cells #[.int .i64 lk, .int .i64 lg, .int .i64 la, .int .i64 lb, .int .i64 lc] 48)) w8.heap.size (cfc (.slice (some ⟨w8.heap.size + 1, 0, none⟩) 1 1) T) 26 from (blk_new w8 _ _).below (below_alloc (Below.refl _ _) _))
      have HL9 := Lib.hid (show Els RLn 5 ((w8.alloc (.cells #[.slice (some ⟨w8.heap.size + 1, 0, none⟩) 1 1, .int .i64 (T 0), .int .i64 (T 1), .int .i64 (T 2), .int .i64 (T 3), .int .i64 (T 4), .int .i64 (T 5), .int .i64 (T 6), .int .i64 (T 7), .int .i64 (T 8), .int .i64 (T 9)] 26)).alloc (.cells #[.int .i64 lk, .int .i64 lg, .int .i64 la, .int .i64 lb, .int .i64 lc] 48)) (.slice (some ⟨w8.heap.size + 1, 0, none⟩) 1 1) [⟨lk, lg, la, lb, lc⟩] from els_blk hL7)
      have hK9 : Below w8.heap.size w8 ((w8.alloc (.cells #[.slice (some ⟨w8.heap.size + 1, 0, none⟩) 1 1, .int .i64 (T 0), .int .i64 (T 1), .int .i64 (T 2), .int .i64 (T 3), .int .i64 (T 4), .int .i64 (T 5), .int .i64 (T 6), .int .i64 (T 7), .int .i64 (T 8), .int .i64 (T 9)] 26)).alloc (.cells #[.int .i64 lk, .int .i64 lg, .int .i64 la, .int .i64 lb, .int .i64 lc] 48)) := below_alloc (below_alloc (Below.refl _ w8) _) _
      have HX9 := Lib.hid (HX8.out.below hK9)
      have HZ9 := Lib.hid (HZ8.out.below hK9)
      have HE9 := Lib.hid (HE8.out.below (fun _ _ _ h => h.below hK9))
      have HB9 := Lib.hid (below_call HB8.out hK9)
      clear hY hL7 hK9 HX8 HY8 HZ8 HE8 HB8
      go_wp2_with fail
      clear c0 c1 c2 c3 c4 c5 c6 c7 c8 c9 c10 y0 y1 y2 y3 y4
      generalize ((w8.alloc (.cells #[.slice (some ⟨w8.heap.size + 1, 0, none⟩) 1 1, .int .i64 (T 0), .int .i64 (T 1), .int .i64 (T 2), .int .i64 (T 3), .int .i64 (T 4), .int .i64 (T 5), .int .i64 (T 6), .int .i64 (T 7), .int .i64 (T 8), .int .i64 (T 9)] 26)).alloc (.cells #[.int .i64 lk, .int .i64 lg, .int .i64 la, .int .i64 lb, .int .i64 lc] 48)) = w9 at *
      refine wp_region_held_drew (S := (fun w' => Blk w' w2.heap.size (cfc (.slice (some ⟨g6, 0, none⟩) (n + 1) cap6) T) 26 ∧ Blk w' w8.heap.size (cfc (.slice (some ⟨w8.heap.size + 1, 0, none⟩) 1 1) T) 26 ∧ Blk w' w.heap.size (cfc (.slice (some ⟨g, o, none⟩) n c) T) 26)) (by kernel_rfl) ⟨HZ9.out, HT9.out, HX9.out.blk⟩ (fun hHeld => ?_)
      refine wpAnyH_take (i := 0) (oi := ?_) (v := ?_) ?_ (by kernel_rfl) (by kernel_rfl) (by kernel_rfl) ?_ (Or.inl ⟨?_, ?_⟩) hHeld ?_
      rotate_left 2
      · (simp only [List.getElem?_toArray, List.getElem?_cons_zero]; rfl)
      · exact (fun _ _ _ h => h)
      · rfl
      · (intro w hSw; (try dsimp only at hSw); go_simp; try with_reducible rfl)
      (try simp only [Act.put, List.setIfInBounds_toArray, List.set_cons_zero, List.set_cons_succ])
      refine wpAnyH_take (i := 1) (oi := ?_) (v := ?_) ?_ (by kernel_rfl) (by kernel_rfl) (by kernel_rfl) ?_ (Or.inl ⟨?_, ?_⟩) hHeld ?_
      rotate_left 2
      · (simp only [List.getElem?_toArray, List.getElem?_cons_zero, List.getElem?_cons_succ]; rfl)
      · exact (fun _ _ _ h => h)
      · rfl
      · (intro w hSw; (try dsimp only at hSw); go_simp; try with_reducible rfl)
      (try simp only [Act.put, List.setIfInBounds_toArray, List.set_cons_zero, List.set_cons_succ])
      refine wpAnyH_take (i := 2) (oi := ?_) (v := ?_) ?_ (by kernel_rfl) (by kernel_rfl) (by kernel_rfl) ?_ (Or.inl ⟨?_, ?_⟩) hHeld ?_
      rotate_left 2
      · (simp only [List.getElem?_toArray, List.getElem?_cons_zero, List.getElem?_cons_succ]; rfl)
      · exact (fun _ _ _ h => h)
      · rfl
      · (intro w hSw; (try dsimp only at hSw); obtain ⟨c0, c1, c2, c3, c4, c5, c6, c7, c8, c9, c10⟩ := Blk.eleven hSw.1; go_simp; try with_reducible rfl)
      (try simp only [Act.put, List.setIfInBounds_toArray, List.set_cons_zero, List.set_cons_succ])
      refine wpAnyH_take (i := 5) (oi := ?_) (v := ?_) ?_ (by kernel_rfl) (by kernel_rfl) (by kernel_rfl) ?_ (Or.inl ⟨?_, ?_⟩) hHeld ?_
      rotate_left 2
      · (simp only [List.getElem?_toArray, List.getElem?_cons_zero, List.getElem?_cons_succ]; rfl)
      · exact (fun _ _ _ h => h)
      · rfl
      · (intro w hSw; (try dsimp only at hSw); obtain ⟨c0, c1, c2, c3, c4, c5, c6, c7, c8, c9, c10⟩ := Blk.eleven hSw.2.1; go_simp; try with_reducible rfl)
      (try simp only [Act.put, List.setIfInBounds_toArray, List.set_cons_zero, List.set_cons_succ])
      refine wpAnyH_ready (rs := [3]) (by kernel_rfl) (by simp) ?_
      refine AllReadyH.cons (o := ?_) ?_ (fun K hK => ?_) AllReadyH.nil
      rotate_left
      · (simp only [List.getElem?_toArray, List.getElem?_cons_zero, List.getElem?_cons_succ]; rfl)
      go_simp
      (with_reducible refine (HMORE.out _ _ _ (HE9.out.below (fun _ _ _ h => h.below (bel_drew _)))).mono ?_)
      rintro e w10 ⟨r10, rfl, hr, hb⟩
      obtain rfl := hr.nil
      have HT10 := Lib.hid ((HT9.out.below (bel_drew _)).below hb)
      have HL10 := Lib.hid ((HL9.out.below (fun _ _ _ h => h.below (bel_drew _))).below (fun _ _ _ h => h.below hb))
      have HX10 := Lib.hid ((HX9.out.below (bel_drew _)).below hb)
      have HZ10 := Lib.hid ((HZ9.out.below (bel_drew _)).below hb)
      have HB10 := Lib.hid (below_call (below_call HB9.out (bel_drew _)) hb)
      clear hb hr HT9 HL9 HX9 HZ9 HB9
      go_wp2_with fail
      refine hK.out _ _ ⟨HZ10.out, HT10.out, HX10.out.blk⟩ (fun hHeld => ?_)
      clear hK K
      (try simp only [Act.put, List.setIfInBounds_toArray, List.set_cons_zero, List.set_cons_succ])
      refine wpAnyH_take (i := 4) (oi := ?_) (v := ?_) ?_ (by kernel_rfl) (by kernel_rfl) (by kernel_rfl) ?_ (Or.inl ⟨?_, ?_⟩) hHeld ?_
      rotate_left 2
      · (simp only [List.getElem?_toArray, List.getElem?_cons_zero, List.getElem?_cons_succ]; rfl)
      · exact (fun _ _ _ h => h)
      · rfl
      · (intro w hSw; (try dsimp only at hSw); go_simp; try with_reducible rfl)
      (try simp only [Act.put, List.setIfInBounds_toArray, List.set_cons_zero, List.set_cons_succ])
      refine wpAnyH_ready (rs := [6]) (by kernel_rfl) (by simp) ?_
      refine AllReadyH.cons (o := ?_) ?_ (fun K hK => ?_) AllReadyH.nil
      rotate_left
      · (simp only [List.getElem?_toArray, List.getElem?_cons_zero, List.getElem?_cons_succ]; rfl)
      go_simp
      (with_reducible refine (HONE.out _ _ HL10.out).mono ?_)
      rintro e w11 ⟨r11, rfl, hr, hb⟩
      obtain rfl := hr.nil
      have HT11 := Lib.hid (HT10.out.below hb)
      have HX11 := Lib.hid (HX10.out.below hb)
      have HZ11 := Lib.hid (HZ10.out.below hb)
      have HB11 := Lib.hid (below_call HB10.out hb)
      clear hb hr HT10 HL10 HX10 HZ10 HB10
      go_wp2_with fail
      refine hK.out _ _ ⟨HZ11.out, HT11.out, HX11.out.blk⟩ (fun hHeld => ?_)
      clear hK K
      (try simp only [Act.put, List.setIfInBounds_toArray, List.set_cons_zero, List.set_cons_succ])
      refine wpAnyH_take (i := 7) (oi := ?_) (v := ?_) ?_ (by kernel_rfl) (by kernel_rfl) (by kernel_rfl) ?_ (Or.inl ⟨?_, ?_⟩) hHeld ?_
      rotate_left 2
      · (simp only [List.getElem?_toArray, List.getElem?_cons_zero, List.getElem?_cons_succ]; rfl)
      · exact (fun _ _ _ h => h)
      · rfl
      · (intro w hSw; (try dsimp only at hSw); go_simp; try with_reducible rfl)
      (try simp only [Act.put, List.setIfInBounds_toArray, List.set_cons_zero, List.set_cons_succ])
      refine wpAnyH_take (i := 8) (oi := ?_) (v := ?_) ?_ (by kernel_rfl) (by kernel_rfl) (by kernel_rfl) ?_ (Or.inl ⟨?_, ?_⟩) hHeld ?_
      rotate_left 2
      · (simp only [List.getElem?_toArray, List.getElem?_cons_zero, List.getElem?_cons_succ]; rfl)
      · exact (fun _ _ _ h => h)
      · rfl
      · (intro w hSw; (try dsimp only at hSw); go_simp; try with_reducible rfl)
      (try simp only [Act.put, List.setIfInBounds_toArray, List.set_cons_zero, List.set_cons_succ])
      refine wpAnyH_take (i := 9) (oi := ?_) (v := ?_) ?_ (by kernel_rfl) (by kernel_rfl) (by kernel_rfl) ?_ (Or.inl ⟨?_, ?_⟩) hHeld ?_
      rotate_left 2
      · (simp only [List.getElem?_toArray, List.getElem?_cons_zero, List.getElem?_cons_succ]; rfl)
      · exact (fun _ _ _ h => h)
      · rfl
      · (intro w hSw; (try dsimp only at hSw); go_simp; try with_reducible rfl)
      (try simp only [Act.put, List.setIfInBounds_toArray, List.set_cons_zero, List.set_cons_succ])
      refine wpAnyH_take (i := 10) (oi := ?_) (v := ?_) ?_ (by kernel_rfl) (by kernel_rfl) (by kernel_rfl) ?_ (Or.inl ⟨?_, ?_⟩) hHeld ?_
      rotate_left 2
      · (simp only [List.getElem?_toArray, List.getElem?_cons_zero, List.getElem?_cons_succ]; rfl)
      · exact (fun _ _ _ h => h)
      · rfl
      · (intro w hSw; (try dsimp only at hSw); obtain ⟨c0, c1, c2, c3, c4, c5, c6, c7, c8, c9, c10⟩ := Blk.eleven hSw.2.2; go_simp; try with_reducible rfl)
      (try simp only [Act.put, List.setIfInBounds_toArray, List.set_cons_zero, List.set_cons_succ])
      refine wpAnyH_take (i := 11) (oi := ?_) (v := ?_) ?_ (by kernel_rfl) (by kernel_rfl) (by kernel_rfl) ?_ (Or.inl ⟨?_, ?_⟩) hHeld ?_
      rotate_left 2
      · (simp only [List.getElem?_toArray, List.getElem?_cons_zero, List.getElem?_cons_succ]; rfl)
      · exact (fun _ _ _ h => h)
      · rfl
      · (intro w hSw; (try dsimp only at hSw); go_simp; try with_reducible rfl)
      (try simp only [Act.put, List.setIfInBounds_toArray, List.set_cons_zero, List.set_cons_succ])
      refine wpAnyH_take (i := 12) (oi := ?_) (v := ?_) ?_ (by kernel_rfl) (by kernel_rfl) (by kernel_rfl) ?_ (Or.inl ⟨?_, ?_⟩) hHeld ?_
      rotate_left 2
      · (simp only [List.getElem?_toArray, List.getElem?_cons_zero, List.getElem?_cons_succ]; rfl)
      · exact (fun _ _ _ h => h)
      · rfl
      · (intro w hSw; (try dsimp only at hSw); go_simp; try with_reducible rfl)
      (try simp only [Act.put, List.setIfInBounds_toArray, List.set_cons_zero, List.set_cons_succ])
      refine wpAnyH_take (i := 13) (oi := ?_) (v := ?_) ?_ (by kernel_rfl) (by kernel_rfl) (by kernel_rfl) ?_ (Or.inl ⟨?_, ?_⟩) hHeld ?_
      rotate_left 2
      · (simp only [List.getElem?_toArray, List.getElem?_cons_zero, List.getElem?_cons_succ]; rfl)
      · exact (fun _ _ _ h => h)
      · rfl
      · (intro w hSw; (try dsimp only at hSw); go_simp; try with_reducible rfl)
      (try simp only [Act.put, List.setIfInBounds_toArray, List.set_cons_zero, List.set_cons_succ])
      refine wpAnyH_take (i := 14) (oi := ?_) (v := ?_) ?_ (by kernel_rfl) (by kernel_rfl) (by kernel_rfl) ?_ (Or.inl ⟨?_, ?_⟩) hHeld ?_
      rotate_left 2
      · (simp only [List.getElem?_toArray, List.getElem?_cons_zero, List.getElem?_cons_succ]; rfl)
      · exact (fun _ _ _ h => h)
      · rfl
      · (intro w hSw; (try dsimp only at hSw); go_simp; try with_reducible rfl)
      (try simp only [Act.put, List.setIfInBounds_toArray, List.set_cons_zero, List.set_cons_succ])
      refine wpAnyH_take (i := 15) (oi := ?_) (v := ?_) ?_ (by kernel_rfl) (by kernel_rfl) (by kernel_rfl) ?_ (Or.inl ⟨?_, ?_⟩) hHeld ?_
      rotate_left 2
      · (simp only [List.getElem?_toArray, List.getElem?_cons_zero, List.getElem?_cons_succ]; rfl)
      · exact (fun _ _ _ h => h)
      · rfl
      · (intro w hSw; (try dsimp only at hSw); go_simp; try with_reducible rfl)
      (try simp only [Act.put, List.setIfInBounds_toArray, List.set_cons_zero, List.set_cons_succ])
      refine wpAnyH_take (i := 16) (oi := ?_) (v := ?_) ?_ (by kernel_rfl) (by kernel_rfl) (by kernel_rfl) ?_ (Or.inl ⟨?_, ?_⟩) hHeld ?_
      rotate_left 2
      · (simp only [List.getElem?_toArray, List.getElem?_cons_zero, List.getElem?_cons_succ]; rfl)
      · exact (fun _ _ _ h => h)
      · rfl
      · (intro w hSw; (try dsimp only at hSw); go_simp; try with_reducible rfl)
      (try simp only [Act.put, List.setIfInBounds_toArray, List.set_cons_zero, List.set_cons_succ])
      refine wpAnyH_done (by kernel_rfl) ?_ _
      go_wp2_with fail
      go_ret
      exact ⟨rfl, HB11.out⟩
    · refine AllReadyH.cons (o := ?_) ?_ (fun K hK => ?_) AllReadyH.nil
      rotate_left
      · (simp only [List.getElem?_toArray, List.getElem?_cons_zero, List.getElem?_cons_succ]; rfl)
      go_simp
      have hLB := blk_new (Wd.alloc (.cells #[] 48)) #[.int .i64 lk, .int .i64 lg, .int .i64 la, .int .i64 lb, .int .i64 lc] 48
      rw [show (Wd.alloc (.cells #[] 48)).heap.size = Wd.heap.size + 1 by simp] at hLB
      have HLB := Lib.hid hLB
      clear hLB
      have HBY := Lib.hid (HBZ.out.trans ((below_alloc (Below.refl _ (Wd.alloc (.cells #[] 48))) (.cells #[.int .i64 lk, .int .i64 lg, .int .i64 la, .int .i64 lb, .int .i64 lc] 48)).mono HBZ.out.size))
      have HOLN := Lib.hid (HOL.out.below (below_alloc (Below.refl _ (Wd.alloc (.cells #[] 48))) (.cells #[.int .i64 lk, .int .i64 lg, .int .i64 la, .int .i64 lb, .int .i64 lc] 48)))
      refine hK.out _ _ (HOLD.out _ HBY.out) (fun hHeld => ?_)
      clear hK K
      (try simp only [Act.put, List.setIfInBounds_toArray, List.set_cons_zero, List.set_cons_succ])
      refine wpAnyH_ready (rs := [3]) (by kernel_rfl) (by simp) ?_
      refine AllReadyH.cons (o := ?_) ?_ (fun K hK => ?_) AllReadyH.nil
      rotate_left
      · (simp only [List.getElem?_toArray, List.getElem?_cons_zero, List.getElem?_cons_succ]; rfl)
      refine step_appL rfl _ _ rfl Wd.heap.size (.slice (some ⟨Wd.heap.size, 0, none⟩) 0 0) 0 [] rfl rfl HOLN.out g o n c ls rfl HN.out.symm (HOLD.out _ HBY.out).1.els hn0 (by omega) HBY.out.size n (Nat.zero_add n) ?_
      intro g3 cap3 w3 hown hg
      have HO3 := Lib.hid hown
      have HB3 := Lib.hid (low_of HBY.out hg (fun g e => (HOLN.out.lt e).1) HBY.out.size)
      have HLC := Lib.hid (HLB.out.keep (G := fun x => x = Wd.heap.size) (Keep.grown hg (fun g e => (Option.some.inj e).symm)) (by omega))
      clear hown hg
      refine hK.out _ _ (HOLD.out _ HB3.out) (fun hHeld => ?_)
      clear hK K
      (try simp only [Act.put, List.setIfInBounds_toArray, List.set_cons_zero, List.set_cons_succ])
      refine wpAnyH_ready (rs := [6]) (by kernel_rfl) (by simp) ?_
      refine AllReadyH.cons (o := ?_) ?_ (fun K hK => ?_) AllReadyH.nil
      rotate_left
      · (simp only [List.getElem?_toArray, List.getElem?_cons_zero, List.getElem?_cons_succ]; rfl)
      refine step_appL rfl _ _ rfl Wd.heap.size (.slice (some ⟨g3, 0, none⟩) n cap3) n ([] ++ ls) rfl HN.out HO3.out (Wd.heap.size + 1) 0 1 1 [⟨lk, lg, la, lb, lc⟩] rfl rfl (els_blk HLC.out) (by decide) (by omega) HB3.out.size (n + 1) rfl ?_
      intro g6 cap6 w6 hown hg
      have HO6 := Lib.hid hown
      have HB6 := Lib.hid (low_of HB3.out hg (fun g e => (HO3.out.lt e).1) HB3.out.size)
      clear hown hg
      refine hK.out _ _ (HOLD.out _ HB6.out) (fun hHeld => ?_)
      clear hK K
      (try simp only [Act.put, List.setIfInBounds_toArray, List.set_cons_zero, List.set_cons_succ])
      have hZ6 := HZd.out.low HB6.out (by omega)
      have z0 := hZ6.cell 0 (u := .slice (some ⟨g, o, none⟩) n c) rfl
      have zf := hZ6.frz 0
      have HZ6 := Lib.hid hZ6
      clear hZ6
      refine wpAnyH_take (i := 7) (oi := ?_) (v := ?_) ?_ (by kernel_rfl) (by kernel_rfl) (by kernel_rfl) ?_ (Or.inl ⟨?_, ?_⟩) hHeld ?_
      rotate_left 2
      · (simp only [List.getElem?_toArray, List.getElem?_cons_zero, List.getElem?_cons_succ]; rfl)
      · exact (fun _ _ _ h => h)
      · rfl
      · (intro w hSw; (try dsimp only at hSw); go_simp; try with_reducible rfl)
      (try simp only [Act.put, List.setIfInBounds_toArray, List.set_cons_zero, List.set_cons_succ])
      refine wpAnyH_ready (rs := [8]) (by kernel_rfl) (by simp) ?_
      refine AllReadyH.cons (o := ?_) ?_ (fun K hK => ?_) AllReadyH.nil
      rotate_left
      · (simp only [List.getElem?_toArray, List.getElem?_cons_zero, List.getElem?_cons_succ]; rfl)
      go_simp
      have hS6 := HOLD.out _ HB6.out
      have hA : Apart w2.heap.size w6 (w6.setCell ⟨w2.heap.size, 0, none⟩ (.slice (some ⟨g6, 0, none⟩) (n + 1) cap6)) := Apart.set_ _ _ _ _
      have HX8 := Lib.hid (show Cx (w6.setCell ⟨w2.heap.size, 0, none⟩ (.slice (some ⟨g6, 0, none⟩) (n + 1) cap6)) w.heap.size (.slice (some ⟨g, o, none⟩) n c) T ls from ⟨hS6.1.blk.apart hA (by omega), els_apart hS6.1.els hA (by omega)⟩)
      have HY8 := Lib.hid (hS6.2.apart hA (by omega))
      have HZ8 := Lib.hid (show Blk (w6.setCell ⟨w2.heap.size, 0, none⟩ (.slice (some ⟨g6, 0, none⟩) (n + 1) cap6)) w2.heap.size (cfc (.slice (some ⟨g6, 0, none⟩) (n + 1) cap6) T) 26 from HZ6.out.set_ 0 (.slice (some ⟨g6, 0, none⟩) (n + 1) cap6))
      have HE8 := Lib.hid ((HO6.out.keep (F := fun x => x = w2.heap.size) (Keep.set_ w6 w2.heap.size 0 (.slice (some ⟨g6, 0, none⟩) (n + 1) cap6) rfl) (fun g e => by rw [e]; omega)).els)
      have HB8 := Lib.hid (bel_set (HBd.out.trans (HB6.out.mono (by omega))) (by omega : w.heap.size ≤ w2.heap.size) 0 (.slice (some ⟨g6, 0, none⟩) (n + 1) cap6))
      clear hS6 hA z0 zf HZ6 HO6
      refine hK.out _ _ ⟨HX8.out, HY8.out⟩ (fun hHeld => ?_)
      clear hK K
      (try simp only [Act.put, List.setIfInBounds_toArray, List.set_cons_zero, List.set_cons_succ])
      refine wpAnyH_done (by kernel_rfl) ?_ _
      have hsz8 := HZ8.out.lt
      generalize w6.setCell ⟨w2.heap.size, 0, none⟩ (.slice (some ⟨g6, 0, none⟩) (n + 1) cap6) = w8 at *
      obtain ⟨c0, c1, c2, c3, c4, c5, c6, c7, c8, c9, c10⟩ := cells11 HX8.out
      have hY := HY8.out.below (below_alloc (Below.refl _ w8) (.cells #[.slice (some ⟨g, o, none⟩) n c, .int .i64 (T 0), .int .i64 (T 1), .int .i64 (T 2), .int .i64 (T 3), .int .i64 (T 4), .int .i64 (T 5), .int .i64 (T 6), .int .i64 (T 7), .int .i64 (T 8), .int .i64 (T 9)] 26))
      have y0 := hY.cell 0 (u := .int .i64 lk) rfl
      have y1 := hY.cell 1 (u := .int .i64 lg) rfl
      have y2 := hY.cell 2 (u := .int .i64 la) rfl
      have y3 := hY.cell 3 (u := .int .i64 lb) rfl
      have y4 := hY.cell 4 (u := .int .i64 lc) rfl
      have hL7 := blk_new (w8.alloc (.cells #[.slice (some ⟨w8.heap.size + 1, 0, none⟩) 1 1, .int .i64 (T 0), .int .i64 (T 1), .int .i64 (T 2), .int .i64 (T 3), .int .i64 (T 4), .int .i64 (T 5), .int .i64 (T 6), .int .i64 (T 7), .int .i64 (T 8), .int .i64 (T 9)] 26)) #[.int .i64 lk, .int .i64 lg, .int .i64 la, .int .i64 lb, .int .i64 lc] 48
      rw [show (w8.alloc (.cells #[.slice (some ⟨w8.heap.size + 1, 0, none⟩) 1 1, .int .i64 (T 0), .int .i64 (T 1), .int .i64 (T 2), .int .i64 (T 3), .int .i64 (T 4), .int .i64 (T 5), .int .i64 (T 6), .int .i64 (T 7), .int .i64 (T 8), .int .i64 (T 9)] 26)).heap.size = w8.heap.size + 1 by simp] at hL7
      have HT9 := Lib.hid (show Blk ((w8.alloc (.cells #[.slice (some ⟨w8.heap.size + 1, 0, none⟩) 1 1, .int .i64 (T 0), .int .i64 (T 1), .int .i64 (T 2), .int .i64 (T 3), .int .i64 (T 4), .int .i64 (T 5), .int .i64 (T 6), .int .i64 (T 7), .int .i64 (T 8), .int .i64 (T 9)] 26)).alloc (.cells #[.int .i64 lk, .int .i64 lg, .int .i64 la, .int .i64 lb, .int .i64 lc] 48)) w8.heap.size (cfc (.slice (some ⟨w8.heap.size + 1, 0, none⟩) 1 1) T) 26 from (blk_new w8 _ _).below (below_alloc (Below.refl _ _) _))
      have HL9 := Lib.hid (show Els RLn 5 ((w8.alloc (.cells #[.slice (some ⟨w8.heap.size + 1, 0, none⟩) 1 1, .int .i64 (T 0), .int .i64 (T 1), .int .i64 (T 2), .int .i64 (T 3), .int .i64 (T 4), .int .i64 (T 5), .int .i64 (T 6), .int .i64 (T 7), .int .i64 (T 8), .int .i64 (T 9)] 26)).alloc (.cells #[.int .i64 lk, .int .i64 lg, .int .i64 la, .int .i64 lb, .int .i64 lc] 48)) (.slice (some ⟨w8.heap.size + 1, 0, none⟩) 1 1) [⟨lk, lg, la, lb, lc⟩] from els_blk hL7)
      have hK9 : Below w8.heap.size w8 ((w8.alloc (.cells #[.slice (some ⟨w8.heap.size + 1, 0, none⟩) 1 1, .int .i64 (T 0), .int .i64 (T 1), .int .i64 (T 2), .int .i64 (T 3), .int .i64 (T 4), .int .i64 (T 5), .int .i64 (T 6), .int .i64 (T 7), .int .i64 (T 8), .int .i64 (T 9)] 26)).alloc (.cells #[.int .i64 lk, .int .i64 lg, .int .i64 la, .int .i64 lb, .int .i64 lc] 48)) := below_alloc (below_alloc (Below.refl _ w8) _) _
      have HX9 := Lib.hid (HX8.out.below hK9)
      have HZ9 := Lib.hid (HZ8.out.below hK9)
      have HE9 := Lib.hid (HE8.out.below (fun _ _ _ h => h.below hK9))
      have HB9 := Lib.hid (below_call HB8.out hK9)
      clear hY hL7 hK9 HX8 HY8 HZ8 HE8 HB8
      go_wp2_with fail
      clear c0 c1 c2 c3 c4 c5 c6 c7 c8 c9 c10 y0 y1 y2 y3 y4
      generalize ((w8.alloc (.cells #[.slice (some ⟨w8.heap.size + 1, 0, none⟩) 1 1, .int .i64 (T 0), .int .i64 (T 1), .int .i64 (T 2), .int .i64 (T 3), .int .i64 (T 4), .int .i64 (T 5), .int .i64 (T 6), .int .i64 (T 7), .int .i64 (T 8), .int .i64 (T 9)] 26)).alloc (.cells #[.int .i64 lk, .int .i64 lg, .int .i64 la, .int .i64 lb, .int .i64 lc] 48)) = w9 at *
      refine wp_region_held_drew (S := (fun w' => Blk w' w2.heap.size (cfc (.slice (some ⟨g6, 0, none⟩) (n + 1) cap6) T) 26 ∧ Blk w' w8.heap.size (cfc (.slice (some ⟨w8.heap.size + 1, 0, none⟩) 1 1) T) 26 ∧ Blk w' w.heap.size (cfc (.slice (some ⟨g, o, none⟩) n c) T) 26)) (by kernel_rfl) ⟨HZ9.out, HT9.out, HX9.out.blk⟩ (fun hHeld => ?_)
      refine wpAnyH_take (i := 0) (oi := ?_) (v := ?_) ?_ (by kernel_rfl) (by kernel_rfl) (by kernel_rfl) ?_ (Or.inl ⟨?_, ?_⟩) hHeld ?_
      rotate_left 2
      · (simp only [List.getElem?_toArray, List.getElem?_cons_zero]; rfl)
      · exact (fun _ _ _ h => h)
      · rfl
      · (intro w hSw; (try dsimp only at hSw); go_simp; try with_reducible rfl)
      (try simp only [Act.put, List.setIfInBounds_toArray, List.set_cons_zero, List.set_cons_succ])
      refine wpAnyH_take (i := 1) (oi := ?_) (v := ?_) ?_ (by kernel_rfl) (by kernel_rfl) (by kernel_rfl) ?_ (Or.inl ⟨?_, ?_⟩) hHeld ?_
      rotate_left 2
      · (simp only [List.getElem?_toArray, List.getElem?_cons_zero, List.getElem?_cons_succ]; rfl)
      · exact (fun _ _ _ h => h)
      · rfl
      · (intro w hSw; (try dsimp only at hSw); go_simp; try with_reducible rfl)
      (try simp only [Act.put, List.setIfInBounds_toArray, List.set_cons_zero, List.set_cons_succ])
      refine wpAnyH_take (i := 2) (oi := ?_) (v := ?_) ?_ (by kernel_rfl) (by kernel_rfl) (by kernel_rfl) ?_ (Or.inl ⟨?_, ?_⟩) hHeld ?_
      rotate_left 2
      · (simp only [List.getElem?_toArray, List.getElem?_cons_zero, List.getElem?_cons_succ]; rfl)
      · exact (fun _ _ _ h => h)
      · rfl
      · (intro w hSw; (try dsimp only at hSw); obtain ⟨c0, c1, c2, c3, c4, c5, c6, c7, c8, c9, c10⟩ := Blk.eleven hSw.1; go_simp; try with_reducible rfl)
      (try simp only [Act.put, List.setIfInBounds_toArray, List.set_cons_zero, List.set_cons_succ])
      refine wpAnyH_take (i := 5) (oi := ?_) (v := ?_) ?_ (by kernel_rfl) (by kernel_rfl) (by kernel_rfl) ?_ (Or.inl ⟨?_, ?_⟩) hHeld ?_
      rotate_left 2
      · (simp only [List.getElem?_toArray, List.getElem?_cons_zero, List.getElem?_cons_succ]; rfl)
      · exact (fun _ _ _ h => h)
      · rfl
      · (intro w hSw; (try dsimp only at hSw); obtain ⟨c0, c1, c2, c3, c4, c5, c6, c7, c8, c9, c10⟩ := Blk.eleven hSw.2.1; go_simp; try with_reducible rfl)
      (try simp only [Act.put, List.setIfInBounds_toArray, List.set_cons_zero, List.set_cons_succ])
      refine wpAnyH_ready (rs := [3]) (by kernel_rfl) (by simp) ?_
      refine AllReadyH.cons (o := ?_) ?_ (fun K hK => ?_) AllReadyH.nil
      rotate_left
      · (simp only [List.getElem?_toArray, List.getElem?_cons_zero, List.getElem?_cons_succ]; rfl)
      go_simp
      (with_reducible refine (HMORE.out _ _ _ (HE9.out.below (fun _ _ _ h => h.below (bel_drew _)))).mono ?_)
      rintro e w10 ⟨r10, rfl, hr, hb⟩
      obtain rfl := hr.nil
      have HT10 := Lib.hid ((HT9.out.below (bel_drew _)).below hb)
      have HL10 := Lib.hid ((HL9.out.below (fun _ _ _ h => h.below (bel_drew _))).below (fun _ _ _ h => h.below hb))
      have HX10 := Lib.hid ((HX9.out.below (bel_drew _)).below hb)
      have HZ10 := Lib.hid ((HZ9.out.below (bel_drew _)).below hb)
      have HB10 := Lib.hid (below_call (below_call HB9.out (bel_drew _)) hb)
      clear hb hr HT9 HL9 HX9 HZ9 HB9
      go_wp2_with fail
      refine hK.out _ _ ⟨HZ10.out, HT10.out, HX10.out.blk⟩ (fun hHeld => ?_)
      clear hK K
      (try simp only [Act.put, List.setIfInBounds_toArray, List.set_cons_zero, List.set_cons_succ])
      refine wpAnyH_take (i := 4) (oi := ?_) (v := ?_) ?_ (by kernel_rfl) (by kernel_rfl) (by kernel_rfl) ?_ (Or.inl ⟨?_, ?_⟩) hHeld ?_
      rotate_left 2
      · (simp only [List.getElem?_toArray, List.getElem?_cons_zero, List.getElem?_cons_succ]; rfl)
      · exact (fun _ _ _ h => h)
      · rfl
      · (intro w hSw; (try dsimp only at hSw); go_simp; try with_reducible rfl)
      (try simp only [Act.put, List.setIfInBounds_toArray, List.set_cons_zero, List.set_cons_succ])
      refine wpAnyH_ready (rs := [6]) (by kernel_rfl) (by simp) ?_
      refine AllReadyH.cons (o := ?_) ?_ (fun K hK => ?_) AllReadyH.nil
      rotate_left
      · (simp only [List.getElem?_toArray, List.getElem?_cons_zero, List.getElem?_cons_succ]; rfl)
      go_simp
      (with_reducible refine (HONE.out _ _ HL10.out).mono ?_)
      rintro e w11 ⟨r11, rfl, hr, hb⟩
      obtain rfl := hr.nil
      have HT11 := Lib.hid (HT10.out.below hb)
      have HX11 := Lib.hid (HX10.out.below hb)
      have HZ11 := Lib.hid (HZ10.out.below hb)
      have HB11 := Lib.hid (below_call HB10.out hb)
      clear hb hr HT10 HL10 HX10 HZ10 HB10
      go_wp2_with fail
      refine hK.out _ _ ⟨HZ11.out, HT11.out, HX11.out.blk⟩ (fun hHeld => ?_)
      clear hK K
      (try simp only [Act.put, List.setIfInBounds_toArray, List.set_cons_zero, List.set_cons_succ])
      refine wpAnyH_take (i := 7) (oi := ?_) (v := ?_) ?_ (by kernel_rfl) (by kernel_rfl) (by kernel_rfl) ?_ (Or.inl ⟨?_, ?_⟩) hHeld ?_
      rotate_left 2
      · (simp only [List.getElem?_toArray, List.getElem?_cons_zero, List.getElem?_cons_succ]; rfl)
      · exact (fun _ _ _ h => h)
      · rfl
      · (intro w hSw; (try dsimp only at hSw); go_simp; try with_reducible rfl)
      (try simp only [Act.put, List.setIfInBounds_toArray, List.set_cons_zero, List.set_cons_succ])
      refine wpAnyH_take (i := 8) (oi := ?_) (v := ?_) ?_ (by kernel_rfl) (by kernel_rfl) (by kernel_rfl) ?_ (Or.inl ⟨?_, ?_⟩) hHeld ?_
      rotate_left 2
      · (simp only [List.getElem?_toArray, List.getElem?_cons_zero, List.getElem?_cons_succ]; rfl)
      · exact (fun _ _ _ h => h)
      · rfl
      · (intro w hSw; (try dsimp only at hSw); go_simp; try with_reducible rfl)
      (try simp only [Act.put, List.setIfInBounds_toArray, List.set_cons_zero, List.set_cons_succ])
      refine wpAnyH_take (i := 9) (oi := ?_) (v := ?_) ?_ (by kernel_rfl) (by kernel_rfl) (by kernel_rfl) ?_ (Or.inl ⟨?_, ?_⟩) hHeld ?_
      rotate_left 2
      · (simp only [List.getElem?_toArray, List.getElem?_cons_zero, List.getElem?_cons_succ]; rfl)
      · exact (fun _ _ _ h => h)
      · rfl
      · (intro w hSw; (try dsimp only at hSw); go_simp; try with_reducible rfl)
      (try simp only [Act.put, List.setIfInBounds_toArray, List.set_cons_zero, List.set_cons_succ])
      refine wpAnyH_take (i := 10) (oi := ?_) (v := ?_) ?_ (by kernel_rfl) (by kernel_rfl) (by kernel_rfl) ?_ (Or.inl ⟨?_, ?_⟩) hHeld ?_
      rotate_left 2
      · (simp only [List.getElem?_toArray, List.getElem?_cons_zero, List.getElem?_cons_succ]; rfl)
      · exact (fun _ _ _ h => h)
      · rfl
      · (intro w hSw; (try dsimp only at hSw); obtain ⟨c0, c1, c2, c3, c4, c5, c6, c7, c8, c9, c10⟩ := Blk.eleven hSw.2.2; go_simp; try with_reducible rfl)
      (try simp only [Act.put, List.setIfInBounds_toArray, List.set_cons_zero, List.set_cons_succ])
      refine wpAnyH_take (i := 11) (oi := ?_) (v := ?_) ?_ (by kernel_rfl) (by kernel_rfl) (by kernel_rfl) ?_ (Or.inl ⟨?_, ?_⟩) hHeld ?_
      rotate_left 2
      · (simp only [List.getElem?_toArray, List.getElem?_cons_zero, List.getElem?_cons_succ]; rfl)
      · exact (fun _ _ _ h => h)
      · rfl
      · (intro w hSw; (try dsimp only at hSw); go_simp; try with_reducible rfl)
      (try simp only [Act.put, List.setIfInBounds_toArray, List.set_cons_zero, List.set_cons_succ])
      refine wpAnyH_take (i := 12) (oi := ?_) (v := ?_) ?_ (by kernel_rfl) (by kernel_rfl) (by kernel_rfl) ?_ (Or.inl ⟨?_, ?_⟩) hHeld ?_
      rotate_left 2
      · (simp only [List.getElem?_toArray, List.getElem?_cons_zero, List.getElem?_cons_succ]; rfl)
      · exact (fun _ _ _ h => h)
      · rfl
      · (intro w hSw; (try dsimp only at hSw); go_simp; try with_reducible rfl)
      (try simp only [Act.put, List.setIfInBounds_toArray, List.set_cons_zero, List.set_cons_succ])
      refine wpAnyH_take (i := 13) (oi := ?_) (v := ?_) ?_ (by kernel_rfl) (by kernel_rfl) (by kernel_rfl) ?_ (Or.inl ⟨?_, ?_⟩) hHeld ?_
      rotate_left 2
      · (simp only [List.getElem?_toArray, List.getElem?_cons_zero, List.getElem?_cons_succ]; rfl)
      · exact (fun _ _ _ h => h)
      · rfl
      · (intro w hSw; (try dsimp only at hSw); go_simp; try with_reducible rfl)
      (try simp only [Act.put, List.setIfInBounds_toArray, List.set_cons_zero, List.set_cons_succ])
      refine wpAnyH_take (i := 14) (oi := ?_) (v := ?_) ?_ (by kernel_rfl) (by kernel_rfl) (by kernel_rfl) ?_ (Or.inl ⟨?_, ?_⟩) hHeld ?_
      rotate_left 2
      · (simp only [List.getElem?_toArray, List.getElem?_cons_zero, List.getElem?_cons_succ]; rfl)
      · exact (fun _ _ _ h => h)
      · rfl
      · (intro w hSw; (try dsimp only at hSw); go_simp; try with_reducible rfl)
      (try simp only [Act.put, List.setIfInBounds_toArray, List.set_cons_zero, List.set_cons_succ])
      refine wpAnyH_take (i := 15) (oi := ?_) (v := ?_) ?_ (by kernel_rfl) (by kernel_rfl) (by kernel_rfl) ?_ (Or.inl ⟨?_, ?_⟩) hHeld ?_
      rotate_left 2
      · (simp only [List.getElem?_toArray, List.getElem?_cons_zero, List.getElem?_cons_succ]; rfl)
      · exact (fun _ _ _ h => h)
      · rfl
      · (intro w hSw; (try dsimp only at hSw); go_simp; try with_reducible rfl)
      (try simp only [Act.put, List.setIfInBounds_toArray, List.set_cons_zero, List.set_cons_succ])
      refine wpAnyH_take (i := 16) (oi := ?_) (v := ?_) ?_ (by kernel_rfl) (by kernel_rfl) (by kernel_rfl) ?_ (Or.inl ⟨?_, ?_⟩) hHeld ?_
      rotate_left 2
      · (simp only [List.getElem?_toArray, List.getElem?_cons_zero, List.getElem?_cons_succ]; rfl)
      · exact (fun _ _ _ h => h)
      · rfl
      · (intro w hSw; (try dsimp only at hSw); go_simp; try with_reducible rfl)
      (try simp only [Act.put, List.setIfInBounds_toArray, List.set_cons_zero, List.set_cons_succ])
      refine wpAnyH_done (by kernel_rfl) ?_ _
      go_wp2_with fail
      go_ret
      exact ⟨rfl, HB11.out⟩
  · refine AllReadyH.cons (o := ?_) ?_ (fun K hK => ?_) AllReadyH.nil
    rotate_left
    · (simp only [List.getElem?_toArray, List.getElem?_cons_zero, List.getElem?_cons_succ]; rfl)
    go_simp
    have hLB := blk_new Wd #[.int .i64 lk, .int .i64 lg, .int .i64 la, .int .i64 lb, .int .i64 lc] 48
    have HLB := Lib.hid hLB
    clear hLB
    have HBZ := Lib.hid (below_alloc (Below.refl _ Wd) (.cells #[.int .i64 lk, .int .i64 lg, .int .i64 la, .int .i64 lb, .int .i64 lc] 48))
    refine hK.out _ _ (HOLD.out _ HBZ.out) (fun hHeld => ?_)
    clear hK K
    (try simp only [Act.put, List.setIfInBounds_toArray, List.set_cons_zero, List.set_cons_succ])
    refine wpAnyH_ready (rs := [0]) (by kernel_rfl) (by simp) ?_
    refine AllReadyH.cons (o := ?_) ?_ (fun K hK => ?_) AllReadyH.nil
    rotate_left
    · (simp only [List.getElem?_toArray, List.getElem?_cons_zero]; rfl)
    go_simp
    have hOL := ownL_lit (Wd.alloc (.cells #[.int .i64 lk, .int .i64 lg, .int .i64 la, .int .i64 lb, .int .i64 lc] 48)) Wd.heap.size HBZ.out.size
    rw [show (Wd.alloc (.cells #[.int .i64 lk, .int .i64 lg, .int .i64 la, .int .i64 lb, .int .i64 lc] 48)).heap.size = Wd.heap.size + 1 by simp] at hOL
    have HOL := Lib.hid hOL
    have HLB := Lib.hid (HLB.out.below (below_alloc (Below.refl _ _) (.cells #[] 48)))
    clear hOL
    have HBY := Lib.hid (HBZ.out.trans ((below_alloc (Below.refl _ (Wd.alloc (.cells #[.int .i64 lk, .int .i64 lg, .int .i64 la, .int .i64 lb, .int .i64 lc] 48))) (.cells #[] 48)).mono HBZ.out.size))
    refine hK.out _ _ (HOLD.out _ HBY.out) (fun hHeld => ?_)
    clear hK K
    (try simp only [Act.put, List.setIfInBounds_toArray, List.set_cons_zero, List.set_cons_succ])
    refine wpAnyH_ready (rs := [3]) (by kernel_rfl) (by simp) ?_
    refine AllReadyH.cons (o := ?_) ?_ (fun K hK => ?_) AllReadyH.nil
    rotate_left
    · (simp only [List.getElem?_toArray, List.getElem?_cons_zero, List.getElem?_cons_succ]; rfl)
    refine step_appL rfl _ _ rfl Wd.heap.size (.slice (some ⟨(Wd.heap.size + 1), 0, none⟩) 0 0) 0 [] rfl rfl HOL.out g o n c ls rfl HN.out.symm (HOLD.out _ HBY.out).1.els hn0 (by omega) HBY.out.size n (Nat.zero_add n) ?_
    intro g3 cap3 w3 hown hg
    have HO3 := Lib.hid hown
    have HB3 := Lib.hid (low_of HBY.out hg (fun g e => (HOL.out.lt e).1) HBY.out.size)
    have HLC := Lib.hid (HLB.out.keep (G := fun x => x = (Wd.heap.size + 1)) (Keep.grown hg (fun g e => (Option.some.inj e).symm)) (by omega))
    clear hown hg
    refine hK.out _ _ (HOLD.out _ HB3.out) (fun hHeld => ?_)
    clear hK K
    (try simp only [Act.put, List.setIfInBounds_toArray, List.set_cons_zero, List.set_cons_succ])
    refine wpAnyH_ready (rs := [6]) (by kernel_rfl) (by simp) ?_
    refine AllReadyH.cons (o := ?_) ?_ (fun K hK => ?_) AllReadyH.nil
    rotate_left
    · (simp only [List.getElem?_toArray, List.getElem?_cons_zero, List.getElem?_cons_succ]; rfl)
    refine step_appL rfl _ _ rfl Wd.heap.size (.slice (some ⟨g3, 0, none⟩) n cap3) n ([] ++ ls) rfl HN.out HO3.out Wd.heap.size 0 1 1 [⟨lk, lg, la, lb, lc⟩] rfl rfl (els_blk HLC.out) (by decide) (by omega) HB3.out.size (n + 1) rfl ?_
    intro g6 cap6 w6 hown hg
    have HO6 := Lib.hid hown
    have HB6 := Lib.hid (low_of HB3.out hg (fun g e => (HO3.out.lt e).1) HB3.out.size)
    clear hown hg
    refine hK.out _ _ (HOLD.out _ HB6.out) (fun hHeld => ?_)
    clear hK K
    (try simp only [Act.put, List.setIfInBounds_toArray, List.set_cons_zero, List.set_cons_succ])
    have hZ6 := HZd.out.low HB6.out (by omega)
    have z0 := hZ6.cell 0 (u := .slice (some ⟨g, o, none⟩) n c) rfl
    have zf := hZ6.frz 0
    have HZ6 := Lib.hid hZ6
    clear hZ6
    refine wpAnyH_take (i := 7) (oi := ?_) (v := ?_) ?_ (by kernel_rfl) (by kernel_rfl) (by kernel_rfl) ?_ (Or.inl ⟨?_, ?_⟩) hHeld ?_
    rotate_left 2
    · (simp only [List.getElem?_toArray, List.getElem?_cons_zero, List.getElem?_cons_succ]; rfl)
    · exact (fun _ _ _ h => h)
    · rfl
    · (intro w hSw; (try dsimp only at hSw); go_simp; try with_reducible rfl)
    (try simp only [Act.put, List.setIfInBounds_toArray, List.set_cons_zero, List.set_cons_succ])
    refine wpAnyH_ready (rs := [8]) (by kernel_rfl) (by simp) ?_
    refine AllReadyH.cons (o := ?_) ?_ (fun K hK => ?_) AllReadyH.nil
    rotate_left
    · (simp only [List.getElem?_toArray, List.getElem?_cons_zero, List.getElem?_cons_succ]; rfl)
    go_simp
    have hS6 := HOLD.out _ HB6.out
    have hA : Apart w2.heap.size w6 (w6.setCell ⟨w2.heap.size, 0, none⟩ (.slice (some ⟨g6, 0, none⟩) (n + 1) cap6)) := Apart.set_ _ _ _ _
    have HX8 := Lib.hid (show Cx (w6.setCell ⟨w2.heap.size, 0, none⟩ (.slice (some ⟨g6, 0, none⟩) (n + 1) cap6)) w.heap.size (.slice (some ⟨g, o, none⟩) n c) T ls from ⟨hS6.1.blk.apart hA (by omega), els_apart hS6.1.els hA (by omega)⟩)
    have HY8 := Lib.hid (hS6.2.apart hA (by omega))
    have HZ8 := Lib.hid (show Blk (w6.setCell ⟨w2.heap.size, 0, none⟩ (.slice (some ⟨g6, 0, none⟩) (n + 1) cap6)) w2.heap.size (cfc (.slice (some ⟨g6, 0, none⟩) (n + 1) cap6) T) 26 from HZ6.out.set_ 0 (.slice (some ⟨g6, 0, none⟩) (n + 1) cap6))
    have HE8 := Lib.hid ((HO6.out.keep (F := fun x => x = w2.heap.size) (Keep.set_ w6 w2.heap.size 0 (.slice (some ⟨g6, 0, none⟩) (n + 1) cap6) rfl) (fun g e => by rw [e]; omega)).els)
    have HB8 := Lib.hid (bel_set (HBd.out.trans (HB6.out.mono (by omega))) (by omega : w.heap.size ≤ w2.heap.size) 0 (.slice (some ⟨g6, 0, none⟩) (n + 1) cap6))
    clear hS6 hA z0 zf HZ6 HO6
    refine hK.out _ _ ⟨HX8.out, HY8.out⟩ (fun hHeld => ?_)
    clear hK K
    (try simp only [Act.put, List.setIfInBounds_toArray, List.set_cons_zero, List.set_cons_succ])
    refine wpAnyH_done (by kernel_rfl) ?_ _
    have hsz8 := HZ8.out.lt
    generalize w6.setCell ⟨w2.heap.size, 0, none⟩ (.slice (some ⟨g6, 0, none⟩) (n + 1) cap6) = w8 at *
    obtain ⟨c0, c1, c2, c3, c4, c5, c6, c7, c8, c9, c10⟩ := cells11 HX8.out
    have hY := HY8.out.below (below_alloc (Below.refl _ w8) (.cells #[.slice (some ⟨g, o, none⟩) n c, .int .i64 (T 0), .int .i64 (T 1), .int .i64 (T 2), .int .i64 (T 3), .int .i64 (T 4), .int .i64 (T 5), .int .i64 (T 6), .int .i64 (T 7), .int .i64 (T 8), .int .i64 (T 9)] 26))
    have y0 := hY.cell 0 (u := .int .i64 lk) rfl
    have y1 := hY.cell 1 (u := .int .i64 lg) rfl
    have y2 := hY.cell 2 (u := .int .i64 la) rfl
    have y3 := hY.cell 3 (u := .int .i64 lb) rfl
    have y4 := hY.cell 4 (u := .int .i64 lc) rfl
    have hL7 := blk_new (w8.alloc (.cells #[.slice (some ⟨w8.heap.size + 1, 0, none⟩) 1 1, .int .i64 (T 0), .int .i64 (T 1), .int .i64 (T 2), .int .i64 (T 3), .int .i64 (T 4), .int .i64 (T 5), .int .i64 (T 6), .int .i64 (T 7), .int .i64 (T 8), .int .i64 (T 9)] 26)) #[.int .i64 lk, .int .i64 lg, .int .i64 la, .int .i64 lb, .int .i64 lc] 48
    rw [show (w8.alloc (.cells #[.slice (some ⟨w8.heap.size + 1, 0, none⟩) 1 1, .int .i64 (T 0), .int .i64 (T 1), .int .i64 (T 2), .int .i64 (T 3), .int .i64 (T 4), .int .i64 (T 5), .int .i64 (T 6), .int .i64 (T 7), .int .i64 (T 8), .int .i64 (T 9)] 26)).heap.size = w8.heap.size + 1 by simp] at hL7
    have HT9 := Lib.hid (show Blk ((w8.alloc (.cells #[.slice (some ⟨w8.heap.size + 1, 0, none⟩) 1 1, .int .i64 (T 0), .int .i64 (T 1), .int .i64 (T 2), .int .i64 (T 3), .int .i64 (T 4), .int .i64 (T 5), .int .i64 (T 6), .int .i64 (T 7), .int .i64 (T 8), .int .i64 (T 9)] 26)).alloc (.cells #[.int .i64 lk, .int .i64 lg, .int .i64 la, .int .i64 lb, .int .i64 lc] 48)) w8.heap.size (cfc (.slice (some ⟨w8.heap.size + 1, 0, none⟩) 1 1) T) 26 from (blk_new w8 _ _).below (below_alloc (Below.refl _ _) _))
    have HL9 := Lib.hid (show Els RLn 5 ((w8.alloc (.cells #[.slice (some ⟨w8.heap.size + 1, 0, none⟩) 1 1, .int .i64 (T 0), .int .i64 (T 1), .int .i64 (T 2), .int .i64 (T 3), .int .i64 (T 4), .int .i64 (T 5), .int .i64 (T 6), .int .i64 (T 7), .int .i64 (T 8), .int .i64 (T 9)] 26)).alloc (.cells #[.int .i64 lk, .int .i64 lg, .int .i64 la, .int .i64 lb, .int .i64 lc] 48)) (.slice (some ⟨w8.heap.size + 1, 0, none⟩) 1 1) [⟨lk, lg, la, lb, lc⟩] from els_blk hL7)
    have hK9 : Below w8.heap.size w8 ((w8.alloc (.cells #[.slice (some ⟨w8.heap.size + 1, 0, none⟩) 1 1, .int .i64 (T 0), .int .i64 (T 1), .int .i64 (T 2), .int .i64 (T 3), .int .i64 (T 4), .int .i64 (T 5), .int .i64 (T 6), .int .i64 (T 7), .int .i64 (T 8), .int .i64 (T 9)] 26)).alloc (.cells #[.int .i64 lk, .int .i64 lg, .int .i64 la, .int .i64 lb, .int .i64 lc] 48)) := below_alloc (below_alloc (Below.refl _ w8) _) _
    have HX9 := Lib.hid (HX8.out.below hK9)
    have HZ9 := Lib.hid (HZ8.out.below hK9)
    have HE9 := Lib.hid (HE8.out.below (fun _ _ _ h => h.below hK9))
    have HB9 := Lib.hid (below_call HB8.out hK9)
    clear hY hL7 hK9 HX8 HY8 HZ8 HE8 HB8
    go_wp2_with fail
    clear c0 c1 c2 c3 c4 c5 c6 c7 c8 c9 c10 y0 y1 y2 y3 y4
    generalize ((w8.alloc (.cells #[.slice (some ⟨w8.heap.size + 1, 0, none⟩) 1 1, .int .i64 (T 0), .int .i64 (T 1), .int .i64 (T 2), .int .i64 (T 3), .int .i64 (T 4), .int .i64 (T 5), .int .i64 (T 6), .int .i64 (T 7), .int .i64 (T 8), .int .i64 (T 9)] 26)).alloc (.cells #[.int .i64 lk, .int .i64 lg, .int .i64 la, .int .i64 lb, .int .i64 lc] 48)) = w9 at *
    refine wp_region_held_drew (S := (fun w' => Blk w' w2.heap.size (cfc (.slice (some ⟨g6, 0, none⟩) (n + 1) cap6) T) 26 ∧ Blk w' w8.heap.size (cfc (.slice (some ⟨w8.heap.size + 1, 0, none⟩) 1 1) T) 26 ∧ Blk w' w.heap.size (cfc (.slice (some ⟨g, o, none⟩) n c) T) 26)) (by kernel_rfl) ⟨HZ9.out, HT9.out, HX9.out.blk⟩ (fun hHeld => ?_)
    refine wpAnyH_take (i := 0) (oi := ?_) (v := ?_) ?_ (by kernel_rfl) (by kernel_rfl) (by kernel_rfl) ?_ (Or.inl ⟨?_, ?_⟩) hHeld ?_
    rotate_left 2
    · (simp only [List.getElem?_toArray, List.getElem?_cons_zero]; rfl)
    · exact (fun _ _ _ h => h)
    · rfl
    · (intro w hSw; (try dsimp only at hSw); go_simp; try with_reducible rfl)
    (try simp only [Act.put, List.setIfInBounds_toArray, List.set_cons_zero, List.set_cons_succ])
    refine wpAnyH_take (i := 1) (oi := ?_) (v := ?_) ?_ (by kernel_rfl) (by kernel_rfl) (by kernel_rfl) ?_ (Or.inl ⟨?_, ?_⟩) hHeld ?_
    rotate_left 2
    · (simp only [List.getElem?_toArray, List.getElem?_cons_zero, List.getElem?_cons_succ]; rfl)
    · exact (fun _ _ _ h => h)
    · rfl
    · (intro w hSw; (try dsimp only at hSw); go_simp; try with_reducible rfl)
    (try simp only [Act.put, List.setIfInBounds_toArray, List.set_cons_zero, List.set_cons_succ])
    refine wpAnyH_take (i := 2) (oi := ?_) (v := ?_) ?_ (by kernel_rfl) (by kernel_rfl) (by kernel_rfl) ?_ (Or.inl ⟨?_, ?_⟩) hHeld ?_
    rotate_left 2
    · (simp only [List.getElem?_toArray, List.getElem?_cons_zero, List.getElem?_cons_succ]; rfl)
    · exact (fun _ _ _ h => h)
    · rfl
    · (intro w hSw; (try dsimp only at hSw); obtain ⟨c0, c1, c2, c3, c4, c5, c6, c7, c8, c9, c10⟩ := Blk.eleven hSw.1; go_simp; try with_reducible rfl)
    (try simp only [Act.put, List.setIfInBounds_toArray, List.set_cons_zero, List.set_cons_succ])
    refine wpAnyH_take (i := 5) (oi := ?_) (v := ?_) ?_ (by kernel_rfl) (by kernel_rfl) (by kernel_rfl) ?_ (Or.inl ⟨?_, ?_⟩) hHeld ?_
    rotate_left 2
    · (simp only [List.getElem?_toArray, List.getElem?_cons_zero, List.getElem?_cons_succ]; rfl)
    · exact (fun _ _ _ h => h)
    · rfl
    · (intro w hSw; (try dsimp only at hSw); obtain ⟨c0, c1, c2, c3, c4, c5, c6, c7, c8, c9, c10⟩ := Blk.eleven hSw.2.1; go_simp; try with_reducible rfl)
    (try simp only [Act.put, List.setIfInBounds_toArray, List.set_cons_zero, List.set_cons_succ])
    refine wpAnyH_ready (rs := [3]) (by kernel_rfl) (by simp) ?_
    refine AllReadyH.cons (o := ?_) ?_ (fun K hK => ?_) AllReadyH.nil
    rotate_left
    · (simp only [List.getElem?_toArray, List.getElem?_cons_zero, List.getElem?_cons_succ]; rfl)
    go_simp
    (with_reducible refine (HMORE.out _ _ _ (HE9.out.below (fun _ _ _ h => h.below (bel_drew _)))).mono ?_)
    rintro e w10 ⟨r10, rfl, hr, hb⟩
    obtain rfl := hr.nil
    have HT10 := Lib.hid ((HT9.out.below (bel_drew _)).below hb)
    have HL10 := Lib.hid ((HL9.out.below (fun _ _ _ h => h.below (bel_drew _))).below (fun _ _ _ h => h.below hb))
    have HX10 := Lib.hid ((HX9.out.below (bel_drew _)).below hb)
    have HZ10 := Lib.hid ((HZ9.out.below (bel_drew _)).below hb)
    have HB10 := Lib.hid (below_call (below_call HB9.out (bel_drew _)) hb)
    clear hb hr HT9 HL9 HX9 HZ9 HB9
    go_wp2_with fail
    refine hK.out _ _ ⟨HZ10.out, HT10.out, HX10.out.blk⟩ (fun hHeld => ?_)
    clear hK K
    (try simp only [Act.put, List.setIfInBounds_toArray, List.set_cons_zero, List.set_cons_succ])
    refine wpAnyH_take (i := 4) (oi := ?_) (v := ?_) ?_ (by kernel_rfl) (by kernel_rfl) (by kernel_rfl) ?_ (Or.inl ⟨?_, ?_⟩) hHeld ?_
    rotate_left 2
    · (simp only [List.getElem?_toArray, List.getElem?_cons_zero, List.getElem?_cons_succ]; rfl)
    · exact (fun _ _ _ h => h)
    · rfl
    · (intro w hSw; (try dsimp only at hSw); go_simp; try with_reducible rfl)
    (try simp only [Act.put, List.setIfInBounds_toArray, List.set_cons_zero, List.set_cons_succ])
    refine wpAnyH_ready (rs := [6]) (by kernel_rfl) (by simp) ?_
    refine AllReadyH.cons (o := ?_) ?_ (fun K hK => ?_) AllReadyH.nil
    rotate_left
    · (simp only [List.getElem?_toArray, List.getElem?_cons_zero, List.getElem?_cons_succ]; rfl)
    go_simp
    (with_reducible refine (HONE.out _ _ HL10.out).mono ?_)
    rintro e w11 ⟨r11, rfl, hr, hb⟩
    obtain rfl := hr.nil
    have HT11 := Lib.hid (HT10.out.below hb)
    have HX11 := Lib.hid (HX10.out.below hb)
    have HZ11 := Lib.hid (HZ10.out.below hb)
    have HB11 := Lib.hid (below_call HB10.out hb)
    clear hb hr HT10 HL10 HX10 HZ10 HB10
    go_wp2_with fail
    refine hK.out _ _ ⟨HZ11.out, HT11.out, HX11.out.blk⟩ (fun hHeld => ?_)
    clear hK K
    (try simp only [Act.put, List.setIfInBounds_toArray, List.set_cons_zero, List.set_cons_succ])
    refine wpAnyH_take (i := 7) (oi := ?_) (v := ?_) ?_ (by kernel_rfl) (by kernel_rfl) (by kernel_rfl) ?_ (Or.inl ⟨?_, ?_⟩) hHeld ?_
    rotate_left 2
    · (simp only [List.getElem?_toArray, List.getElem?_cons_zero, List.getElem?_cons_succ]; rfl)
    · exact (fun _ _ _ h => h)
    · rfl
    · (intro w hSw; (try dsimp only at hSw); go_simp; try with_reducible rfl)
    (try simp only [Act.put, List.setIfInBounds_toArray, List.set_cons_zero, List.set_cons_succ])
    refine wpAnyH_take (i := 8) (oi := ?_) (v := ?_) ?_ (by kernel_rfl) (by kernel_rfl) (by kernel_rfl) ?_ (Or.inl ⟨?_, ?_⟩) hHeld ?_
    rotate_left 2
    · (simp only [List.getElem?_toArray, List.getElem?_cons_zero, List.getElem?_cons_succ]; rfl)
    · exact (fun _ _ _ h => h)
    · rfl
    · (intro w hSw; (try dsimp only at hSw); go_simp; try with_reducible rfl)
    (try simp only [Act.put, List.setIfInBounds_toArray, List.set_cons_zero, List.set_cons_succ])
    refine wpAnyH_take (i := 9) (oi := ?_) (v := ?_) ?_ (by kernel_rfl) (by kernel_rfl) (by kernel_rfl) ?_ (Or.inl ⟨?_, ?_⟩) hHeld ?_
    rotate_left 2
    · (simp only [List.getElem?_toArray, List.getElem?_cons_zero, List.getElem?_cons_succ]; rfl)
    · exact (fun _ _ _ h => h)
    · rfl
    · (intro w hSw; (try dsimp only at hSw); go_simp; try with_reducible rfl)
    (try simp only [Act.put, List.setIfInBounds_toArray, List.set_cons_zero, List.set_cons_succ])
    refine wpAnyH_take (i := 10) (oi := ?_) (v := ?_) ?_ (by kernel_rfl) (by kernel_rfl) (by kernel_rfl) ?_ (Or.inl ⟨?_, ?_⟩) hHeld ?_
    rotate_left 2
    · (simp only [List.getElem?_toArray, List.getElem?_cons_zero, List.getElem?_cons_succ]; rfl)
    · exact (fun _ _ _ h => h)
    · rfl
    · (intro w hSw; (try dsimp only at hSw); obtain ⟨c0, c1, c2, c3, c4, c5, c6, c7, c8, c9, c10⟩ := Blk.eleven hSw.2.2; go_simp; try with_reducible rfl)
    (try simp only [Act.put, List.setIfInBounds_toArray, List.set_cons_zero, List.set_cons_succ])
    refine wpAnyH_take (i := 11) (oi := ?_) (v := ?_) ?_ (by kernel_rfl) (by kernel_rfl) (by kernel_rfl) ?_ (Or.inl ⟨?_, ?_⟩) hHeld ?_
    rotate_left 2
    · (simp only [List.getElem?_toArray, List.getElem?_cons_zero, List.getElem?_cons_succ]; rfl)
    · exact (fun _ _ _ h => h)
    · rfl
    · (intro w hSw; (try dsimp only at hSw); go_simp; try with_reducible rfl)
    (try simp only [Act.put, List.setIfInBounds_toArray, List.set_cons_zero, List.set_cons_succ])
    refine wpAnyH_take (i := 12) (oi := ?_) (v := ?_) ?_ (by kernel_rfl) (by kernel_rfl) (by kernel_rfl) ?_ (Or.inl ⟨?_, ?_⟩) hHeld ?_
    rotate_left 2
    · (simp only [List.getElem?_toArray, List.getElem?_cons_zero, List.getElem?_cons_succ]; rfl)
    · exact (fun _ _ _ h => h)
    · rfl
    · (intro w hSw; (try dsimp only at hSw); go_simp; try with_reducible rfl)
    (try simp only [Act.put, List.setIfInBounds_toArray, List.set_cons_zero, List.set_cons_succ])
    refine wpAnyH_take (i := 13) (oi := ?_) (v := ?_) ?_ (by kernel_rfl) (by kernel_rfl) (by kernel_rfl) ?_ (Or.inl ⟨?_, ?_⟩) hHeld ?_
    rotate_left 2
    · (simp only [List.getElem?_toArray, List.getElem?_cons_zero, List.getElem?_cons_succ]; rfl)
    · exact (fun _ _ _ h => h)
    · rfl
    · (intro w hSw; (try dsimp only at hSw); go_simp; try with_reducible rfl)
    (try simp only [Act.put, List.setIfInBounds_toArray, List.set_cons_zero, List.set_cons_succ])
    refine wpAnyH_take (i := 14) (oi := ?_) (v := ?_) ?_ (by kernel_rfl) (by kernel_rfl) (by kernel_rfl) ?_ (Or.inl ⟨?_, ?_⟩) hHeld ?_
    rotate_left 2
    · (simp only [List.getElem?_toArray, List.getElem?_cons_zero, List.getElem?_cons_succ]; rfl)
    · exact (fun _ _ _ h => h)
    · rfl
    · (intro w hSw; (try dsimp only at hSw); go_simp; try with_reducible rfl)
    (try simp only [Act.put, List.setIfInBounds_toArray, List.set_cons_zero, List.set_cons_succ])
    refine wpAnyH_take (i := 15) (oi := ?_) (v := ?_) ?_ (by kernel_rfl) (by kernel_rfl) (by kernel_rfl) ?_ (Or.inl ⟨?_, ?_⟩) hHeld ?_
    rotate_left 2
    · (simp only [List.getElem?_toArray, List.getElem?_cons_zero, List.getElem?_cons_succ]; rfl)
    · exact (fun _ _ _ h => h)
    · rfl
    · (intro w hSw; (try dsimp only at hSw); go_simp; try with_reducible rfl)
    (try simp only [Act.put, List.setIfInBounds_toArray, List.set_cons_zero, List.set_cons_succ])
    refine wpAnyH_take (i := 16) (oi := ?_) (v := ?_) ?_ (by kernel_rfl) (by kernel_rfl) (by kernel_rfl) ?_ (Or.inl ⟨?_, ?_⟩) hHeld ?_
    rotate_left 2
    · (simp only [List.getElem?_toArray, List.getElem?_cons_zero, List.getElem?_cons_succ]; rfl)
    · exact (fun _ _ _ h => h)
    · rfl
    · (intro w hSw; (try dsimp only at hSw); go_simp; try with_reducible rfl)
    (try simp only [Act.put, List.setIfInBounds_toArray, List.set_cons_zero, List.set_cons_succ])
    refine wpAnyH_done (by kernel_rfl) ?_ _
    go_wp2_with fail
    go_ret
    exact ⟨rfl, HB11.out⟩

set_option maxHeartbeats 16000000 in
set_option maxRecDepth 10000 in
theorem lines_full (g o n c : Nat) (T : Nat → Int) (ls : List Ln) (lk lg la lb lc : Int) (hn : n = ls.length) (hok : OkC T ls) (hl : OkL ⟨lk, lg, la, lb, lc⟩) (h8 : n = 8) (w : World) (hv : Els RLn 5 w (.slice (some ⟨g, o, none⟩) n c) ls) :
    Calls Tryd.prog 6 #[.agg (cfc (.slice (some ⟨g, o, none⟩) n c) T), .agg #[.int .i64 lk, .int .i64 lg, .int .i64 la, .int .i64 lb, .int .i64 lc]] w fun e w' => e = .returned (.bool true) ∧ Below w.heap.size w w' := by
  have hn0 : 0 < n := by have := hok.1; omega
  have hn8 : n ≤ 8 := by have := hok.1; omega
  have hgw : g < w.heap.size := by
    obtain ⟨y, hy⟩ : ∃ y, ls[0]? = some y := ⟨_, List.getElem?_eq_getElem (by omega)⟩
    obtain ⟨g', o', e, hr⟩ := hv.at_ hy
    simp only [Option.some.injEq, Addr.mk.injEq] at e
    obtain ⟨rfl, rfl, _⟩ := e
    exact lt_of_cell hr.1
  have HN := Lib.hid hn
  have HE := Lib.hid (fun w h => check_any (.slice (some ⟨g, o, none⟩) n c) T ls 0 (if_pos hok).symm w h)
  have HMORE := Lib.hid (fun g cap w h => check_any (.slice (some ⟨g, 0, none⟩) (n + 1) cap) T (([] ++ ls) ++ [⟨lk, lg, la, lb, lc⟩]) 6 (if_neg (fun h => by have := ((okC_more hok).1 h).1; omega)).symm w h)
  have HONE := Lib.hid (fun g w h => check_any (.slice (some ⟨g, 0, none⟩) 1 1) T [⟨lk, lg, la, lb, lc⟩] 0 (if_pos ((okC_one hok).2 hl)).symm w h)
  have q8 : decide ((n : Int) < 8) = false := decide_eq_false (by omega)
  have q8' : decide (n < 8) = false := decide_eq_false (by omega)
  have HB := Lib.hid (below_alloc (below_alloc (Below.refl _ w) (.cells (cfc (.slice (some ⟨g, o, none⟩) n c) T) 26)) (.cells #[.int .i64 lk, .int .i64 lg, .int .i64 la, .int .i64 lb, .int .i64 lc] 48))
  have HX := Lib.hid ((cx_new w (.slice (some ⟨g, o, none⟩) n c) T ls hv).below (below_alloc (Below.refl _ _) (.cells #[.int .i64 lk, .int .i64 lg, .int .i64 la, .int .i64 lb, .int .i64 lc] 48)))
  have hY := blk_new (w.alloc (.cells (cfc (.slice (some ⟨g, o, none⟩) n c) T) 26)) #[.int .i64 lk, .int .i64 lg, .int .i64 la, .int .i64 lb, .int .i64 lc] 48
  rw [show (w.alloc (.cells (cfc (.slice (some ⟨g, o, none⟩) n c) T) 26)).heap.size = w.heap.size + 1 by simp] at hY
  have HY := Lib.hid hY
  have q0 : decide ((20 : Int) < (n : Int)) = false := decide_eq_false (by omega)
  clear hv hY hn hok hl h8
  unfold cfc at *
  go_enter Tryd.func6, Tryd.ntmps6
  go_wp2_with fail
  (with_reducible refine (small_true _).mono ?_)
  rintro e w1 ⟨rfl, hb⟩
  obtain ⟨c0, c1, c2, c3, c4, c5, c6, c7, c8, c9, c10⟩ := cells11 (HX.out.below hb)
  have HX1 := Lib.hid (HX.out.below hb)
  have HY1 := Lib.hid (HY.out.below hb)
  have HB1 := Lib.hid (below_call HB.out hb)
  clear hb HB HX HY
  go_wp2_with fail
  (with_reducible refine (HE.out _ HX1.out.els).mono ?_)
  rintro e w2 ⟨r2, rfl, hr, hb⟩
  obtain rfl := hr.nil
  have HK := Lib.hid (below_call (below_alloc (Below.refl _ w2) (.cells (cfc (.slice (some ⟨g, o, none⟩) n c) T) 26)) (bel_drew _))
  have hb2 := below_call hb HK.out
  have HXd := Lib.hid (HX1.out.below hb2)
  have HYd := Lib.hid (HY1.out.below hb2)
  have HBd := Lib.hid (below_call HB1.out hb2)
  have HZd := Lib.hid ((blk_new w2 (cfc (.slice (some ⟨g, o, none⟩) n c) T) 26).below (bel_drew _))
  have hlt1 := HX1.out.blk.lt
  have hltY := HY1.out.lt
  have hlt2 := hb.size
  have hlt3 : w2.heap.size < (w2.alloc (.cells (cfc (.slice (some ⟨g, o, none⟩) n c) T) 26)).drew.heap.size := HZd.out.lt
  clear c0 c1 c2 c3 c4 c5 c6 c7 c8 c9 c10
  obtain ⟨c0, c1, c2, c3, c4, c5, c6, c7, c8, c9, c10⟩ := cells11 (HX1.out.below hb)
  clear hb hb2 hr HX1 HY1 HB1 HE HK
  unfold cfc at *
  go_wp2_with fail
  clear c0 c1 c2 c3 c4 c5 c6 c7 c8 c9 c10
  refine wp_region_held_drew (S := (fun w' => Cx w' w.heap.size (.slice (some ⟨g, o, none⟩) n c) T ls ∧ Blk w' (w.heap.size + 1) #[.int .i64 lk, .int .i64 lg, .int .i64 la, .int .i64 lb, .int .i64 lc] 48)) (by kernel_rfl) ⟨HXd.out, HYd.out⟩ (fun hHeld => ?_)
  generalize (w2.alloc (.cells #[.slice (some ⟨g, o, none⟩) n c, .int .i64 (T 0), .int .i64 (T 1), .int .i64 (T 2), .int .i64 (T 3), .int .i64 (T 4), .int .i64 (T 5), .int .i64 (T 6), .int .i64 (T 7), .int .i64 (T 8), .int .i64 (T 9)] 26)).drew = Wd at *
  have HOLD := Lib.hid (show ∀ w', Below Wd.heap.size Wd w' → (fun w' => Cx w' w.heap.size (.slice (some ⟨g, o, none⟩) n c) T ls ∧ Blk w' (w.heap.size + 1) #[.int .i64 lk, .int .i64 lg, .int .i64 la, .int .i64 lb, .int .i64 lc] 48) w' from fun _ hb => ⟨HXd.out.below hb, HYd.out.below hb⟩)
  refine wpAnyH_take (i := 1) (oi := ?_) (v := ?_) ?_ (by kernel_rfl) (by kernel_rfl) (by kernel_rfl) ?_ (Or.inl ⟨?_, ?_⟩) hHeld ?_
  rotate_left 2
  · (simp only [List.getElem?_toArray, List.getElem?_cons_zero, List.getElem?_cons_succ]; rfl)
  · exact (fun _ _ _ h => h)
  · rfl
  · (intro w hSw; (try dsimp only at hSw); go_simp; try with_reducible rfl)
  (try simp only [Act.put, List.setIfInBounds_toArray, List.set_cons_zero, List.set_cons_succ])
  refine wpAnyH_take (i := 2) (oi := ?_) (v := ?_) ?_ (by kernel_rfl) (by kernel_rfl) (by kernel_rfl) ?_ (Or.inl ⟨?_, ?_⟩) hHeld ?_
  rotate_left 2
  · (simp only [List.getElem?_toArray, List.getElem?_cons_zero, List.getElem?_cons_succ]; rfl)
  · exact (fun _ _ _ h => h)
  · rfl
  · (intro w hSw; (try dsimp only at hSw); obtain ⟨c0, c1, c2, c3, c4, c5, c6, c7, c8, c9, c10⟩ := cells11 hSw.1; go_simp; try with_reducible rfl)
  (try simp only [Act.put, List.setIfInBounds_toArray, List.set_cons_zero, List.set_cons_succ])
  refine wpAnyH_take (i := 4) (oi := ?_) (v := ?_) ?_ (by kernel_rfl) (by kernel_rfl) (by kernel_rfl) ?_ (Or.inl ⟨?_, ?_⟩) hHeld ?_
  rotate_left 2
  · (simp only [List.getElem?_toArray, List.getElem?_cons_zero, List.getElem?_cons_succ]; rfl)
  · exact (fun _ _ _ h => h)
  · rfl
  · (intro w hSw; (try dsimp only at hSw); have y0 := hSw.2.cell 0 (u := .int .i64 lk) rfl; have y1 := hSw.2.cell 1 (u := .int .i64 lg) rfl; have y2 := hSw.2.cell 2 (u := .int .i64 la) rfl; have y3 := hSw.2.cell 3 (u := .int .i64 lb) rfl; have y4 := hSw.2.cell 4 (u := .int .i64 lc) rfl; go_simp; try with_reducible rfl)
  (try simp only [Act.put, List.setIfInBounds_toArray, List.set_cons_zero, List.set_cons_succ])
  refine wpAnyH_ready (rs := [0, 5]) (by kernel_rfl) (by simp) ?_
  refine AllReadyH.cons (o := ?_) ?_ (fun K hK => ?_) ?_
  rotate_left
  · (simp only [List.getElem?_toArray, List.getElem?_cons_zero]; rfl)
  · -- 0 first
    go_simp
    have HOL := Lib.hid (ownL_lit Wd Wd.heap.size (Nat.le_refl _))
    have HBZ := Lib.hid (below_alloc (Below.refl _ Wd) (.cells #[] 48))
    refine hK.out _ _ (HOLD.out _ HBZ.out) (fun hHeld => ?_)
    clear hK K
    (try simp only [Act.put, List.setIfInBounds_toArray, List.set_cons_zero, List.set_cons_succ])
    refine wpAnyH_ready (rs := [3, 5]) (by kernel_rfl) (by simp) ?_
    refine AllReadyH.cons (o := ?_) ?_ (fun K hK => ?_) ?_
    rotate_left
    · (simp only [List.getElem?_toArray, List.getElem?_cons_zero, List.getElem?_cons_succ]; rfl)
    · -- 3 first
      refine step_appL rfl _ _ rfl Wd.heap.size (.slice (some ⟨Wd.heap.size, 0, none⟩) 0 0) 0 [] rfl rfl HOL.out g o n c ls rfl HN.out.symm (HOLD.out _ HBZ.out).1.els hn0 (by omega) HBZ.out.size n (Nat.zero_add n) ?_
      intro g3 cap3 w3 hown hg
      have HO3 := Lib.hid hown
      have HB3 := Lib.hid (low_of HBZ.out hg (fun g e => (HOL.out.lt e).1) HBZ.out.size)
      clear hown hg
      refine hK.out _ _ (HOLD.out _ HB3.out) (fun hHeld => ?_)
      clear hK K
      (try simp only [Act.put, List.setIfInBounds_toArray, List.set_cons_zero, List.set_cons_succ])
      refine wpAnyH_ready (rs := [5]) (by kernel_rfl) (by simp) ?_
      refine AllReadyH.cons (o := ?_) ?_ (fun K hK => ?_) AllReadyH.nil
      rotate_left
      · (simp only [List.getElem?_toArray, List.getElem?_cons_zero, List.getElem?_cons_succ]; rfl)
      go_simp
      have hLB := blk_new w3 #[.int .i64 lk, .int .i64 lg, .int .i64 la, .int .i64 lb, .int .i64 lc] 48
      have HLB := Lib.hid hLB
      clear hLB
      have HBY := Lib.hid (HB3.out.trans ((below_alloc (Below.refl _ w3) (.cells #[.int .i64 lk, .int .i64 lg, .int .i64 la, .int .i64 lb, .int .i64 lc] 48)).mono HB3.out.size))
      have HO3N := Lib.hid (HO3.out.below (below_alloc (Below.refl _ w3) (.cells #[.int .i64 lk, .int .i64 lg, .int .i64 la, .int .i64 lb, .int .i64 lc] 48)))
      refine hK.out _ _ (HOLD.out _ HBY.out) (fun hHeld => ?_)
      clear hK K
      (try simp only [Act.put, List.setIfInBounds_toArray, List.set_cons_zero, List.set_cons_succ])
      refine wpAnyH_ready (rs := [6]) (by kernel_rfl) (by simp) ?_
      refine AllReadyH.cons (o := ?_) ?_ (fun K hK => ?_) AllReadyH.nil
      rotate_left
      · (simp only [List.getElem?_toArray, List.getElem?_cons_zero, List.getElem?_cons_succ]; rfl)
      refine step_appL rfl _ _ rfl Wd.heap.size (.slice (some ⟨g3, 0, none⟩) n cap3) n ([] ++ ls) rfl HN.out HO3N.out w3.heap.size 0 1 1 [⟨lk, lg, la, lb, lc⟩] rfl rfl (els_blk HLB.out) (by decide) (by omega) HBY.out.size (n + 1) rfl ?_
      intro g6 cap6 w6 hown hg
      have HO6 := Lib.hid hown
      have HB6 := Lib.hid (low_of HBY.out hg (fun g e => (HO3N.out.lt e).1) HBY.out.size)
      clear hown hg
      refine hK.out _ _ (HOLD.out _ HB6.out) (fun hHeld => ?_)
      clear hK K
      (try simp only [Act.put, List.setIfInBounds_toArray, List.set_cons_zero, List.set_cons_succ])
      have hZ6 := HZd.out.low HB6.out (by omega)
      have z0 := hZ6.cell 0 (u := .slice (some ⟨g, o, none⟩) n c) rfl
      have zf := hZ6.frz 0
      have HZ6 := Lib.hid hZ6
      clear hZ6
      refine wpAnyH_take (i := 7) (oi := ?_) (v := ?_) ?_ (by kernel_rfl) (by kernel_rfl) (by kernel_rfl) ?_ (Or.inl ⟨?_, ?_⟩) hHeld ?_
      rotate_left 2
      · (simp only [List.getElem?_toArray, List.getElem?_cons_zero, List.getElem?_cons_succ]; rfl)
      · exact (fun _ _ _ h => h)
      · rfl
      · (intro w hSw; (try dsimp only at hSw); go_simp; try with_reducible rfl)
      (try simp only [Act.put, List.setIfInBounds_toArray, List.set_cons_zero, List.set_cons_succ])
      refine wpAnyH_ready (rs := [8]) (by kernel_rfl) (by simp) ?_
      refine AllReadyH.cons (o := ?_) ?_ (fun K hK => ?_) AllReadyH.nil
      rotate_left
      · (simp only [List.getElem?_toArray, List.getElem?_cons_zero, List.getElem?_cons_succ]; rfl)
      go_simp
      have hS6 := HOLD.out _ HB6.out
      have hA : Apart w2.heap.size w6 (w6.setCell ⟨w2.heap.size, 0, none⟩ (.slice (some ⟨g6, 0, none⟩) (n + 1) cap6)) := Apart.set_ _ _ _ _
      have HX8 := Lib.hid (show Cx (w6.setCell ⟨w2.heap.size, 0, none⟩ (.slice (some ⟨g6, 0, none⟩) (n + 1) cap6)) w.heap.size (.slice (some ⟨g, o, none⟩) n c) T ls from ⟨hS6.1.blk.apart hA (by omega), els_apart hS6.1.els hA (by omega)⟩)
      have HY8 := Lib.hid (hS6.2.apart hA (by omega))
      have HZ8 := Lib.hid (show Blk (w6.setCell ⟨w2.heap.size, 0, none⟩ (.slice (some ⟨g6, 0, none⟩) (n + 1) cap6)) w2.heap.size (cfc (.slice (some ⟨g6, 0, none⟩) (n + 1) cap6) T) 26 from HZ6.out.set_ 0 (.slice (some ⟨g6, 0, none⟩) (n + 1) cap6))
      have HE8 := Lib.hid ((HO6.out.keep (F := fun x => x = w2.heap.size) (Keep.set_ w6 w2.heap.size 0 (.slice (some ⟨g6, 0, none⟩) (n + 1) cap6) rfl) (fun g e => by rw [e]; omega)).els)
      have HB8 := Lib.hid (bel_set (HBd.out.trans (HB6.out.mono (by omega))) (by omega : w.heap.size ≤ w2.heap.size) 0 (.slice (some ⟨g6, 0, none⟩) (n + 1) cap6))
      clear hS6 hA z0 zf HZ6 HO6
      refine hK.out _ _ ⟨HX8.out, HY8.out⟩ (fun hHeld => ?_)
      clear hK K
      (try simp only [Act.put, List.setIfInBounds_toArray, List.set_cons_zero, List.set_cons_succ])
      refine wpAnyH_done (by kernel_rfl) ?_ _
      have hsz8 := HZ8.out.lt
      generalize w6.setCell ⟨w2.heap.size, 0, none⟩ (.slice (some ⟨g6, 0, none⟩) (n + 1) cap6) = w8 at *
      obtain ⟨c0, c1, c2, c3, c4, c5, c6, c7, c8, c9, c10⟩ := cells11 HX8.out
      have hY := HY8.out.below (below_alloc (Below.refl _ w8) (.cells #[.slice (some ⟨g, o, none⟩) n c, .int .i64 (T 0), .int .i64 (T 1), .int .i64 (T 2), .int .i64 (T 3), .int .i64 (T 4), .int .i64 (T 5), .int .i64 (T 6), .int .i64 (T 7), .int .i64 (T 8), .int .i64 (T 9)] 26))
      have y0 := hY.cell 0 (u := .int .i64 lk) rfl
      have y1 := hY.cell 1 (u := .int .i64 lg) rfl
      have y2 := hY.cell 2 (u := .int .i64 la) rfl
      have y3 := hY.cell 3 (u := .int .i64 lb) rfl
      have y4 := hY.cell 4 (u := .int .i64 lc) rfl
      have hL7 := blk_new (w8.alloc (.cells #[.slice (some ⟨w8.heap.size + 1, 0, none⟩) 1 1, .int .i64 (T 0), .int .i64 (T 1), .int .i64 (T 2), .int .i64 (T 3), .int .i64 (T 4), .int .i64 (T 5), .int .i64 (T 6), .int .i64 (T 7), .int .i64 (T 8), .int .i64 (T 9)] 26)) #[.int .i64 lk, .int .i64 lg, .int .i64 la, .int .i64 lb, .int .i64 lc] 48
      rw [show (w8.alloc (.cells #[.slice (some ⟨w8.heap.size + 1, 0, none⟩) 1 1, .int .i64 (T 0), .int .i64 (T 1), .int .i64 (T 2), .int .i64 (T 3), .int .i64 (T 4), .int .i64 (T 5), .int .i64 (T 6), .int .i64 (T 7), .int .i64 (T 8), .int .i64 (T 9)] 26)).heap.size = w8.heap.size + 1 by simp] at hL7
      have HT9 := Lib.hid (show Blk ((w8.alloc (.cells #[.slice (some ⟨w8.heap.size + 1, 0, none⟩) 1 1, .int .i64 (T 0), .int .i64 (T 1), .int .i64 (T 2), .int .i64 (T 3), .int .i64 (T 4), .int .i64 (T 5), .int .i64 (T 6), .int .i64 (T 7), .int .i64 (T 8), .int .i64 (T 9)] 26)).alloc (.cells #[.int .i64 lk, .int .i64 lg, .int .i64 la, .int .i64 lb, .int .i64 lc] 48)) w8.heap.size (cfc (.slice (some ⟨w8.heap.size + 1, 0, none⟩) 1 1) T) 26 from (blk_new w8 _ _).below (below_alloc (Below.refl _ _) _))
      have HL9 := Lib.hid (show Els RLn 5 ((w8.alloc (.cells #[.slice (some ⟨w8.heap.size + 1, 0, none⟩) 1 1, .int .i64 (T 0), .int .i64 (T 1), .int .i64 (T 2), .int .i64 (T 3), .int .i64 (T 4), .int .i64 (T 5), .int .i64 (T 6), .int .i64 (T 7), .int .i64 (T 8), .int .i64 (T 9)] 26)).alloc (.cells #[.int .i64 lk, .int .i64 lg, .int .i64 la, .int .i64 lb, .int .i64 lc] 48)) (.slice (some ⟨w8.heap.size + 1, 0, none⟩) 1 1) [⟨lk, lg, la, lb, lc⟩] from els_blk hL7)
      have hK9 : Below w8.heap.size w8 ((w8.alloc (.cells #[.slice (some ⟨w8.heap.size + 1, 0, none⟩) 1 1, .int .i64 (T 0), .int .i64 (T 1), .int .i64 (T 2), .int .i64 (T 3), .int .i64 (T 4), .int .i64 (T 5), .int .i64 (T 6), .int .i64 (T 7), .int .i64 (T 8), .int .i64 (T 9)] 26)).alloc (.cells #[.int .i64 lk, .int .i64 lg, .int .i64 la, .int .i64 lb, .int .i64 lc] 48)) := below_alloc (below_alloc (Below.refl _ w8) _) _
      have HX9 := Lib.hid (HX8.out.below hK9)
      have HZ9 := Lib.hid (HZ8.out.below hK9)
      have HE9 := Lib.hid (HE8.out.below (fun _ _ _ h => h.below hK9))
      have HB9 := Lib.hid (below_call HB8.out hK9)
      clear hY hL7 hK9 HX8 HY8 HZ8 HE8 HB8
      go_wp2_with fail
      clear c0 c1 c2 c3 c4 c5 c6 c7 c8 c9 c10 y0 y1 y2 y3 y4
      generalize ((w8.alloc (.cells #[.slice (some ⟨w8.heap.size + 1, 0, none⟩) 1 1, .int .i64 (T 0), .int .i64 (T 1), .int .i64 (T 2), .int .i64 (T 3), .int .i64 (T 4), .int .i64 (T 5), .int .i64 (T 6), .int .i64 (T 7), .int .i64 (T 8), .int .i64 (T 9)] 26)).alloc (.cells #[.int .i64 lk, .int .i64 lg, .int .i64 la, .int .i64 lb, .int .i64 lc] 48)) = w9 at *
      refine wp_region_held_drew (S := (fun w' => Blk w' w2.heap.size (cfc (.slice (some ⟨g6, 0, none⟩) (n + 1) cap6) T) 26 ∧ Blk w' w8.heap.size (cfc (.slice (some ⟨w8.heap.size + 1, 0, none⟩) 1 1) T) 26 ∧ Blk w' w.heap.size (cfc (.slice (some ⟨g, o, none⟩) n c) T) 26)) (by kernel_rfl) ⟨HZ9.out, HT9.out, HX9.out.blk⟩ (fun hHeld => ?_)
      refine wpAnyH_take (i := 0) (oi := ?_) (v := ?_) ?_ (by kernel_rfl) (by kernel_rfl) (by kernel_rfl) ?_ (Or.inl ⟨?_, ?_⟩) hHeld ?_
      rotate_left 2
      · (simp only [List.getElem?_toArray, List.getElem?_cons_zero]; rfl)
      · exact (fun _ _ _ h => h)
      · rfl
      · (intro w hSw; (try dsimp only at hSw); go_simp; try with_reducible rfl)
      (try simp only [Act.put, List.setIfInBounds_toArray, List.set_cons_zero, List.set_cons_succ])
      refine wpAnyH_take (i := 1) (oi := ?_) (v := ?_) ?_ (by kernel_rfl) (by kernel_rfl) (by kernel_rfl) ?_ (Or.inl ⟨?_, ?_⟩) hHeld ?_
      rotate_left 2
      · (simp only [List.getElem?_toArray, List.getElem?_cons_zero, List.getElem?_cons_succ]; rfl)
      · exact (fun _ _ _ h => h)
      · rfl
      · (intro w hSw; (try dsimp only at hSw); go_simp; try with_reducible rfl)
      (try simp only [Act.put, List.setIfInBounds_toArray, List.set_cons_zero, List.set_cons_succ])
      refine wpAnyH_take (i := 2) (oi := ?_) (v := ?_) ?_ (by kernel_rfl) (by kernel_rfl) (by kernel_rfl) ?_ (Or.inl ⟨?_, ?_⟩) hHeld ?_
      rotate_left 2
      · (simp only [List.getElem?_toArray, List.getElem?_cons_zero, List.getElem?_cons_succ]; rfl)
      · exact (fun _ _ _ h => h)
      · rfl
      · (intro w hSw; (try dsimp only at hSw); obtain ⟨c0, c1, c2, c3, c4, c5, c6, c7, c8, c9, c10⟩ := Blk.eleven hSw.1; go_simp; try with_reducible rfl)
      (try simp only [Act.put, List.setIfInBounds_toArray, List.set_cons_zero, List.set_cons_succ])
      refine wpAnyH_take (i := 5) (oi := ?_) (v := ?_) ?_ (by kernel_rfl) (by kernel_rfl) (by kernel_rfl) ?_ (Or.inl ⟨?_, ?_⟩) hHeld ?_
      rotate_left 2
      · (simp only [List.getElem?_toArray, List.getElem?_cons_zero, List.getElem?_cons_succ]; rfl)
      · exact (fun _ _ _ h => h)
      · rfl
      · (intro w hSw; (try dsimp only at hSw); obtain ⟨c0, c1, c2, c3, c4, c5, c6, c7, c8, c9, c10⟩ := Blk.eleven hSw.2.1; go_simp; try with_reducible rfl)
      (try simp only [Act.put, List.setIfInBounds_toArray, List.set_cons_zero, List.set_cons_succ])
      refine wpAnyH_ready (rs := [3]) (by kernel_rfl) (by simp) ?_
      refine AllReadyH.cons (o := ?_) ?_ (fun K hK => ?_) AllReadyH.nil
      rotate_left
      · (simp only [List.getElem?_toArray, List.getElem?_cons_zero, List.getElem?_cons_succ]; rfl)
      go_simp
      (with_reducible refine (HMORE.out _ _ _ (HE9.out.below (fun _ _ _ h => h.below (bel_drew _)))).mono ?_)
      rintro e w10 ⟨r10, rfl, hr, hb⟩
      obtain ⟨b10, rfl, _⟩ := hr.not (by decide)
      have HT10 := Lib.hid ((HT9.out.below (bel_drew _)).below hb)
      have HL10 := Lib.hid ((HL9.out.below (fun _ _ _ h => h.below (bel_drew _))).below (fun _ _ _ h => h.below hb))
      have HX10 := Lib.hid ((HX9.out.below (bel_drew _)).below hb)
      have HZ10 := Lib.hid ((HZ9.out.below (bel_drew _)).below hb)
      have HB10 := Lib.hid (below_call (below_call HB9.out (bel_drew _)) hb)
      clear hb hr HT9 HL9 HX9 HZ9 HB9
      go_wp2_with fail
      refine hK.out _ _ ⟨HZ10.out, HT10.out, HX10.out.blk⟩ (fun hHeld => ?_)
      clear hK K
      (try simp only [Act.put, List.setIfInBounds_toArray, List.set_cons_zero, List.set_cons_succ])
      refine wpAnyH_take (i := 4) (oi := ?_) (v := ?_) ?_ (by kernel_rfl) (by kernel_rfl) (by kernel_rfl) ?_ (Or.inl ⟨?_, ?_⟩) hHeld ?_
      rotate_left 2
      · (simp only [List.getElem?_toArray, List.getElem?_cons_zero, List.getElem?_cons_succ]; rfl)
      · exact (fun _ _ _ h => h)
      · rfl
      · (intro w hSw; (try dsimp only at hSw); go_simp; try with_reducible rfl)
      (try simp only [Act.put, List.setIfInBounds_toArray, List.set_cons_zero, List.set_cons_succ])
      refine wpAnyH_ready (rs := [6]) (by kernel_rfl) (by simp) ?_
      refine AllReadyH.cons (o := ?_) ?_ (fun K hK => ?_) AllReadyH.nil
      rotate_left
      · (simp only [List.getElem?_toArray, List.getElem?_cons_zero, List.getElem?_cons_succ]; rfl)
      go_simp
      (with_reducible refine (HONE.out _ _ HL10.out).mono ?_)
      rintro e w11 ⟨r11, rfl, hr, hb⟩
      obtain rfl := hr.nil
      have HT11 := Lib.hid (HT10.out.below hb)
      have HX11 := Lib.hid (HX10.out.below hb)
      have HZ11 := Lib.hid (HZ10.out.below hb)
      have HB11 := Lib.hid (below_call HB10.out hb)
      clear hb hr HT10 HL10 HX10 HZ10 HB10
      go_wp2_with fail
      refine hK.out _ _ ⟨HZ11.out, HT11.out, HX11.out.blk⟩ (fun hHeld => ?_)
      clear hK K
      (try simp only [Act.put, List.setIfInBounds_toArray, List.set_cons_zero, List.set_cons_succ])
      refine wpAnyH_take (i := 7) (oi := ?_) (v := ?_) ?_ (by kernel_rfl) (by kernel_rfl) (by kernel_rfl) ?_ (Or.inl ⟨?_, ?_⟩) hHeld ?_
      rotate_left 2
      · (simp only [List.getElem?_toArray, List.getElem?_cons_zero, List.getElem?_cons_succ]; rfl)
      · exact (fun _ _ _ h => h)
      · rfl
      · (intro w hSw; (try dsimp only at hSw); go_simp; try with_reducible rfl)
      (try simp only [Act.put, List.setIfInBounds_toArray, List.set_cons_zero, List.set_cons_succ])
      refine wpAnyH_take (i := 8) (oi := ?_) (v := ?_) ?_ (by kernel_rfl) (by kernel_rfl) (by kernel_rfl) ?_ (Or.inl ⟨?_, ?_⟩) hHeld ?_
      rotate_left 2
      · (simp only [List.getElem?_toArray, List.getElem?_cons_zero, List.getElem?_cons_succ]; rfl)
      · exact (fun _ _ _ h => h)
      · rfl
      · (intro w hSw; (try dsimp only at hSw); go_simp; try with_reducible rfl)
      (try simp only [Act.put, List.setIfInBounds_toArray, List.set_cons_zero, List.set_cons_succ])
      refine wpAnyH_take (i := 9) (oi := ?_) (v := ?_) ?_ (by kernel_rfl) (by kernel_rfl) (by kernel_rfl) ?_ (Or.inl ⟨?_, ?_⟩) hHeld ?_
      rotate_left 2
      · (simp only [List.getElem?_toArray, List.getElem?_cons_zero, List.getElem?_cons_succ]; rfl)
      · exact (fun _ _ _ h => h)
      · rfl
      · (intro w hSw; (try dsimp only at hSw); go_simp; try with_reducible rfl)
      (try simp only [Act.put, List.setIfInBounds_toArray, List.set_cons_zero, List.set_cons_succ])
      refine wpAnyH_take (i := 10) (oi := ?_) (v := ?_) ?_ (by kernel_rfl) (by kernel_rfl) (by kernel_rfl) ?_ (Or.inl ⟨?_, ?_⟩) hHeld ?_
      rotate_left 2
      · (simp only [List.getElem?_toArray, List.getElem?_cons_zero, List.getElem?_cons_succ]; rfl)
      · exact (fun _ _ _ h => h)
      · rfl
      · (intro w hSw; (try dsimp only at hSw); obtain ⟨c0, c1, c2, c3, c4, c5, c6, c7, c8, c9, c10⟩ := Blk.eleven hSw.2.2; go_simp; try with_reducible rfl)
      (try simp only [Act.put, List.setIfInBounds_toArray, List.set_cons_zero, List.set_cons_succ])
      refine wpAnyH_take (i := 11) (oi := ?_) (v := ?_) ?_ (by kernel_rfl) (by kernel_rfl) (by kernel_rfl) ?_ (Or.inl ⟨?_, ?_⟩) hHeld ?_
      rotate_left 2
      · (simp only [List.getElem?_toArray, List.getElem?_cons_zero, List.getElem?_cons_succ]; rfl)
      · exact (fun _ _ _ h => h)
      · rfl
      · (intro w hSw; (try dsimp only at hSw); go_simp; try with_reducible rfl)
      (try simp only [Act.put, List.setIfInBounds_toArray, List.set_cons_zero, List.set_cons_succ])
      refine wpAnyH_take (i := 12) (oi := ?_) (v := ?_) ?_ (by kernel_rfl) (by kernel_rfl) (by kernel_rfl) ?_ (Or.inl ⟨?_, ?_⟩) hHeld ?_
      rotate_left 2
      · (simp only [List.getElem?_toArray, List.getElem?_cons_zero, List.getElem?_cons_succ]; rfl)
      · exact (fun _ _ _ h => h)
      · rfl
      · (intro w hSw; (try dsimp only at hSw); go_simp; try with_reducible rfl)
      (try simp only [Act.put, List.setIfInBounds_toArray, List.set_cons_zero, List.set_cons_succ])
      refine wpAnyH_take (i := 13) (oi := ?_) (v := ?_) ?_ (by kernel_rfl) (by kernel_rfl) (by kernel_rfl) ?_ (Or.inl ⟨?_, ?_⟩) hHeld ?_
      rotate_left 2
      · (simp only [List.getElem?_toArray, List.getElem?_cons_zero, List.getElem?_cons_succ]; rfl)
      · exact (fun _ _ _ h => h)
      · rfl
      · (intro w hSw; (try dsimp only at hSw); go_simp; try with_reducible rfl)
      (try simp only [Act.put, List.setIfInBounds_toArray, List.set_cons_zero, List.set_cons_succ])
      refine wpAnyH_take (i := 14) (oi := ?_) (v := ?_) ?_ (by kernel_rfl) (by kernel_rfl) (by kernel_rfl) ?_ (Or.inl ⟨?_, ?_⟩) hHeld ?_
      rotate_left 2
      · (simp only [List.getElem?_toArray, List.getElem?_cons_zero, List.getElem?_cons_succ]; rfl)
      · exact (fun _ _ _ h => h)
      · rfl
      · (intro w hSw; (try dsimp only at hSw); go_simp; try with_reducible rfl)
      (try simp only [Act.put, List.setIfInBounds_toArray, List.set_cons_zero, List.set_cons_succ])
      refine wpAnyH_take (i := 15) (oi := ?_) (v := ?_) ?_ (by kernel_rfl) (by kernel_rfl) (by kernel_rfl) ?_ (Or.inl ⟨?_, ?_⟩) hHeld ?_
      rotate_left 2
      · (simp only [List.getElem?_toArray, List.getElem?_cons_zero, List.getElem?_cons_succ]; rfl)
      · exact (fun _ _ _ h => h)
      · rfl
      · (intro w hSw; (try dsimp only at hSw); go_simp; try with_reducible rfl)
      (try simp only [Act.put, List.setIfInBounds_toArray, List.set_cons_zero, List.set_cons_succ])
      refine wpAnyH_take (i := 16) (oi := ?_) (v := ?_) ?_ (by kernel_rfl) (by kernel_rfl) (by kernel_rfl) ?_ (Or.inl ⟨?_, ?_⟩) hHeld ?_
      rotate_left 2
      · (simp only [List.getElem?_toArray, List.getElem?_cons_zero, List.getElem?_cons_succ]; rfl)
      · exact (fun _ _ _ h => h)
      · rfl
      · (intro w hSw; (try dsimp only at hSw); go_simp; try with_reducible rfl)
      (try simp only [Act.put, List.setIfInBounds_toArray, List.set_cons_zero, List.set_cons_succ])
      refine wpAnyH_done (by kernel_rfl) ?_ _
      go_wp2_with fail
      go_ret
      exact ⟨rfl, HB11.out⟩
    · refine AllReadyH.cons (o := ?_) ?_ (fun K hK => ?_) AllReadyH.nil
      rotate_left
      · (simp only [List.getElem?_toArray, List.getElem?_cons_zero, List.getElem?_cons_succ]; rfl)
      go_simp
      have hLB := blk_new (Wd.alloc (.cells #[] 48)) #[.int .i64 lk, .int .i64 lg, .int .i64 la, .int .i64 lb, .int .i64 lc] 48
      rw [show (Wd.alloc (.cells #[] 48)).heap.size = Wd.heap.size + 1 by simp] at hLB
      have HLB := Lib.hid hLB
      clear hLB
      have HBY := Lib.hid (HBZ.out.trans ((below_alloc (Below.refl _ (Wd.alloc (.cells #[] 48))) (.cells #[.int .i64 lk, .int .i64 lg, .int .i64 la, .int .i64 lb, .int .i64 lc] 48)).mono HBZ.out.size))
      have HOLN := Lib.hid (HOL.out.below (below_alloc (Below.refl _ (Wd.alloc (.cells #[] 48))) (.cells #[.int .i64 lk, .int .i64 lg, .int .i64 la, .int .i64 lb, .int .i64 lc] 48)))
      refine hK.out _ _ (HOLD.out _ HBY.out) (fun hHeld => ?_)
      clear hK K
      (try simp only [Act.put, List.setIfInBounds_toArray, List.set_cons_zero, List.set_cons_succ])
      refine wpAnyH_ready (rs := [3]) (by kernel_rfl) (by simp) ?_
      refine AllReadyH.cons (o := ?_) ?_ (fun K hK => ?_) AllReadyH.nil
      rotate_left
      · (simp only [List.getElem?_toArray, List.getElem?_cons_zero, List.getElem?_cons_succ]; rfl)
      refine step_appL rfl _ _ rfl Wd.heap.size (.slice (some ⟨Wd.heap.size, 0, none⟩) 0 0) 0 [] rfl rfl HOLN.out g o n c ls rfl HN.out.symm (HOLD.out _ HBY.out).1.els hn0 (by omega) HBY.out.size n (Nat.zero_add n) ?_
      intro g3 cap3 w3 hown hg
      have HO3 := Lib.hid hown
      have HB3 := Lib.hid (low_of HBY.out hg (fun g e => (HOLN.out.lt e).1) HBY.out.size)
      have HLC := Lib.hid (HLB.out.keep (G := fun x => x = Wd.heap.size) (Keep.grown hg (fun g e => (Option.some.inj e).symm)) (by omega))
      clear hown hg
      refine hK.out _ _ (HOLD.out _ HB3.out) (fun hHeld => ?_)
      clear hK K
      (try simp only [Act.put, List.setIfInBounds_toArray, List.set_cons_zero, List.set_cons_succ])
      refine wpAnyH_ready (rs := [6]) (by kernel_rfl) (by simp) ?_
      refine AllReadyH.cons (o := ?_) ?_ (fun K hK => ?_) AllReadyH.nil
      rotate_left
      · (simp only [List.getElem?_toArray, List.getElem?_cons_zero, List.getElem?_cons_succ]; rfl)
      refine step_appL rfl _ _ rfl Wd.heap.size (.slice (some ⟨g3, 0, none⟩) n cap3) n ([] ++ ls) rfl HN.out HO3.out (Wd.heap.size + 1) 0 1 1 [⟨lk, lg, la, lb, lc⟩] rfl rfl (els_blk HLC.out) (by decide) (by omega) HB3.out.size (n + 1) rfl ?_
      intro g6 cap6 w6 hown hg
      have HO6 := Lib.hid hown
      have HB6 := Lib.hid (low_of HB3.out hg (fun g e => (HO3.out.lt e).1) HB3.out.size)
      clear hown hg
      refine hK.out _ _ (HOLD.out _ HB6.out) (fun hHeld => ?_)
      clear hK K
      (try simp only [Act.put, List.setIfInBounds_toArray, List.set_cons_zero, List.set_cons_succ])
      have hZ6 := HZd.out.low HB6.out (by omega)
      have z0 := hZ6.cell 0 (u := .slice (some ⟨g, o, none⟩) n c) rfl
      have zf := hZ6.frz 0
      have HZ6 := Lib.hid hZ6
      clear hZ6
      refine wpAnyH_take (i := 7) (oi := ?_) (v := ?_) ?_ (by kernel_rfl) (by kernel_rfl) (by kernel_rfl) ?_ (Or.inl ⟨?_, ?_⟩) hHeld ?_
      rotate_left 2
      · (simp only [List.getElem?_toArray, List.getElem?_cons_zero, List.getElem?_cons_succ]; rfl)
      · exact (fun _ _ _ h => h)
      · rfl
      · (intro w hSw; (try dsimp only at hSw); go_simp; try with_reducible rfl)
      (try simp only [Act.put, List.setIfInBounds_toArray, List.set_cons_zero, List.set_cons_succ])
      refine wpAnyH_ready (rs := [8]) (by kernel_rfl) (by simp) ?_
      refine AllReadyH.cons (o := ?_) ?_ (fun K hK => ?_) AllReadyH.nil
      rotate_left
      · (simp only [List.getElem?_toArray, List.getElem?_cons_zero, List.getElem?_cons_succ]; rfl)
      go_simp
      have hS6 := HOLD.out _ HB6.out
      have hA : Apart w2.heap.size w6 (w6.setCell ⟨w2.heap.size, 0, none⟩ (.slice (some ⟨g6, 0, none⟩) (n + 1) cap6)) := Apart.set_ _ _ _ _
      have HX8 := Lib.hid (show Cx (w6.setCell ⟨w2.heap.size, 0, none⟩ (.slice (some ⟨g6, 0, none⟩) (n + 1) cap6)) w.heap.size (.slice (some ⟨g, o, none⟩) n c) T ls from ⟨hS6.1.blk.apart hA (by omega), els_apart hS6.1.els hA (by omega)⟩)
      have HY8 := Lib.hid (hS6.2.apart hA (by omega))
      have HZ8 := Lib.hid (show Blk (w6.setCell ⟨w2.heap.size, 0, none⟩ (.slice (some ⟨g6, 0, none⟩) (n + 1) cap6)) w2.heap.size (cfc (.slice (some ⟨g6, 0, none⟩) (n + 1) cap6) T) 26 from HZ6.out.set_ 0 (.slice (some ⟨g6, 0, none⟩) (n + 1) cap6))
      have HE8 := Lib.hid ((HO6.out.keep (F := fun x => x = w2.heap.size) (Keep.set_ w6 w2.heap.size 0 (.slice (some ⟨g6, 0, none⟩) (n + 1) cap6) rfl) (fun g e => by rw [e]; omega)).els)
      have HB8 := Lib.hid (bel_set (HBd.out.trans (HB6.out.mono (by omega))) (by omega : w.heap.size ≤ w2.heap.size) 0 (.slice (some ⟨g6, 0, none⟩) (n + 1) cap6))
      clear hS6 hA z0 zf HZ6 HO6
      refine hK.out _ _ ⟨HX8.out, HY8.out⟩ (fun hHeld => ?_)
      clear hK K
      (try simp only [Act.put, List.setIfInBounds_toArray, List.set_cons_zero, List.set_cons_succ])
      refine wpAnyH_done (by kernel_rfl) ?_ _
      have hsz8 := HZ8.out.lt
      generalize w6.setCell ⟨w2.heap.size, 0, none⟩ (.slice (some ⟨g6, 0, none⟩) (n + 1) cap6) = w8 at *
      obtain ⟨c0, c1, c2, c3, c4, c5, c6, c7, c8, c9, c10⟩ := cells11 HX8.out
      have hY := HY8.out.below (below_alloc (Below.refl _ w8) (.cells #[.slice (some ⟨g, o, none⟩) n c, .int .i64 (T 0), .int .i64 (T 1), .int .i64 (T 2), .int .i64 (T 3), .int .i64 (T 4), .int .i64 (T 5), .int .i64 (T 6), .int .i64 (T 7), .int .i64 (T 8), .int .i64 (T 9)] 26))
      have y0 := hY.cell 0 (u := .int .i64 lk) rfl
      have y1 := hY.cell 1 (u := .int .i64 lg) rfl
      have y2 := hY.cell 2 (u := .int .i64 la) rfl
      have y3 := hY.cell 3 (u := .int .i64 lb) rfl
      have y4 := hY.cell 4 (u := .int .i64 lc) rfl
      have hL7 := blk_new (w8.alloc (.cells #[.slice (some ⟨w8.heap.size + 1, 0, none⟩) 1 1, .int .i64 (T 0), .int .i64 (T 1), .int .i64 (T 2), .int .i64 (T 3), .int .i64 (T 4), .int .i64 (T 5), .int .i64 (T 6), .int .i64 (T 7), .int .i64 (T 8), .int .i64 (T 9)] 26)) #[.int .i64 lk, .int .i64 lg, .int .i64 la, .int .i64 lb, .int .i64 lc] 48
      rw [show (w8.alloc (.cells #[.slice (some ⟨w8.heap.size + 1, 0, none⟩) 1 1, .int .i64 (T 0), .int .i64 (T 1), .int .i64 (T 2), .int .i64 (T 3), .int .i64 (T 4), .int .i64 (T 5), .int .i64 (T 6), .int .i64 (T 7), .int .i64 (T 8), .int .i64 (T 9)] 26)).heap.size = w8.heap.size + 1 by simp] at hL7
      have HT9 := Lib.hid (show Blk ((w8.alloc (.cells #[.slice (some ⟨w8.heap.size + 1, 0, none⟩) 1 1, .int .i64 (T 0), .int .i64 (T 1), .int .i64 (T 2), .int .i64 (T 3), .int .i64 (T 4), .int .i64 (T 5), .int .i64 (T 6), .int .i64 (T 7), .int .i64 (T 8), .int .i64 (T 9)] 26)).alloc (.cells #[.int .i64 lk, .int .i64 lg, .int .i64 la, .int .i64 lb, .int .i64 lc] 48)) w8.heap.size (cfc (.slice (some ⟨w8.heap.size + 1, 0, none⟩) 1 1) T) 26 from (blk_new w8 _ _).below (below_alloc (Below.refl _ _) _))
      have HL9 := Lib.hid (show Els RLn 5 ((w8.alloc (.cells #[.slice (some ⟨w8.heap.size + 1, 0, none⟩) 1 1, .int .i64 (T 0), .int .i64 (T 1), .int .i64 (T 2), .int .i64 (T 3), .int .i64 (T 4), .int .i64 (T 5), .int .i64 (T 6), .int .i64 (T 7), .int .i64 (T 8), .int .i64 (T 9)] 26)).alloc (.cells #[.int .i64 lk, .int .i64 lg, .int .i64 la, .int .i64 lb, .int .i64 lc] 48)) (.slice (some ⟨w8.heap.size + 1, 0, none⟩) 1 1) [⟨lk, lg, la, lb, lc⟩] from els_blk hL7)
      have hK9 : Below w8.heap.size w8 ((w8.alloc (.cells #[.slice (some ⟨w8.heap.size + 1, 0, none⟩) 1 1, .int .i64 (T 0), .int .i64 (T 1), .int .i64 (T 2), .int .i64 (T 3), .int .i64 (T 4), .int .i64 (T 5), .int .i64 (T 6), .int .i64 (T 7), .int .i64 (T 8), .int .i64 (T 9)] 26)).alloc (.cells #[.int .i64 lk, .int .i64 lg, .int .i64 la, .int .i64 lb, .int .i64 lc] 48)) := below_alloc (below_alloc (Below.refl _ w8) _) _
      have HX9 := Lib.hid (HX8.out.below hK9)
      have HZ9 := Lib.hid (HZ8.out.below hK9)
      have HE9 := Lib.hid (HE8.out.below (fun _ _ _ h => h.below hK9))
      have HB9 := Lib.hid (below_call HB8.out hK9)
      clear hY hL7 hK9 HX8 HY8 HZ8 HE8 HB8
      go_wp2_with fail
      clear c0 c1 c2 c3 c4 c5 c6 c7 c8 c9 c10 y0 y1 y2 y3 y4
      generalize ((w8.alloc (.cells #[.slice (some ⟨w8.heap.size + 1, 0, none⟩) 1 1, .int .i64 (T 0), .int .i64 (T 1), .int .i64 (T 2), .int .i64 (T 3), .int .i64 (T 4), .int .i64 (T 5), .int .i64 (T 6), .int .i64 (T 7), .int .i64 (T 8), .int .i64 (T 9)] 26)).alloc (.cells #[.int .i64 lk, .int .i64 lg, .int .i64 la, .int .i64 lb, .int .i64 lc] 48)) = w9 at *
      refine wp_region_held_drew (S := (fun w' => Blk w' w2.heap.size (cfc (.slice (some ⟨g6, 0, none⟩) (n + 1) cap6) T) 26 ∧ Blk w' w8.heap.size (cfc (.slice (some ⟨w8.heap.size + 1, 0, none⟩) 1 1) T) 26 ∧ Blk w' w.heap.size (cfc (.slice (some ⟨g, o, none⟩) n c) T) 26)) (by kernel_rfl) ⟨HZ9.out, HT9.out, HX9.out.blk⟩ (fun hHeld => ?_)
      refine wpAnyH_take (i := 0) (oi := ?_) (v := ?_) ?_ (by kernel_rfl) (by kernel_rfl) (by kernel_rfl) ?_ (Or.inl ⟨?_, ?_⟩) hHeld ?_
      rotate_left 2
      · (simp only [List.getElem?_toArray, List.getElem?_cons_zero]; rfl)
      · exact (fun _ _ _ h => h)
      · rfl
      · (intro w hSw; (try dsimp only at hSw); go_simp; try with_reducible rfl)
      (try simp only [Act.put, List.setIfInBounds_toArray, List.set_cons_zero, List.set_cons_succ])
      refine wpAnyH_take (i := 1) (oi := ?_) (v := ?_) ?_ (by kernel_rfl) (by kernel_rfl) (by kernel_rfl) ?_ (Or.inl ⟨?_, ?_⟩) hHeld ?_
      rotate_left 2
      · (simp only [List.getElem?_toArray, List.getElem?_cons_zero, List.getElem?_cons_succ]; rfl)
      · exact (fun _ _ _ h => h)
      · rfl
      · (intro w hSw; (try dsimp only at hSw); go_simp; try with_reducible rfl)
      (try simp only [Act.put, List.setIfInBounds_toArray, List.set_cons_zero, List.set_cons_succ])
      refine wpAnyH_take (i := 2) (oi := ?_) (v := ?_) ?_ (by kernel_rfl) (by kernel_rfl) (by kernel_rfl) ?_ (Or.inl ⟨?_, ?_⟩) hHeld ?_
      rotate_left 2
      · (simp only [List.getElem?_toArray, List.getElem?_cons_zero, List.getElem?_cons_succ]; rfl)
      · exact (fun _ _ _ h => h)
      · rfl
      · (intro w hSw; (try dsimp only at hSw); obtain ⟨c0, c1, c2, c3, c4, c5, c6, c7, c8, c9, c10⟩ := Blk.eleven hSw.1; go_simp; try with_reducible rfl)
      (try simp only [Act.put, List.setIfInBounds_toArray, List.set_cons_zero, List.set_cons_succ])
      refine wpAnyH_take (i := 5) (oi := ?_) (v := ?_) ?_ (by kernel_rfl) (by kernel_rfl) (by kernel_rfl) ?_ (Or.inl ⟨?_, ?_⟩) hHeld ?_
      rotate_left 2
      · (simp only [List.getElem?_toArray, List.getElem?_cons_zero, List.getElem?_cons_succ]; rfl)
      · exact (fun _ _ _ h => h)
      · rfl
      · (intro w hSw; (try dsimp only at hSw); obtain ⟨c0, c1, c2, c3, c4, c5, c6, c7, c8, c9, c10⟩ := Blk.eleven hSw.2.1; go_simp; try with_reducible rfl)
      (try simp only [Act.put, List.setIfInBounds_toArray, List.set_cons_zero, List.set_cons_succ])
      refine wpAnyH_ready (rs := [3]) (by kernel_rfl) (by simp) ?_
      refine AllReadyH.cons (o := ?_) ?_ (fun K hK => ?_) AllReadyH.nil
      rotate_left
      · (simp only [List.getElem?_toArray, List.getElem?_cons_zero, List.getElem?_cons_succ]; rfl)
      go_simp
      (with_reducible refine (HMORE.out _ _ _ (HE9.out.below (fun _ _ _ h => h.below (bel_drew _)))).mono ?_)
      rintro e w10 ⟨r10, rfl, hr, hb⟩
      obtain ⟨b10, rfl, _⟩ := hr.not (by decide)
      have HT10 := Lib.hid ((HT9.out.below (bel_drew _)).below hb)
      have HL10 := Lib.hid ((HL9.out.below (fun _ _ _ h => h.below (bel_drew _))).below (fun _ _ _ h => h.below hb))
      have HX10 := Lib.hid ((HX9.out.below (bel_drew _)).below hb)
      have HZ10 := Lib.hid ((HZ9.out.below (bel_drew _)).below hb)
      have HB10 := Lib.hid (below_call (below_call HB9.out (bel_drew _)) hb)
      clear hb hr HT9 HL9 HX9 HZ9 HB9
      go_wp2_with fail
      refine hK.out _ _ ⟨HZ10.out, HT10.out, HX10.out.blk⟩ (fun hHeld => ?_)
      clear hK K
      (try simp only [Act.put, List.setIfInBounds_toArray, List.set_cons_zero, List.set_cons_succ])
      refine wpAnyH_take (i := 4) (oi := ?_) (v := ?_) ?_ (by kernel_rfl) (by kernel_rfl) (by kernel_rfl) ?_ (Or.inl ⟨?_, ?_⟩) hHeld ?_
      rotate_left 2
      · (simp only [List.getElem?_toArray, List.getElem?_cons_zero, List.getElem?_cons_succ]; rfl)
      · exact (fun _ _ _ h => h)
      · rfl
      · (intro w hSw; (try dsimp only at hSw); go_simp; try with_reducible rfl)
      (try simp only [Act.put, List.setIfInBounds_toArray, List.set_cons_zero, List.set_cons_succ])
      refine wpAnyH_ready (rs := [6]) (by kernel_rfl) (by simp) ?_
      refine AllReadyH.cons (o := ?_) ?_ (fun K hK => ?_) AllReadyH.nil
      rotate_left
      · (simp only [List.getElem?_toArray, List.getElem?_cons_zero, List.getElem?_cons_succ]; rfl)
      go_simp
      (with_reducible refine (HONE.out _ _ HL10.out).mono ?_)
      rintro e w11 ⟨r11, rfl, hr, hb⟩
      obtain rfl := hr.nil
      have HT11 := Lib.hid (HT10.out.below hb)
      have HX11 := Lib.hid (HX10.out.below hb)
      have HZ11 := Lib.hid (HZ10.out.below hb)
      have HB11 := Lib.hid (below_call HB10.out hb)
      clear hb hr HT10 HL10 HX10 HZ10 HB10
      go_wp2_with fail
      refine hK.out _ _ ⟨HZ11.out, HT11.out, HX11.out.blk⟩ (fun hHeld => ?_)
      clear hK K
      (try simp only [Act.put, List.setIfInBounds_toArray, List.set_cons_zero, List.set_cons_succ])
      refine wpAnyH_take (i := 7) (oi := ?_) (v := ?_) ?_ (by kernel_rfl) (by kernel_rfl) (by kernel_rfl) ?_ (Or.inl ⟨?_, ?_⟩) hHeld ?_
      rotate_left 2
      · (simp only [List.getElem?_toArray, List.getElem?_cons_zero, List.getElem?_cons_succ]; rfl)
      · exact (fun _ _ _ h => h)
      · rfl
      · (intro w hSw; (try dsimp only at hSw); go_simp; try with_reducible rfl)
      (try simp only [Act.put, List.setIfInBounds_toArray, List.set_cons_zero, List.set_cons_succ])
      refine wpAnyH_take (i := 8) (oi := ?_) (v := ?_) ?_ (by kernel_rfl) (by kernel_rfl) (by kernel_rfl) ?_ (Or.inl ⟨?_, ?_⟩) hHeld ?_
      rotate_left 2
      · (simp only [List.getElem?_toArray, List.getElem?_cons_zero, List.getElem?_cons_succ]; rfl)
      · exact (fun _ _ _ h => h)
      · rfl
      · (intro w hSw; (try dsimp only at hSw); go_simp; try with_reducible rfl)
      (try simp only [Act.put, List.setIfInBounds_toArray, List.set_cons_zero, List.set_cons_succ])
      refine wpAnyH_take (i := 9) (oi := ?_) (v := ?_) ?_ (by kernel_rfl) (by kernel_rfl) (by kernel_rfl) ?_ (Or.inl ⟨?_, ?_⟩) hHeld ?_
      rotate_left 2
      · (simp only [List.getElem?_toArray, List.getElem?_cons_zero, List.getElem?_cons_succ]; rfl)
      · exact (fun _ _ _ h => h)
      · rfl
      · (intro w hSw; (try dsimp only at hSw); go_simp; try with_reducible rfl)
      (try simp only [Act.put, List.setIfInBounds_toArray, List.set_cons_zero, List.set_cons_succ])
      refine wpAnyH_take (i := 10) (oi := ?_) (v := ?_) ?_ (by kernel_rfl) (by kernel_rfl) (by kernel_rfl) ?_ (Or.inl ⟨?_, ?_⟩) hHeld ?_
      rotate_left 2
      · (simp only [List.getElem?_toArray, List.getElem?_cons_zero, List.getElem?_cons_succ]; rfl)
      · exact (fun _ _ _ h => h)
      · rfl
      · (intro w hSw; (try dsimp only at hSw); obtain ⟨c0, c1, c2, c3, c4, c5, c6, c7, c8, c9, c10⟩ := Blk.eleven hSw.2.2; go_simp; try with_reducible rfl)
      (try simp only [Act.put, List.setIfInBounds_toArray, List.set_cons_zero, List.set_cons_succ])
      refine wpAnyH_take (i := 11) (oi := ?_) (v := ?_) ?_ (by kernel_rfl) (by kernel_rfl) (by kernel_rfl) ?_ (Or.inl ⟨?_, ?_⟩) hHeld ?_
      rotate_left 2
      · (simp only [List.getElem?_toArray, List.getElem?_cons_zero, List.getElem?_cons_succ]; rfl)
      · exact (fun _ _ _ h => h)
      · rfl
      · (intro w hSw; (try dsimp only at hSw); go_simp; try with_reducible rfl)
      (try simp only [Act.put, List.setIfInBounds_toArray, List.set_cons_zero, List.set_cons_succ])
      refine wpAnyH_take (i := 12) (oi := ?_) (v := ?_) ?_ (by kernel_rfl) (by kernel_rfl) (by kernel_rfl) ?_ (Or.inl ⟨?_, ?_⟩) hHeld ?_
      rotate_left 2
      · (simp only [List.getElem?_toArray, List.getElem?_cons_zero, List.getElem?_cons_succ]; rfl)
      · exact (fun _ _ _ h => h)
      · rfl
      · (intro w hSw; (try dsimp only at hSw); go_simp; try with_reducible rfl)
      (try simp only [Act.put, List.setIfInBounds_toArray, List.set_cons_zero, List.set_cons_succ])
      refine wpAnyH_take (i := 13) (oi := ?_) (v := ?_) ?_ (by kernel_rfl) (by kernel_rfl) (by kernel_rfl) ?_ (Or.inl ⟨?_, ?_⟩) hHeld ?_
      rotate_left 2
      · (simp only [List.getElem?_toArray, List.getElem?_cons_zero, List.getElem?_cons_succ]; rfl)
      · exact (fun _ _ _ h => h)
      · rfl
      · (intro w hSw; (try dsimp only at hSw); go_simp; try with_reducible rfl)
      (try simp only [Act.put, List.setIfInBounds_toArray, List.set_cons_zero, List.set_cons_succ])
      refine wpAnyH_take (i := 14) (oi := ?_) (v := ?_) ?_ (by kernel_rfl) (by kernel_rfl) (by kernel_rfl) ?_ (Or.inl ⟨?_, ?_⟩) hHeld ?_
      rotate_left 2
      · (simp only [List.getElem?_toArray, List.getElem?_cons_zero, List.getElem?_cons_succ]; rfl)
      · exact (fun _ _ _ h => h)
      · rfl
      · (intro w hSw; (try dsimp only at hSw); go_simp; try with_reducible rfl)
      (try simp only [Act.put, List.setIfInBounds_toArray, List.set_cons_zero, List.set_cons_succ])
      refine wpAnyH_take (i := 15) (oi := ?_) (v := ?_) ?_ (by kernel_rfl) (by kernel_rfl) (by kernel_rfl) ?_ (Or.inl ⟨?_, ?_⟩) hHeld ?_
      rotate_left 2
      · (simp only [List.getElem?_toArray, List.getElem?_cons_zero, List.getElem?_cons_succ]; rfl)
      · exact (fun _ _ _ h => h)
      · rfl
      · (intro w hSw; (try dsimp only at hSw); go_simp; try with_reducible rfl)
      (try simp only [Act.put, List.setIfInBounds_toArray, List.set_cons_zero, List.set_cons_succ])
      refine wpAnyH_take (i := 16) (oi := ?_) (v := ?_) ?_ (by kernel_rfl) (by kernel_rfl) (by kernel_rfl) ?_ (Or.inl ⟨?_, ?_⟩) hHeld ?_
      rotate_left 2
      · (simp only [List.getElem?_toArray, List.getElem?_cons_zero, List.getElem?_cons_succ]; rfl)
      · exact (fun _ _ _ h => h)
      · rfl
      · (intro w hSw; (try dsimp only at hSw); go_simp; try with_reducible rfl)
      (try simp only [Act.put, List.setIfInBounds_toArray, List.set_cons_zero, List.set_cons_succ])
      refine wpAnyH_done (by kernel_rfl) ?_ _
      go_wp2_with fail
      go_ret
      exact ⟨rfl, HB11.out⟩
  · refine AllReadyH.cons (o := ?_) ?_ (fun K hK => ?_) AllReadyH.nil
    rotate_left
    · (simp only [List.getElem?_toArray, List.getElem?_cons_zero, List.getElem?_cons_succ]; rfl)
    go_simp
    have hLB := blk_new Wd #[.int .i64 lk, .int .i64 lg, .int .i64 la, .int .i64 lb, .int .i64 lc] 48
    have HLB := Lib.hid hLB
    clear hLB
    have HBZ := Lib.hid (below_alloc (Below.refl _ Wd) (.cells #[.int .i64 lk, .int .i64 lg, .int .i64 la, .int .i64 lb, .int .i64 lc] 48))
    refine hK.out _ _ (HOLD.out _ HBZ.out) (fun hHeld => ?_)
    clear hK K
    (try simp only [Act.put, List.setIfInBounds_toArray, List.set_cons_zero, List.set_cons_succ])
    refine wpAnyH_ready (rs := [0]) (by kernel_rfl) (by simp) ?_
    refine AllReadyH.cons (o := ?_) ?_ (fun K hK => ?_) AllReadyH.nil
    rotate_left
    · (simp only [List.getElem?_toArray, List.getElem?_cons_zero]; rfl)
    go_simp
    have hOL := ownL_lit (Wd.alloc (.cells #[.int .i64 lk, .int .i64 lg, .int .i64 la, .int .i64 lb, .int .i64 lc] 48)) Wd.heap.size HBZ.out.size
    rw [show (Wd.alloc (.cells #[.int .i64 lk, .int .i64 lg, .int .i64 la, .int .i64 lb, .int .i64 lc] 48)).heap.size = Wd.heap.size + 1 by simp] at hOL
    have HOL := Lib.hid hOL
    have HLB := Lib.hid (HLB.out.below (below_alloc (Below.refl _ _) (.cells #[] 48)))
    clear hOL
    have HBY := Lib.hid (HBZ.out.trans ((below_alloc (Below.refl _ (Wd.alloc (.cells #[.int .i64 lk, .int .i64 lg, .int .i64 la, .int .i64 lb, .int .i64 lc] 48))) (.cells #[] 48)).mono HBZ.out.size))
    refine hK.out _ _ (HOLD.out _ HBY.out) (fun hHeld => ?_)
    clear hK K
    (try simp only [Act.put, List.setIfInBounds_toArray, List.set_cons_zero, List.set_cons_succ])
    refine wpAnyH_ready (rs := [3]) (by kernel_rfl) (by simp) ?_
    refine AllReadyH.cons (o := ?_) ?_ (fun K hK => ?_) AllReadyH.nil
    rotate_left
    · (simp only [List.getElem?_toArray, List.getElem?_cons_zero, List.getElem?_cons_succ]; rfl)
    refine step_appL rfl _ _ rfl Wd.heap.size (.slice (some ⟨(Wd.heap.size + 1), 0, none⟩) 0 0) 0 [] rfl rfl HOL.out g o n c ls rfl HN.out.symm (HOLD.out _ HBY.out).1.els hn0 (by omega) HBY.out.size n (Nat.zero_add n) ?_
    intro g3 cap3 w3 hown hg
    have HO3 := Lib.hid hown
    have HB3 := Lib.hid (low_of HBY.out hg (fun g e => (HOL.out.lt e).1) HBY.out.size)
    have HLC := Lib.hid (HLB.out.keep (G := fun x => x = (Wd.heap.size + 1)) (Keep.grown hg (fun g e => (Option.some.inj e).symm)) (by omega))
    clear hown hg
    refine hK.out _ _ (HOLD.out _ HB3.out) (fun hHeld => ?_)
    clear hK K
    (try simp only [Act.put, List.setIfInBounds_toArray, List.set_cons_zero, List.set_cons_succ])
    refine wpAnyH_ready (rs := [6]) (by kernel_rfl) (by simp) ?_
    refine AllReadyH.cons (o := ?_) ?_ (fun K hK => ?_) AllReadyH.nil
    rotate_left
    · (simp only [List.getElem?_toArray, List.getElem?_cons_zero, List.getElem?_cons_succ]; rfl)
    refine step_appL rfl _ _ rfl Wd.heap.size (.slice (some ⟨g3, 0, none⟩) n cap3) n ([] ++ ls) rfl HN.out HO3.out Wd.heap.size 0 1 1 [⟨lk, lg, la, lb, lc⟩] rfl rfl (els_blk HLC.out) (by decide) (by omega) HB3.out.size (n + 1) rfl ?_
    intro g6 cap6 w6 hown hg
    have HO6 := Lib.hid hown
    have HB6 := Lib.hid (low_of HB3.out hg (fun g e => (HO3.out.lt e).1) HB3.out.size)
    clear hown hg
    refine hK.out _ _ (HOLD.out _ HB6.out) (fun hHeld => ?_)
    clear hK K
    (try simp only [Act.put, List.setIfInBounds_toArray, List.set_cons_zero, List.set_cons_succ])
    have hZ6 := HZd.out.low HB6.out (by omega)
    have z0 := hZ6.cell 0 (u := .slice (some ⟨g, o, none⟩) n c) rfl
    have zf := hZ6.frz 0
    have HZ6 := Lib.hid hZ6
    clear hZ6
    refine wpAnyH_take (i := 7) (oi := ?_) (v := ?_) ?_ (by kernel_rfl) (by kernel_rfl) (by kernel_rfl) ?_ (Or.inl ⟨?_, ?_⟩) hHeld ?_
    rotate_left 2
    · (simp only [List.getElem?_toArray, List.getElem?_cons_zero, List.getElem?_cons_succ]; rfl)
    · exact (fun _ _ _ h => h)
    · rfl
    · (intro w hSw; (try dsimp only at hSw); go_simp; try with_reducible rfl)
    (try simp only [Act.put, List.setIfInBounds_toArray, List.set_cons_zero, List.set_cons_succ])
    refine wpAnyH_ready (rs := [8]) (by kernel_rfl) (by simp) ?_
    refine AllReadyH.cons (o := ?_) ?_ (fun K hK => ?_) AllReadyH.nil
    rotate_left
    · (simp only [List.getElem?_toArray, List.getElem?_cons_zero, List.getElem?_cons_succ]; rfl)
    go_simp
    have hS6 := HOLD.out _ HB6.out
    have hA : Apart w2.heap.size w6 (w6.setCell ⟨w2.heap.size, 0, none⟩ (.slice (some ⟨g6, 0, none⟩) (n + 1) cap6)) := Apart.set_ _ _ _ _
    have HX8 := Lib.hid (show Cx (w6.setCell ⟨w2.heap.size, 0, none⟩ (.slice (some ⟨g6, 0, none⟩) (n + 1) cap6)) w.heap.size (.slice (some ⟨g, o, none⟩) n c) T ls from ⟨hS6.1.blk.apart hA (by omega), els_apart hS6.1.els hA (by omega)⟩)
    have HY8 := Lib.hid (hS6.2.apart hA (by omega))
    have HZ8 := Lib.hid (show Blk (w6.setCell ⟨w2.heap.size, 0, none⟩ (.slice (some ⟨g6, 0, none⟩) (n + 1) cap6)) w2.heap.size (cfc (.slice (some ⟨g6, 0, none⟩) (n + 1) cap6) T) 26 from HZ6.out.set_ 0 (.slice (some ⟨g6, 0, none⟩) (n + 1) cap6))
    have HE8 := Lib.hid ((HO6.out.keep (F := fun x => x = w2.heap.size) (Keep.set_ w6 w2.heap.size 0 (.slice (some ⟨g6, 0, none⟩) (n + 1) cap6) rfl) (fun g e => by rw [e]; omega)).els)
    have HB8 := Lib.hid (bel_set (HBd.out.trans (HB6.out.mono (by omega))) (by omega : w.heap.size ≤ w2.heap.size) 0 (.slice (some ⟨g6, 0, none⟩) (n + 1) cap6))
    clear hS6 hA z0 zf HZ6 HO6
    refine hK.out _ _ ⟨HX8.out, HY8.out⟩ (fun hHeld => ?_)
    clear hK K
    (try simp only [Act.put, List.setIfInBounds_toArray, List.set_cons_zero, List.set_cons_succ])
    refine wpAnyH_done (by kernel_rfl) ?_ _
    have hsz8 := HZ8.out.lt
    generalize w6.setCell ⟨w2.heap.size, 0, none⟩ (.slice (some ⟨g6, 0, none⟩) (n + 1) cap6) = w8 at *
    obtain ⟨c0, c1, c2, c3, c4, c5, c6, c7, c8, c9, c10⟩ := cells11 HX8.out
    have hY := HY8.out.below (below_alloc (Below.refl _ w8) (.cells #[.slice (some ⟨g, o, none⟩) n c, .int .i64 (T 0), .int .i64 (T 1), .int .i64 (T 2), .int .i64 (T 3), .int .i64 (T 4), .int .i64 (T 5), .int .i64 (T 6), .int .i64 (T 7), .int .i64 (T 8), .int .i64 (T 9)] 26))
    have y0 := hY.cell 0 (u := .int .i64 lk) rfl
    have y1 := hY.cell 1 (u := .int .i64 lg) rfl
    have y2 := hY.cell 2 (u := .int .i64 la) rfl
    have y3 := hY.cell 3 (u := .int .i64 lb) rfl
    have y4 := hY.cell 4 (u := .int .i64 lc) rfl
    have hL7 := blk_new (w8.alloc (.cells #[.slice (some ⟨w8.heap.size + 1, 0, none⟩) 1 1, .int .i64 (T 0), .int .i64 (T 1), .int .i64 (T 2), .int .i64 (T 3), .int .i64 (T 4), .int .i64 (T 5), .int .i64 (T 6), .int .i64 (T 7), .int .i64 (T 8), .int .i64 (T 9)] 26)) #[.int .i64 lk, .int .i64 lg, .int .i64 la, .int .i64 lb, .int .i64 lc] 48
    rw [show (w8.alloc (.cells #[.slice (some ⟨w8.heap.size + 1, 0, none⟩) 1 1, .int .i64 (T 0), .int .i64 (T 1), .int .i64 (T 2), .int .i64 (T 3), .int .i64 (T 4), .int .i64 (T 5), .int .i64 (T 6), .int .i64 (T 7), .int .i64 (T 8), .int .i64 (T 9)] 26)).heap.size = w8.heap.size + 1 by simp] at hL7
    have HT9 := Lib.hid (show Blk ((w8.alloc (.cells #[.slice (some ⟨w8.heap.size + 1, 0, none⟩) 1 1, .int .i64 (T 0), .int .i64 (T 1), .int .i64 (T 2), .int .i64 (T 3), .int .i64 (T 4), .int .i64 (T 5), .int .i64 (T 6), .int .i64 (T 7), .int .i64 (T 8), .int .i64 (T 9)] 26)).alloc (.cells #[.int .i64 lk, .int .i64 lg, .int .i64 la, .int .i64 lb, .int .i64 lc] 48)) w8.heap.size (cfc (.slice (some ⟨w8.heap.size + 1, 0, none⟩) 1 1) T) 26 from (blk_new w8 _ _).below (below_alloc (Below.refl _ _) _))
    have HL9 := Lib.hid (show Els RLn 5 ((w8.alloc (.cells #[.slice (some ⟨w8.heap.size + 1, 0, none⟩) 1 1, .int .i64 (T 0), .int .i64 (T 1), .int .i64 (T 2), .int .i64 (T 3), .int .i64 (T 4), .int .i64 (T 5), .int .i64 (T 6), .int .i64 (T 7), .int .i64 (T 8), .int .i64 (T 9)] 26)).alloc (.cells #[.int .i64 lk, .int .i64 lg, .int .i64 la, .int .i64 lb, .int .i64 lc] 48)) (.slice (some ⟨w8.heap.size + 1, 0, none⟩) 1 1) [⟨lk, lg, la, lb, lc⟩] from els_blk hL7)
    have hK9 : Below w8.heap.size w8 ((w8.alloc (.cells #[.slice (some ⟨w8.heap.size + 1, 0, none⟩) 1 1, .int .i64 (T 0), .int .i64 (T 1), .int .i64 (T 2), .int .i64 (T 3), .int .i64 (T 4), .int .i64 (T 5), .int .i64 (T 6), .int .i64 (T 7), .int .i64 (T 8), .int .i64 (T 9)] 26)).alloc (.cells #[.int .i64 lk, .int .i64 lg, .int .i64 la, .int .i64 lb, .int .i64 lc] 48)) := below_alloc (below_alloc (Below.refl _ w8) _) _
    have HX9 := Lib.hid (HX8.out.below hK9)
    have HZ9 := Lib.hid (HZ8.out.below hK9)
    have HE9 := Lib.hid (HE8.out.below (fun _ _ _ h => h.below hK9))
    have HB9 := Lib.hid (below_call HB8.out hK9)
    clear hY hL7 hK9 HX8 HY8 HZ8 HE8 HB8
    go_wp2_with fail
    clear c0 c1 c2 c3 c4 c5 c6 c7 c8 c9 c10 y0 y1 y2 y3 y4
    generalize ((w8.alloc (.cells #[.slice (some ⟨w8.heap.size + 1, 0, none⟩) 1 1, .int .i64 (T 0), .int .i64 (T 1), .int .i64 (T 2), .int .i64 (T 3), .int .i64 (T 4), .int .i64 (T 5), .int .i64 (T 6), .int .i64 (T 7), .int .i64 (T 8), .int .i64 (T 9)] 26)).alloc (.cells #[.int .i64 lk, .int .i64 lg, .int .i64 la, .int .i64 lb, .int .i64 lc] 48)) = w9 at *
    refine wp_region_held_drew (S := (fun w' => Blk w' w2.heap.size (cfc (.slice (some ⟨g6, 0, none⟩) (n + 1) cap6) T) 26 ∧ Blk w' w8.heap.size (cfc (.slice (some ⟨w8.heap.size + 1, 0, none⟩) 1 1) T) 26 ∧ Blk w' w.heap.size (cfc (.slice (some ⟨g, o, none⟩) n c) T) 26)) (by kernel_rfl) ⟨HZ9.out, HT9.out, HX9.out.blk⟩ (fun hHeld => ?_)
    refine wpAnyH_take (i := 0) (oi := ?_) (v := ?_) ?_ (by kernel_rfl) (by kernel_rfl) (by kernel_rfl) ?_ (Or.inl ⟨?_, ?_⟩) hHeld ?_
    rotate_left 2
    · (simp only [List.getElem?_toArray, List.getElem?_cons_zero]; rfl)
    · exact (fun _ _ _ h => h)
    · rfl
    · (intro w hSw; (try dsimp only at hSw); go_simp; try with_reducible rfl)
    (try simp only [Act.put, List.setIfInBounds_toArray, List.set_cons_zero, List.set_cons_succ])
    refine wpAnyH_take (i := 1) (oi := ?_) (v := ?_) ?_ (by kernel_rfl) (by kernel_rfl) (by kernel_rfl) ?_ (Or.inl ⟨?_, ?_⟩) hHeld ?_
    rotate_left 2
    · (simp only [List.getElem?_toArray, List.getElem?_cons_zero, List.getElem?_cons_succ]; rfl)
    · exact (fun _ _ _ h => h)
    · rfl
    · (intro w hSw; (try dsimp only at hSw); go_simp; try with_reducible rfl)
    (try simp only [Act.put, List.setIfInBounds_toArray, List.set_cons_zero, List.set_cons_succ])
    refine wpAnyH_take (i := 2) (oi := ?_) (v := ?_) ?_ (by kernel_rfl) (by kernel_rfl) (by kernel_rfl) ?_ (Or.inl ⟨?_, ?_⟩) hHeld ?_
    rotate_left 2
    · (simp only [List.getElem?_toArray, List.getElem?_cons_zero, List.getElem?_cons_succ]; rfl)
    · exact (fun _ _ _ h => h)
    · rfl
    · (intro w hSw; (try dsimp only at hSw); obtain ⟨c0, c1, c2, c3, c4, c5, c6, c7, c8, c9, c10⟩ := Blk.eleven hSw.1; go_simp; try with_reducible rfl)
    (try simp only [Act.put, List.setIfInBounds_toArray, List.set_cons_zero, List.set_cons_succ])
    refine wpAnyH_take (i := 5) (oi := ?_) (v := ?_) ?_ (by kernel_rfl) (by kernel_rfl) (by kernel_rfl) ?_ (Or.inl ⟨?_, ?_⟩) hHeld ?_
    rotate_left 2
    · (simp only [List.getElem?_toArray, List.getElem?_cons_zero, List.getElem?_cons_succ]; rfl)
    · exact (fun _ _ _ h => h)
    · rfl
    · (intro w hSw; (try dsimp only at hSw); obtain ⟨c0, c1, c2, c3, c4, c5, c6, c7, c8, c9, c10⟩ := Blk.eleven hSw.2.1; go_simp; try with_reducible rfl)
    (try simp only [Act.put, List.setIfInBounds_toArray, List.set_cons_zero, List.set_cons_succ])
    refine wpAnyH_ready (rs := [3]) (by kernel_rfl) (by simp) ?_
    refine AllReadyH.cons (o := ?_) ?_ (fun K hK => ?_) AllReadyH.nil
    rotate_left
    · (simp only [List.getElem?_toArray, List.getElem?_cons_zero, List.getElem?_cons_succ]; rfl)
    go_simp
    (with_reducible refine (HMORE.out _ _ _ (HE9.out.below (fun _ _ _ h => h.below (bel_drew _)))).mono ?_)
    rintro e w10 ⟨r10, rfl, hr, hb⟩
    obtain ⟨b10, rfl, _⟩ := hr.not (by decide)
    have HT10 := Lib.hid ((HT9.out.below (bel_drew _)).below hb)
    have HL10 := Lib.hid ((HL9.out.below (fun _ _ _ h => h.below (bel_drew _))).below (fun _ _ _ h => h.below hb))
    have HX10 := Lib.hid ((HX9.out.below (bel_drew _)).below hb)
    have HZ10 := Lib.hid ((HZ9.out.below (bel_drew _)).below hb)
    have HB10 := Lib.hid (below_call (below_call HB9.out (bel_drew _)) hb)
    clear hb hr HT9 HL9 HX9 HZ9 HB9
    go_wp2_with fail
    refine hK.out _ _ ⟨HZ10.out, HT10.out, HX10.out.blk⟩ (fun hHeld => ?_)
    clear hK K
    (try simp only [Act.put, List.setIfInBounds_toArray, List.set_cons_zero, List.set_cons_succ])
    refine wpAnyH_take (i := 4) (oi := ?_) (v := ?_) ?_ (by kernel_rfl) (by kernel_rfl) (by kernel_rfl) ?_ (Or.inl ⟨?_, ?_⟩) hHeld ?_
    rotate_left 2
    · (simp only [List.getElem?_toArray, List.getElem?_cons_zero, List.getElem?_cons_succ]; rfl)
    · exact (fun _ _ _ h => h)
    · rfl
    · (intro w hSw; (try dsimp only at hSw); go_simp; try with_reducible rfl)
    (try simp only [Act.put, List.setIfInBounds_toArray, List.set_cons_zero, List.set_cons_succ])
    refine wpAnyH_ready (rs := [6]) (by kernel_rfl) (by simp) ?_
    refine AllReadyH.cons (o := ?_) ?_ (fun K hK => ?_) AllReadyH.nil
    rotate_left
    · (simp only [List.getElem?_toArray, List.getElem?_cons_zero, List.getElem?_cons_succ]; rfl)
    go_simp
    (with_reducible refine (HONE.out _ _ HL10.out).mono ?_)
    rintro e w11 ⟨r11, rfl, hr, hb⟩
    obtain rfl := hr.nil
    have HT11 := Lib.hid (HT10.out.below hb)
    have HX11 := Lib.hid (HX10.out.below hb)
    have HZ11 := Lib.hid (HZ10.out.below hb)
    have HB11 := Lib.hid (below_call HB10.out hb)
    clear hb hr HT10 HL10 HX10 HZ10 HB10
    go_wp2_with fail
    refine hK.out _ _ ⟨HZ11.out, HT11.out, HX11.out.blk⟩ (fun hHeld => ?_)
    clear hK K
    (try simp only [Act.put, List.setIfInBounds_toArray, List.set_cons_zero, List.set_cons_succ])
    refine wpAnyH_take (i := 7) (oi := ?_) (v := ?_) ?_ (by kernel_rfl) (by kernel_rfl) (by kernel_rfl) ?_ (Or.inl ⟨?_, ?_⟩) hHeld ?_
    rotate_left 2
    · (simp only [List.getElem?_toArray, List.getElem?_cons_zero, List.getElem?_cons_succ]; rfl)
    · exact (fun _ _ _ h => h)
    · rfl
    · (intro w hSw; (try dsimp only at hSw); go_simp; try with_reducible rfl)
    (try simp only [Act.put, List.setIfInBounds_toArray, List.set_cons_zero, List.set_cons_succ])
    refine wpAnyH_take (i := 8) (oi := ?_) (v := ?_) ?_ (by kernel_rfl) (by kernel_rfl) (by kernel_rfl) ?_ (Or.inl ⟨?_, ?_⟩) hHeld ?_
    rotate_left 2
    · (simp only [List.getElem?_toArray, List.getElem?_cons_zero, List.getElem?_cons_succ]; rfl)
    · exact (fun _ _ _ h => h)
    · rfl
    · (intro w hSw; (try dsimp only at hSw); go_simp; try with_reducible rfl)
    (try simp only [Act.put, List.setIfInBounds_toArray, List.set_cons_zero, List.set_cons_succ])
    refine wpAnyH_take (i := 9) (oi := ?_) (v := ?_) ?_ (by kernel_rfl) (by kernel_rfl) (by kernel_rfl) ?_ (Or.inl ⟨?_, ?_⟩) hHeld ?_
    rotate_left 2
    · (simp only [List.getElem?_toArray, List.getElem?_cons_zero, List.getElem?_cons_succ]; rfl)
    · exact (fun _ _ _ h => h)
    · rfl
    · (intro w hSw; (try dsimp only at hSw); go_simp; try with_reducible rfl)
    (try simp only [Act.put, List.setIfInBounds_toArray, List.set_cons_zero, List.set_cons_succ])
    refine wpAnyH_take (i := 10) (oi := ?_) (v := ?_) ?_ (by kernel_rfl) (by kernel_rfl) (by kernel_rfl) ?_ (Or.inl ⟨?_, ?_⟩) hHeld ?_
    rotate_left 2
    · (simp only [List.getElem?_toArray, List.getElem?_cons_zero, List.getElem?_cons_succ]; rfl)
    · exact (fun _ _ _ h => h)
    · rfl
    · (intro w hSw; (try dsimp only at hSw); obtain ⟨c0, c1, c2, c3, c4, c5, c6, c7, c8, c9, c10⟩ := Blk.eleven hSw.2.2; go_simp; try with_reducible rfl)
    (try simp only [Act.put, List.setIfInBounds_toArray, List.set_cons_zero, List.set_cons_succ])
    refine wpAnyH_take (i := 11) (oi := ?_) (v := ?_) ?_ (by kernel_rfl) (by kernel_rfl) (by kernel_rfl) ?_ (Or.inl ⟨?_, ?_⟩) hHeld ?_
    rotate_left 2
    · (simp only [List.getElem?_toArray, List.getElem?_cons_zero, List.getElem?_cons_succ]; rfl)
    · exact (fun _ _ _ h => h)
    · rfl
    · (intro w hSw; (try dsimp only at hSw); go_simp; try with_reducible rfl)
    (try simp only [Act.put, List.setIfInBounds_toArray, List.set_cons_zero, List.set_cons_succ])
    refine wpAnyH_take (i := 12) (oi := ?_) (v := ?_) ?_ (by kernel_rfl) (by kernel_rfl) (by kernel_rfl) ?_ (Or.inl ⟨?_, ?_⟩) hHeld ?_
    rotate_left 2
    · (simp only [List.getElem?_toArray, List.getElem?_cons_zero, List.getElem?_cons_succ]; rfl)
    · exact (fun _ _ _ h => h)
    · rfl
    · (intro w hSw; (try dsimp only at hSw); go_simp; try with_reducible rfl)
    (try simp only [Act.put, List.setIfInBounds_toArray, List.set_cons_zero, List.set_cons_succ])
    refine wpAnyH_take (i := 13) (oi := ?_) (v := ?_) ?_ (by kernel_rfl) (by kernel_rfl) (by kernel_rfl) ?_ (Or.inl ⟨?_, ?_⟩) hHeld ?_
    rotate_left 2
    · (simp only [List.getElem?_toArray, List.getElem?_cons_zero, List.getElem?_cons_succ]; rfl)
    · exact (fun _ _ _ h => h)
    · rfl
    · (intro w hSw; (try dsimp only at hSw); go_simp; try with_reducible rfl)
    (try simp only [Act.put, List.setIfInBounds_toArray, List.set_cons_zero, List.set_cons_succ])
    refine wpAnyH_take (i := 14) (oi := ?_) (v := ?_) ?_ (by kernel_rfl) (by kernel_rfl) (by kernel_rfl) ?_ (Or.inl ⟨?_, ?_⟩) hHeld ?_
    rotate_left 2
    · (simp only [List.getElem?_toArray, List.getElem?_cons_zero, List.getElem?_cons_succ]; rfl)
    · exact (fun _ _ _ h => h)
    · rfl
    · (intro w hSw; (try dsimp only at hSw); go_simp; try with_reducible rfl)
    (try simp only [Act.put, List.setIfInBounds_toArray, List.set_cons_zero, List.set_cons_succ])
    refine wpAnyH_take (i := 15) (oi := ?_) (v := ?_) ?_ (by kernel_rfl) (by kernel_rfl) (by kernel_rfl) ?_ (Or.inl ⟨?_, ?_⟩) hHeld ?_
    rotate_left 2
    · (simp only [List.getElem?_toArray, List.getElem?_cons_zero, List.getElem?_cons_succ]; rfl)
    · exact (fun _ _ _ h => h)
    · rfl
    · (intro w hSw; (try dsimp only at hSw); go_simp; try with_reducible rfl)
    (try simp only [Act.put, List.setIfInBounds_toArray, List.set_cons_zero, List.set_cons_succ])
    refine wpAnyH_take (i := 16) (oi := ?_) (v := ?_) ?_ (by kernel_rfl) (by kernel_rfl) (by kernel_rfl) ?_ (Or.inl ⟨?_, ?_⟩) hHeld ?_
    rotate_left 2
    · (simp only [List.getElem?_toArray, List.getElem?_cons_zero, List.getElem?_cons_succ]; rfl)
    · exact (fun _ _ _ h => h)
    · rfl
    · (intro w hSw; (try dsimp only at hSw); go_simp; try with_reducible rfl)
    (try simp only [Act.put, List.setIfInBounds_toArray, List.set_cons_zero, List.set_cons_succ])
    refine wpAnyH_done (by kernel_rfl) ?_ _
    go_wp2_with fail
    go_ret
    exact ⟨rfl, HB11.out⟩

set_option maxHeartbeats 16000000 in
set_option maxRecDepth 10000 in
theorem lines_bad (g o n c : Nat) (T : Nat → Int) (ls : List Ln) (lk lg la lb lc : Int) (hn : n = ls.length) (hok : OkC T ls) (hl : ¬ OkL ⟨lk, lg, la, lb, lc⟩) (w : World) (hv : Els RLn 5 w (.slice (some ⟨g, o, none⟩) n c) ls) :
    Calls Tryd.prog 6 #[.agg (cfc (.slice (some ⟨g, o, none⟩) n c) T), .agg #[.int .i64 lk, .int .i64 lg, .int .i64 la, .int .i64 lb, .int .i64 lc]] w fun e w' => e = .returned (.bool true) ∧ Below w.heap.size w w' := by
  have hn0 : 0 < n := by have := hok.1; omega
  have hn8 : n ≤ 8 := by have := hok.1; omega
  have hgw : g < w.heap.size := by
    obtain ⟨y, hy⟩ : ∃ y, ls[0]? = some y := ⟨_, List.getElem?_eq_getElem (by omega)⟩
    obtain ⟨g', o', e, hr⟩ := hv.at_ hy
    simp only [Option.some.injEq, Addr.mk.injEq] at e
    obtain ⟨rfl, rfl, _⟩ := e
    exact lt_of_cell hr.1
  have HN := Lib.hid hn
  have HE := Lib.hid (fun w h => check_any (.slice (some ⟨g, o, none⟩) n c) T ls 0 (if_pos hok).symm w h)
  have HMORE := Lib.hid (fun g cap w h => check_any (.slice (some ⟨g, 0, none⟩) (n + 1) cap) T (([] ++ ls) ++ [⟨lk, lg, la, lb, lc⟩]) 6 (if_neg (fun h => hl ((okC_more hok).1 h).2)).symm w h)
  have HONE := Lib.hid (fun g w h => check_any (.slice (some ⟨g, 0, none⟩) 1 1) T [⟨lk, lg, la, lb, lc⟩] 6 (if_neg (fun h => hl ((okC_one hok).1 h))).symm w h)
  have HB := Lib.hid (below_alloc (below_alloc (Below.refl _ w) (.cells (cfc (.slice (some ⟨g, o, none⟩) n c) T) 26)) (.cells #[.int .i64 lk, .int .i64 lg, .int .i64 la, .int .i64 lb, .int .i64 lc] 48))
  have HX := Lib.hid ((cx_new w (.slice (some ⟨g, o, none⟩) n c) T ls hv).below (below_alloc (Below.refl _ _) (.cells #[.int .i64 lk, .int .i64 lg, .int .i64 la, .int .i64 lb, .int .i64 lc] 48)))
  have hY := blk_new (w.alloc (.cells (cfc (.slice (some ⟨g, o, none⟩) n c) T) 26)) #[.int .i64 lk, .int .i64 lg, .int .i64 la, .int .i64 lb, .int .i64 lc] 48
  rw [show (w.alloc (.cells (cfc (.slice (some ⟨g, o, none⟩) n c) T) 26)).heap.size = w.heap.size + 1 by simp] at hY
  have HY := Lib.hid hY
  have q0 : decide ((20 : Int) < (n : Int)) = false := decide_eq_false (by omega)
  clear hv hY hn hok hl
  unfold cfc at *
  go_enter Tryd.func6, Tryd.ntmps6
  go_wp2_with fail
  (with_reducible refine (small_true _).mono ?_)
  rintro e w1 ⟨rfl, hb⟩
  obtain ⟨c0, c1, c2, c3, c4, c5, c6, c7, c8, c9, c10⟩ := cells11 (HX.out.below hb)
  have HX1 := Lib.hid (HX.out.below hb)
  have HY1 := Lib.hid (HY.out.below hb)
  have HB1 := Lib.hid (below_call HB.out hb)
  clear hb HB HX HY
  go_wp2_with fail
  (with_reducible refine (HE.out _ HX1.out.els).mono ?_)
  rintro e w2 ⟨r2, rfl, hr, hb⟩
  obtain rfl := hr.nil
  have HK := Lib.hid (below_call (below_alloc (Below.refl _ w2) (.cells (cfc (.slice (some ⟨g, o, none⟩) n c) T) 26)) (bel_drew _))
  have hb2 := below_call hb HK.out
  have HXd := Lib.hid (HX1.out.below hb2)
  have HYd := Lib.hid (HY1.out.below hb2)
  have HBd := Lib.hid (below_call HB1.out hb2)
  have HZd := Lib.hid ((blk_new w2 (cfc (.slice (some ⟨g, o, none⟩) n c) T) 26).below (bel_drew _))
  have hlt1 := HX1.out.blk.lt
  have hltY := HY1.out.lt
  have hlt2 := hb.size
  have hlt3 : w2.heap.size < (w2.alloc (.cells (cfc (.slice (some ⟨g, o, none⟩) n c) T) 26)).drew.heap.size := HZd.out.lt
  clear c0 c1 c2 c3 c4 c5 c6 c7 c8 c9 c10
  obtain ⟨c0, c1, c2, c3, c4, c5, c6, c7, c8, c9, c10⟩ := cells11 (HX1.out.below hb)
  clear hb hb2 hr HX1 HY1 HB1 HE HK
  unfold cfc at *
  go_wp2_with fail
  clear c0 c1 c2 c3 c4 c5 c6 c7 c8 c9 c10
  refine wp_region_held_drew (S := (fun w' => Cx w' w.heap.size (.slice (some ⟨g, o, none⟩) n c) T ls ∧ Blk w' (w.heap.size + 1) #[.int .i64 lk, .int .i64 lg, .int .i64 la, .int .i64 lb, .int .i64 lc] 48)) (by kernel_rfl) ⟨HXd.out, HYd.out⟩ (fun hHeld => ?_)
  generalize (w2.alloc (.cells #[.slice (some ⟨g, o, none⟩) n c, .int .i64 (T 0), .int .i64 (T 1), .int .i64 (T 2), .int .i64 (T 3), .int .i64 (T 4), .int .i64 (T 5), .int .i64 (T 6), .int .i64 (T 7), .int .i64 (T 8), .int .i64 (T 9)] 26)).drew = Wd at *
  have HOLD := Lib.hid (show ∀ w', Below Wd.heap.size Wd w' → (fun w' => Cx w' w.heap.size (.slice (some ⟨g, o, none⟩) n c) T ls ∧ Blk w' (w.heap.size + 1) #[.int .i64 lk, .int .i64 lg, .int .i64 la, .int .i64 lb, .int .i64 lc] 48) w' from fun _ hb => ⟨HXd.out.below hb, HYd.out.below hb⟩)
  refine wpAnyH_take (i := 1) (oi := ?_) (v := ?_) ?_ (by kernel_rfl) (by kernel_rfl) (by kernel_rfl) ?_ (Or.inl ⟨?_, ?_⟩) hHeld ?_
  rotate_left 2
  · (simp only [List.getElem?_toArray, List.getElem?_cons_zero, List.getElem?_cons_succ]; rfl)
  · exact (fun _ _ _ h => h)
  · rfl
  · (intro w hSw; (try dsimp only at hSw); go_simp; try with_reducible rfl)
  (try simp only [Act.put, List.setIfInBounds_toArray, List.set_cons_zero, List.set_cons_succ])
  refine wpAnyH_take (i := 2) (oi := ?_) (v := ?_) ?_ (by kernel_rfl) (by kernel_rfl) (by kernel_rfl) ?_ (Or.inl ⟨?_, ?_⟩) hHeld ?_
  rotate_left 2
  · (simp only [List.getElem?_toArray, List.getElem?_cons_zero, List.getElem?_cons_succ]; rfl)
  · exact (fun _ _ _ h => h)
  · rfl
  · (intro w hSw; (try dsimp only at hSw); obtain ⟨c0, c1, c2, c3, c4, c5, c6, c7, c8, c9, c10⟩ := cells11 hSw.1; go_simp; try with_reducible rfl)
  (try simp only [Act.put, List.setIfInBounds_toArray, List.set_cons_zero, List.set_cons_succ])
  refine wpAnyH_take (i := 4) (oi := ?_) (v := ?_) ?_ (by kernel_rfl) (by kernel_rfl) (by kernel_rfl) ?_ (Or.inl ⟨?_, ?_⟩) hHeld ?_
  rotate_left 2
  · (simp only [List.getElem?_toArray, List.getElem?_cons_zero, List.getElem?_cons_succ]; rfl)
  · exact (fun _ _ _ h => h)
  · rfl
  · (intro w hSw; (try dsimp only at hSw); have y0 := hSw.2.cell 0 (u := .int .i64 lk) rfl; have y1 := hSw.2.cell 1 (u := .int .i64 lg) rfl; have y2 := hSw.2.cell 2 (u := .int .i64 la) rfl; have y3 := hSw.2.cell 3 (u := .int .i64 lb) rfl; have y4 := hSw.2.cell 4 (u := .int .i64 lc) rfl; go_simp; try with_reducible rfl)
  (try simp only [Act.put, List.setIfInBounds_toArray, List.set_cons_zero, List.set_cons_succ])
  refine wpAnyH_ready (rs := [0, 5]) (by kernel_rfl) (by simp) ?_
  refine AllReadyH.cons (o := ?_) ?_ (fun K hK => ?_) ?_
  rotate_left
  · (simp only [List.getElem?_toArray, List.getElem?_cons_zero]; rfl)
  · -- 0 first
    go_simp
    have HOL := Lib.hid (ownL_lit Wd Wd.heap.size (Nat.le_refl _))
    have HBZ := Lib.hid (below_alloc (Below.refl _ Wd) (.cells #[] 48))
    refine hK.out _ _ (HOLD.out _ HBZ.out) (fun hHeld => ?_)
    clear hK K
    (try simp only [Act.put, List.setIfInBounds_toArray, List.set_cons_zero, List.set_cons_succ])
    refine wpAnyH_ready (rs := [3, 5]) (by kernel_rfl) (by simp) ?_
    refine AllReadyH.cons (o := ?_) ?_ (fun K hK => ?_) ?_
    rotate_left
    · (simp only [List.getElem?_toArray, List.getElem?_cons_zero, List.getElem?_cons_succ]; rfl)
    · -- 3 first
      refine step_appL rfl _ _ rfl Wd.heap.size (.slice (some ⟨Wd.heap.size, 0, none⟩) 0 0) 0 [] rfl rfl HOL.out g o n c ls rfl HN.out.symm (HOLD.out _ HBZ.out).1.els hn0 (by omega) HBZ.out.size n (Nat.zero_add n) ?_
      intro g3 cap3 w3 hown hg
      have HO3 := Lib.hid hown
      have HB3 := Lib.hid (low_of HBZ.out hg (fun g e => (HOL.out.lt e).1) HBZ.out.size)
      clear hown hg
      refine hK.out _ _ (HOLD.out _ HB3.out) (fun hHeld => ?_)
      clear hK K
      (try simp only [Act.put, List.setIfInBounds_toArray, List.set_cons_zero, List.set_cons_succ])
      refine wpAnyH_ready (rs := [5]) (by kernel_rfl) (by simp) ?_
      refine AllReadyH.cons (o := ?_) ?_ (fun K hK => ?_) AllReadyH.nil
      rotate_left
      · (simp only [List.getElem?_toArray, List.getElem?_cons_zero, List.getElem?_cons_succ]; rfl)
      go_simp
      have hLB := blk_new w3 #[.int .i64 lk, .int .i64 lg, .int .i64 la, .int .i64 lb, .int .i64 lc] 48
      have HLB := Lib.hid hLB
      clear hLB
      have HBY := Lib.hid (HB3.out.trans ((below_alloc (Below.refl _ w3) (.cells #[.int .i64 lk, .int .i64 lg, .int .i64 la, .int .i64 lb, .int .i64 lc] 48)).mono HB3.out.size))
      have HO3N := Lib.hid (HO3.out.below (below_alloc (Below.refl _ w3) (.cells #[.int .i64 lk, .int .i64 lg, .int .i64 la, .int .i64 lb, .int .i64 lc] 48)))
      refine hK.out _ _ (HOLD.out _ HBY.out) (fun hHeld => ?_)
      clear hK K
      (try simp only [Act.put, List.setIfInBounds_toArray, List.set_cons_zero, List.set_cons_succ])
      refine wpAnyH_ready (rs := [6]) (by kernel_rfl) (by simp) ?_
      refine AllReadyH.cons (o := ?_) ?_ (fun K hK => ?_) AllReadyH.nil
      rotate_left
      · (simp only [List.getElem?_toArray, List.getElem?_cons_zero, List.getElem?_cons_succ]; rfl)
      refine step_appL rfl _ _ rfl Wd.heap.size (.slice (some ⟨g3, 0, none⟩) n cap3) n ([] ++ ls) rfl HN.out HO3N.out w3.heap.size 0 1 1 [⟨lk, lg, la, lb, lc⟩] rfl rfl (els_blk HLB.out) (by decide) (by omega) HBY.out.size (n + 1) rfl ?_
      intro g6 cap6 w6 hown hg
      have HO6 := Lib.hid hown
      have HB6 := Lib.hid (low_of HBY.out hg (fun g e => (HO3N.out.lt e).1) HBY.out.size)
      clear hown hg
      refine hK.out _ _ (HOLD.out _ HB6.out) (fun hHeld => ?_)
      clear hK K
      (try simp only [Act.put, List.setIfInBounds_toArray, List.set_cons_zero, List.set_cons_succ])
      have hZ6 := HZd.out.low HB6.out (by omega)
      have z0 := hZ6.cell 0 (u := .slice (some ⟨g, o, none⟩) n c) rfl
      have zf := hZ6.frz 0
      have HZ6 := Lib.hid hZ6
      clear hZ6
      refine wpAnyH_take (i := 7) (oi := ?_) (v := ?_) ?_ (by kernel_rfl) (by kernel_rfl) (by kernel_rfl) ?_ (Or.inl ⟨?_, ?_⟩) hHeld ?_
      rotate_left 2
      · (simp only [List.getElem?_toArray, List.getElem?_cons_zero, List.getElem?_cons_succ]; rfl)
      · exact (fun _ _ _ h => h)
      · rfl
      · (intro w hSw; (try dsimp only at hSw); go_simp; try with_reducible rfl)
      (try simp only [Act.put, List.setIfInBounds_toArray, List.set_cons_zero, List.set_cons_succ])
      refine wpAnyH_ready (rs := [8]) (by kernel_rfl) (by simp) ?_
      refine AllReadyH.cons (o := ?_) ?_ (fun K hK => ?_) AllReadyH.nil
      rotate_left
      · (simp only [List.getElem?_toArray, List.getElem?_cons_zero, List.getElem?_cons_succ]; rfl)
      go_simp
      have hS6 := HOLD.out _ HB6.out
      have hA : Apart w2.heap.size w6 (w6.setCell ⟨w2.heap.size, 0, none⟩ (.slice (some ⟨g6, 0, none⟩) (n + 1) cap6)) := Apart.set_ _ _ _ _
      have HX8 := Lib.hid (show Cx (w6.setCell ⟨w2.heap.size, 0, none⟩ (.slice (some ⟨g6, 0, none⟩) (n + 1) cap6)) w.heap.size (.slice (some ⟨g, o, none⟩) n c) T ls from ⟨hS6.1.blk.apart hA (by omega), els_apart hS6.1.els hA (by omega)⟩)
      have HY8 := Lib.hid (hS6.2.apart hA (by omega))
      have HZ8 := Lib.hid (show Blk (w6.setCell ⟨w2.heap.size, 0, none⟩ (.slice (some ⟨g6, 0, none⟩) (n + 1) cap6)) w2.heap.size (cfc (.slice (some ⟨g6, 0, none⟩) (n + 1) cap6) T) 26 from HZ6.out.set_ 0 (.slice (some ⟨g6, 0, none⟩) (n + 1) cap6))
      have HE8 := Lib.hid ((HO6.out.keep (F := fun x => x = w2.heap.size) (Keep.set_ w6 w2.heap.size 0 (.slice (some ⟨g6, 0, none⟩) (n + 1) cap6) rfl) (fun g e => by rw [e]; omega)).els)
      have HB8 := Lib.hid (bel_set (HBd.out.trans (HB6.out.mono (by omega))) (by omega : w.heap.size ≤ w2.heap.size) 0 (.slice (some ⟨g6, 0, none⟩) (n + 1) cap6))
      clear hS6 hA z0 zf HZ6 HO6
      refine hK.out _ _ ⟨HX8.out, HY8.out⟩ (fun hHeld => ?_)
      clear hK K
      (try simp only [Act.put, List.setIfInBounds_toArray, List.set_cons_zero, List.set_cons_succ])
      refine wpAnyH_done (by kernel_rfl) ?_ _
      have hsz8 := HZ8.out.lt
      generalize w6.setCell ⟨w2.heap.size, 0, none⟩ (.slice (some ⟨g6, 0, none⟩) (n + 1) cap6) = w8 at *
      obtain ⟨c0, c1, c2, c3, c4, c5, c6, c7, c8, c9, c10⟩ := cells11 HX8.out
      have hY := HY8.out.below (below_alloc (Below.refl _ w8) (.cells #[.slice (some ⟨g, o, none⟩) n c, .int .i64 (T 0), .int .i64 (T 1), .int .i64 (T 2), .int .i64 (T 3), .int .i64 (T 4), .int .i64 (T 5), .int .i64 (T 6), .int .i64 (T 7), .int .i64 (T 8), .int .i64 (T 9)] 26))
      have y0 := hY.cell 0 (u := .int .i64 lk) rfl
      have y1 := hY.cell 1 (u := .int .i64 lg) rfl
      have y2 := hY.cell 2 (u := .int .i64 la) rfl
      have y3 := hY.cell 3 (u := .int .i64 lb) rfl
      have y4 := hY.cell 4 (u := .int .i64 lc) rfl
      have hL7 := blk_new (w8.alloc (.cells #[.slice (some ⟨w8.heap.size + 1, 0, none⟩) 1 1, .int .i64 (T 0), .int .i64 (T 1), .int .i64 (T 2), .int .i64 (T 3), .int .i64 (T 4), .int .i64 (T 5), .int .i64 (T 6), .int .i64 (T 7), .int .i64 (T 8), .int .i64 (T 9)] 26)) #[.int .i64 lk, .int .i64 lg, .int .i64 la, .int .i64 lb, .int .i64 lc] 48
      rw [show (w8.alloc (.cells #[.slice (some ⟨w8.heap.size + 1, 0, none⟩) 1 1, .int .i64 (T 0), .int .i64 (T 1), .int .i64 (T 2), .int .i64 (T 3), .int .i64 (T 4), .int .i64 (T 5), .int .i64 (T 6), .int .i64 (T 7), .int .i64 (T 8), .int .i64 (T 9)] 26)).heap.size = w8.heap.size + 1 by simp] at hL7
      have HT9 := Lib.hid (show Blk ((w8.alloc (.cells #[.slice (some ⟨w8.heap.size + 1, 0, none⟩) 1 1, .int .i64 (T 0), .int .i64 (T 1), .int .i64 (T 2), .int .i64 (T 3), .int .i64 (T 4), .int .i64 (T 5), .int .i64 (T 6), .int .i64 (T 7), .int .i64 (T 8), .int .i64 (T 9)] 26)).alloc (.cells #[.int .i64 lk, .int .i64 lg, .int .i64 la, .int .i64 lb, .int .i64 lc] 48)) w8.heap.size (cfc (.slice (some ⟨w8.heap.size + 1, 0, none⟩) 1 1) T) 26 from (blk_new w8 _ _).below (below_alloc (Below.refl _ _) _))
      have HL9 := Lib.hid (show Els RLn 5 ((w8.alloc (.cells #[.slice (some ⟨w8.heap.size + 1, 0, none⟩) 1 1, .int .i64 (T 0), .int .i64 (T 1), .int .i64 (T 2), .int .i64 (T 3), .int .i64 (T 4), .int .i64 (T 5), .int .i64 (T 6), .int .i64 (T 7), .int .i64 (T 8), .int .i64 (T 9)] 26)).alloc (.cells #[.int .i64 lk, .int .i64 lg, .int .i64 la, .int .i64 lb, .int .i64 lc] 48)) (.slice (some ⟨w8.heap.size + 1, 0, none⟩) 1 1) [⟨lk, lg, la, lb, lc⟩] from els_blk hL7)
      have hK9 : Below w8.heap.size w8 ((w8.alloc (.cells #[.slice (some ⟨w8.heap.size + 1, 0, none⟩) 1 1, .int .i64 (T 0), .int .i64 (T 1), .int .i64 (T 2), .int .i64 (T 3), .int .i64 (T 4), .int .i64 (T 5), .int .i64 (T 6), .int .i64 (T 7), .int .i64 (T 8), .int .i64 (T 9)] 26)).alloc (.cells #[.int .i64 lk, .int .i64 lg, .int .i64 la, .int .i64 lb, .int .i64 lc] 48)) := below_alloc (below_alloc (Below.refl _ w8) _) _
      have HX9 := Lib.hid (HX8.out.below hK9)
      have HZ9 := Lib.hid (HZ8.out.below hK9)
      have HE9 := Lib.hid (HE8.out.below (fun _ _ _ h => h.below hK9))
      have HB9 := Lib.hid (below_call HB8.out hK9)
      clear hY hL7 hK9 HX8 HY8 HZ8 HE8 HB8
      go_wp2_with fail
      clear c0 c1 c2 c3 c4 c5 c6 c7 c8 c9 c10 y0 y1 y2 y3 y4
      generalize ((w8.alloc (.cells #[.slice (some ⟨w8.heap.size + 1, 0, none⟩) 1 1, .int .i64 (T 0), .int .i64 (T 1), .int .i64 (T 2), .int .i64 (T 3), .int .i64 (T 4), .int .i64 (T 5), .int .i64 (T 6), .int .i64 (T 7), .int .i64 (T 8), .int .i64 (T 9)] 26)).alloc (.cells #[.int .i64 lk, .int .i64 lg, .int .i64 la, .int .i64 lb, .int .i64 lc] 48)) = w9 at *
      refine wp_region_held_drew (S := (fun w' => Blk w' w2.heap.size (cfc (.slice (some ⟨g6, 0, none⟩) (n + 1) cap6) T) 26 ∧ Blk w' w8.heap.size (cfc (.slice (some ⟨w8.heap.size + 1, 0, none⟩) 1 1) T) 26 ∧ Blk w' w.heap.size (cfc (.slice (some ⟨g, o, none⟩) n c) T) 26)) (by kernel_rfl) ⟨HZ9.out, HT9.out, HX9.out.blk⟩ (fun hHeld => ?_)
      refine wpAnyH_take (i := 0) (oi := ?_) (v := ?_) ?_ (by kernel_rfl) (by kernel_rfl) (by kernel_rfl) ?_ (Or.inl ⟨?_, ?_⟩) hHeld ?_
      rotate_left 2
      · (simp only [List.getElem?_toArray, List.getElem?_cons_zero]; rfl)
      · exact (fun _ _ _ h => h)
      · rfl
      · (intro w hSw; (try dsimp only at hSw); go_simp; try with_reducible rfl)
      (try simp only [Act.put, List.setIfInBounds_toArray, List.set_cons_zero, List.set_cons_succ])
      refine wpAnyH_take (i := 1) (oi := ?_) (v := ?_) ?_ (by kernel_rfl) (by kernel_rfl) (by kernel_rfl) ?_ (Or.inl ⟨?_, ?_⟩) hHeld ?_
      rotate_left 2
      · (simp only [List.getElem?_toArray, List.getElem?_cons_zero, List.getElem?_cons_succ]; rfl)
      · exact (fun _ _ _ h => h)
      · rfl
      · (intro w hSw; (try dsimp only at hSw); go_simp; try with_reducible rfl)
      (try simp only [Act.put, List.setIfInBounds_toArray, List.set_cons_zero, List.set_cons_succ])
      refine wpAnyH_take (i := 2) (oi := ?_) (v := ?_) ?_ (by kernel_rfl) (by kernel_rfl) (by kernel_rfl) ?_ (Or.inl ⟨?_, ?_⟩) hHeld ?_
      rotate_left 2
      · (simp only [List.getElem?_toArray, List.getElem?_cons_zero, List.getElem?_cons_succ]; rfl)
      · exact (fun _ _ _ h => h)
      · rfl
      · (intro w hSw; (try dsimp only at hSw); obtain ⟨c0, c1, c2, c3, c4, c5, c6, c7, c8, c9, c10⟩ := Blk.eleven hSw.1; go_simp; try with_reducible rfl)
      (try simp only [Act.put, List.setIfInBounds_toArray, List.set_cons_zero, List.set_cons_succ])
      refine wpAnyH_take (i := 5) (oi := ?_) (v := ?_) ?_ (by kernel_rfl) (by kernel_rfl) (by kernel_rfl) ?_ (Or.inl ⟨?_, ?_⟩) hHeld ?_
      rotate_left 2
      · (simp only [List.getElem?_toArray, List.getElem?_cons_zero, List.getElem?_cons_succ]; rfl)
      · exact (fun _ _ _ h => h)
      · rfl
      · (intro w hSw; (try dsimp only at hSw); obtain ⟨c0, c1, c2, c3, c4, c5, c6, c7, c8, c9, c10⟩ := Blk.eleven hSw.2.1; go_simp; try with_reducible rfl)
      (try simp only [Act.put, List.setIfInBounds_toArray, List.set_cons_zero, List.set_cons_succ])
      refine wpAnyH_ready (rs := [3]) (by kernel_rfl) (by simp) ?_
      refine AllReadyH.cons (o := ?_) ?_ (fun K hK => ?_) AllReadyH.nil
      rotate_left
      · (simp only [List.getElem?_toArray, List.getElem?_cons_zero, List.getElem?_cons_succ]; rfl)
      go_simp
      (with_reducible refine (HMORE.out _ _ _ (HE9.out.below (fun _ _ _ h => h.below (bel_drew _)))).mono ?_)
      rintro e w10 ⟨r10, rfl, hr, hb⟩
      obtain ⟨b10, rfl, _⟩ := hr.not (by decide)
      have HT10 := Lib.hid ((HT9.out.below (bel_drew _)).below hb)
      have HL10 := Lib.hid ((HL9.out.below (fun _ _ _ h => h.below (bel_drew _))).below (fun _ _ _ h => h.below hb))
      have HX10 := Lib.hid ((HX9.out.below (bel_drew _)).below hb)
      have HZ10 := Lib.hid ((HZ9.out.below (bel_drew _)).below hb)
      have HB10 := Lib.hid (below_call (below_call HB9.out (bel_drew _)) hb)
      clear hb hr HT9 HL9 HX9 HZ9 HB9
      go_wp2_with fail
      refine hK.out _ _ ⟨HZ10.out, HT10.out, HX10.out.blk⟩ (fun hHeld => ?_)
      clear hK K
      (try simp only [Act.put, List.setIfInBounds_toArray, List.set_cons_zero, List.set_cons_succ])
      refine wpAnyH_take (i := 4) (oi := ?_) (v := ?_) ?_ (by kernel_rfl) (by kernel_rfl) (by kernel_rfl) ?_ (Or.inl ⟨?_, ?_⟩) hHeld ?_
      rotate_left 2
      · (simp only [List.getElem?_toArray, List.getElem?_cons_zero, List.getElem?_cons_succ]; rfl)
      · exact (fun _ _ _ h => h)
      · rfl
      · (intro w hSw; (try dsimp only at hSw); go_simp; try with_reducible rfl)
      (try simp only [Act.put, List.setIfInBounds_toArray, List.set_cons_zero, List.set_cons_succ])
      refine wpAnyH_ready (rs := [6]) (by kernel_rfl) (by simp) ?_
      refine AllReadyH.cons (o := ?_) ?_ (fun K hK => ?_) AllReadyH.nil
      rotate_left
      · (simp only [List.getElem?_toArray, List.getElem?_cons_zero, List.getElem?_cons_succ]; rfl)
      go_simp
      (with_reducible refine (HONE.out _ _ HL10.out).mono ?_)
      rintro e w11 ⟨r11, rfl, hr, hb⟩
      obtain ⟨b11, rfl, _⟩ := hr.not (by decide)
      have HT11 := Lib.hid (HT10.out.below hb)
      have HX11 := Lib.hid (HX10.out.below hb)
      have HZ11 := Lib.hid (HZ10.out.below hb)
      have HB11 := Lib.hid (below_call HB10.out hb)
      clear hb hr HT10 HL10 HX10 HZ10 HB10
      go_wp2_with fail
      refine hK.out _ _ ⟨HZ11.out, HT11.out, HX11.out.blk⟩ (fun hHeld => ?_)
      clear hK K
      (try simp only [Act.put, List.setIfInBounds_toArray, List.set_cons_zero, List.set_cons_succ])
      refine wpAnyH_take (i := 7) (oi := ?_) (v := ?_) ?_ (by kernel_rfl) (by kernel_rfl) (by kernel_rfl) ?_ (Or.inl ⟨?_, ?_⟩) hHeld ?_
      rotate_left 2
      · (simp only [List.getElem?_toArray, List.getElem?_cons_zero, List.getElem?_cons_succ]; rfl)
      · exact (fun _ _ _ h => h)
      · rfl
      · (intro w hSw; (try dsimp only at hSw); go_simp; try with_reducible rfl)
      (try simp only [Act.put, List.setIfInBounds_toArray, List.set_cons_zero, List.set_cons_succ])
      refine wpAnyH_take (i := 8) (oi := ?_) (v := ?_) ?_ (by kernel_rfl) (by kernel_rfl) (by kernel_rfl) ?_ (Or.inl ⟨?_, ?_⟩) hHeld ?_
      rotate_left 2
      · (simp only [List.getElem?_toArray, List.getElem?_cons_zero, List.getElem?_cons_succ]; rfl)
      · exact (fun _ _ _ h => h)
      · rfl
      · (intro w hSw; (try dsimp only at hSw); go_simp; try with_reducible rfl)
      (try simp only [Act.put, List.setIfInBounds_toArray, List.set_cons_zero, List.set_cons_succ])
      refine wpAnyH_take (i := 9) (oi := ?_) (v := undef) ?_ (by kernel_rfl) (by kernel_rfl) (by kernel_rfl) ?_ (Or.inr ⟨?_, rfl⟩) hHeld ?_
      rotate_left 1
      · (simp only [List.getElem?_toArray, List.getElem?_cons_zero, List.getElem?_cons_succ]; rfl)
      · exact (fun _ _ _ h => h)
      · rfl
      (try simp only [Act.put, List.setIfInBounds_toArray, List.set_cons_zero, List.set_cons_succ])
      refine wpAnyH_take (i := 10) (oi := ?_) (v := undef) ?_ (by kernel_rfl) (by kernel_rfl) (by kernel_rfl) ?_ (Or.inr ⟨?_, rfl⟩) hHeld ?_
      rotate_left 1
      · (simp only [List.getElem?_toArray, List.getElem?_cons_zero, List.getElem?_cons_succ]; rfl)
      · exact (fun _ _ _ h => h)
      · rfl
      (try simp only [Act.put, List.setIfInBounds_toArray, List.set_cons_zero, List.set_cons_succ])
      refine wpAnyH_take (i := 11) (oi := ?_) (v := undef) ?_ (by kernel_rfl) (by kernel_rfl) (by kernel_rfl) ?_ (Or.inr ⟨?_, rfl⟩) hHeld ?_
      rotate_left 1
      · (simp only [List.getElem?_toArray, List.getElem?_cons_zero, List.getElem?_cons_succ]; rfl)
      · exact (fun _ _ _ h => h)
      · rfl
      (try simp only [Act.put, List.setIfInBounds_toArray, List.set_cons_zero, List.set_cons_succ])
      refine wpAnyH_take (i := 12) (oi := ?_) (v := undef) ?_ (by kernel_rfl) (by kernel_rfl) (by kernel_rfl) ?_ (Or.inr ⟨?_, rfl⟩) hHeld ?_
      rotate_left 1
      · (simp only [List.getElem?_toArray, List.getElem?_cons_zero, List.getElem?_cons_succ]; rfl)
      · exact (fun _ _ _ h => h)
      · rfl
      (try simp only [Act.put, List.setIfInBounds_toArray, List.set_cons_zero, List.set_cons_succ])
      refine wpAnyH_take (i := 13) (oi := ?_) (v := ?_) ?_ (by kernel_rfl) (by kernel_rfl) (by kernel_rfl) ?_ (Or.inl ⟨?_, ?_⟩) hHeld ?_
      rotate_left 2
      · (simp only [List.getElem?_toArray, List.getElem?_cons_zero, List.getElem?_cons_succ]; rfl)
      · exact (fun _ _ _ h => h)
      · rfl
      · (intro w hSw; (try dsimp only at hSw); go_simp; try with_reducible rfl)
      (try simp only [Act.put, List.setIfInBounds_toArray, List.set_cons_zero, List.set_cons_succ])
      refine wpAnyH_take (i := 14) (oi := ?_) (v := ?_) ?_ (by kernel_rfl) (by kernel_rfl) (by kernel_rfl) ?_ (Or.inl ⟨?_, ?_⟩) hHeld ?_
      rotate_left 2
      · (simp only [List.getElem?_toArray, List.getElem?_cons_zero, List.getElem?_cons_succ]; rfl)
      · exact (fun _ _ _ h => h)
      · rfl
      · (intro w hSw; (try dsimp only at hSw); go_simp; try with_reducible rfl)
      (try simp only [Act.put, List.setIfInBounds_toArray, List.set_cons_zero, List.set_cons_succ])
      refine wpAnyH_take (i := 15) (oi := ?_) (v := ?_) ?_ (by kernel_rfl) (by kernel_rfl) (by kernel_rfl) ?_ (Or.inl ⟨?_, ?_⟩) hHeld ?_
      rotate_left 2
      · (simp only [List.getElem?_toArray, List.getElem?_cons_zero, List.getElem?_cons_succ]; rfl)
      · exact (fun _ _ _ h => h)
      · rfl
      · (intro w hSw; (try dsimp only at hSw); go_simp; try with_reducible rfl)
      (try simp only [Act.put, List.setIfInBounds_toArray, List.set_cons_zero, List.set_cons_succ])
      refine wpAnyH_take (i := 16) (oi := ?_) (v := ?_) ?_ (by kernel_rfl) (by kernel_rfl) (by kernel_rfl) ?_ (Or.inl ⟨?_, ?_⟩) hHeld ?_
      rotate_left 2
      · (simp only [List.getElem?_toArray, List.getElem?_cons_zero, List.getElem?_cons_succ]; rfl)
      · exact (fun _ _ _ h => h)
      · rfl
      · (intro w hSw; (try dsimp only at hSw); go_simp; try with_reducible rfl)
      (try simp only [Act.put, List.setIfInBounds_toArray, List.set_cons_zero, List.set_cons_succ])
      refine wpAnyH_done (by kernel_rfl) ?_ _
      go_wp2_with fail
      go_ret
      exact ⟨rfl, HB11.out⟩
    · refine AllReadyH.cons (o := ?_) ?_ (fun K hK => ?_) AllReadyH.nil
      rotate_left
      · (simp only [List.getElem?_toArray, List.getElem?_cons_zero, List.getElem?_cons_succ]; rfl)
      go_simp
      have hLB := blk_new (Wd.alloc (.cells #[] 48)) #[.int .i64 lk, .int .i64 lg, .int .i64 la, .int .i64 lb, .int .i64 lc] 48
      rw [show (Wd.alloc (.cells #[] 48)).heap.size = Wd.heap.size + 1 by simp] at hLB
      have HLB := Lib.hid hLB
      clear hLB
      have HBY := Lib.hid (HBZ.out.trans ((below_alloc (Below.refl _ (Wd.alloc (.cells #[] 48))) (.cells #[.int .i64 lk, .int .i64 lg, .int .i64 la, .int .i64 lb, .int .i64 lc] 48)).mono HBZ.out.size))
      have HOLN := Lib.hid (HOL.out.below (below_alloc (Below.refl _ (Wd.alloc (.cells #[] 48))) (.cells #[.int .i64 lk, .int .i64 lg, .int .i64 la, .int .i64 lb, .int .i64 lc] 48)))
      refine hK.out _ _ (HOLD.out _ HBY.out) (fun hHeld => ?_)
      clear hK K
      (try simp only [Act.put, List.setIfInBounds_toArray, List.set_cons_zero, List.set_cons_succ])
      refine wpAnyH_ready (rs := [3]) (by kernel_rfl) (by simp) ?_
      refine AllReadyH.cons (o := ?_) ?_ (fun K hK => ?_) AllReadyH.nil
      rotate_left
      · (simp only [List.getElem?_toArray, List.getElem?_cons_zero, List.getElem?_cons_succ]; rfl)
      refine step_appL rfl _ _ rfl Wd.heap.size (.slice (some ⟨Wd.heap.size, 0, none⟩) 0 0) 0 [] rfl rfl HOLN.out g o n c ls rfl HN.out.symm (HOLD.out _ HBY.out).1.els hn0 (by omega) HBY.out.size n (Nat.zero_add n) ?_
      intro g3 cap3 w3 hown hg
      have HO3 := Lib.hid hown
      have HB3 := Lib.hid (low_of HBY.out hg (fun g e => (HOLN.out.lt e).1) HBY.out.size)
      have HLC := Lib.hid (HLB.out.keep (G := fun x => x = Wd.heap.size) (Keep.grown hg (fun g e => (Option.some.inj e).symm)) (by omega))
      clear hown hg
      refine hK.out _ _ (HOLD.out _ HB3.out) (fun hHeld => ?_)
      clear hK K
      (try simp only [Act.put, List.setIfInBounds_toArray, List.set_cons_zero, List.set_cons_succ])
      refine wpAnyH_ready (rs := [6]) (by kernel_rfl) (by simp) ?_
      refine AllReadyH.cons (o := ?_) ?_ (fun K hK => ?_) AllReadyH.nil
      rotate_left
      · (simp only [List.getElem?_toArray, List.getElem?_cons_zero, List.getElem?_cons_succ]; rfl)
      refine step_appL rfl _ _ rfl Wd.heap.size (.slice (some ⟨g3, 0, none⟩) n cap3) n ([] ++ ls) rfl HN.out HO3.out (Wd.heap.size + 1) 0 1 1 [⟨lk, lg, la, lb, lc⟩] rfl rfl (els_blk HLC.out) (by decide) (by omega) HB3.out.size (n + 1) rfl ?_
      intro g6 cap6 w6 hown hg
      have HO6 := Lib.hid hown
      have HB6 := Lib.hid (low_of HB3.out hg (fun g e => (HO3.out.lt e).1) HB3.out.size)
      clear hown hg
      refine hK.out _ _ (HOLD.out _ HB6.out) (fun hHeld => ?_)
      clear hK K
      (try simp only [Act.put, List.setIfInBounds_toArray, List.set_cons_zero, List.set_cons_succ])
      have hZ6 := HZd.out.low HB6.out (by omega)
      have z0 := hZ6.cell 0 (u := .slice (some ⟨g, o, none⟩) n c) rfl
      have zf := hZ6.frz 0
      have HZ6 := Lib.hid hZ6
      clear hZ6
      refine wpAnyH_take (i := 7) (oi := ?_) (v := ?_) ?_ (by kernel_rfl) (by kernel_rfl) (by kernel_rfl) ?_ (Or.inl ⟨?_, ?_⟩) hHeld ?_
      rotate_left 2
      · (simp only [List.getElem?_toArray, List.getElem?_cons_zero, List.getElem?_cons_succ]; rfl)
      · exact (fun _ _ _ h => h)
      · rfl
      · (intro w hSw; (try dsimp only at hSw); go_simp; try with_reducible rfl)
      (try simp only [Act.put, List.setIfInBounds_toArray, List.set_cons_zero, List.set_cons_succ])
      refine wpAnyH_ready (rs := [8]) (by kernel_rfl) (by simp) ?_
      refine AllReadyH.cons (o := ?_) ?_ (fun K hK => ?_) AllReadyH.nil
      rotate_left
      · (simp only [List.getElem?_toArray, List.getElem?_cons_zero, List.getElem?_cons_succ]; rfl)
      go_simp
      have hS6 := HOLD.out _ HB6.out
      have hA : Apart w2.heap.size w6 (w6.setCell ⟨w2.heap.size, 0, none⟩ (.slice (some ⟨g6, 0, none⟩) (n + 1) cap6)) := Apart.set_ _ _ _ _
      have HX8 := Lib.hid (show Cx (w6.setCell ⟨w2.heap.size, 0, none⟩ (.slice (some ⟨g6, 0, none⟩) (n + 1) cap6)) w.heap.size (.slice (some ⟨g, o, none⟩) n c) T ls from ⟨hS6.1.blk.apart hA (by omega), els_apart hS6.1.els hA (by omega)⟩)
      have HY8 := Lib.hid (hS6.2.apart hA (by omega))
      have HZ8 := Lib.hid (show Blk (w6.setCell ⟨w2.heap.size, 0, none⟩ (.slice (some ⟨g6, 0, none⟩) (n + 1) cap6)) w2.heap.size (cfc (.slice (some ⟨g6, 0, none⟩) (n + 1) cap6) T) 26 from HZ6.out.set_ 0 (.slice (some ⟨g6, 0, none⟩) (n + 1) cap6))
      have HE8 := Lib.hid ((HO6.out.keep (F := fun x => x = w2.heap.size) (Keep.set_ w6 w2.heap.size 0 (.slice (some ⟨g6, 0, none⟩) (n + 1) cap6) rfl) (fun g e => by rw [e]; omega)).els)
      have HB8 := Lib.hid (bel_set (HBd.out.trans (HB6.out.mono (by omega))) (by omega : w.heap.size ≤ w2.heap.size) 0 (.slice (some ⟨g6, 0, none⟩) (n + 1) cap6))
      clear hS6 hA z0 zf HZ6 HO6
      refine hK.out _ _ ⟨HX8.out, HY8.out⟩ (fun hHeld => ?_)
      clear hK K
      (try simp only [Act.put, List.setIfInBounds_toArray, List.set_cons_zero, List.set_cons_succ])
      refine wpAnyH_done (by kernel_rfl) ?_ _
      have hsz8 := HZ8.out.lt
      generalize w6.setCell ⟨w2.heap.size, 0, none⟩ (.slice (some ⟨g6, 0, none⟩) (n + 1) cap6) = w8 at *
      obtain ⟨c0, c1, c2, c3, c4, c5, c6, c7, c8, c9, c10⟩ := cells11 HX8.out
      have hY := HY8.out.below (below_alloc (Below.refl _ w8) (.cells #[.slice (some ⟨g, o, none⟩) n c, .int .i64 (T 0), .int .i64 (T 1), .int .i64 (T 2), .int .i64 (T 3), .int .i64 (T 4), .int .i64 (T 5), .int .i64 (T 6), .int .i64 (T 7), .int .i64 (T 8), .int .i64 (T 9)] 26))
      have y0 := hY.cell 0 (u := .int .i64 lk) rfl
      have y1 := hY.cell 1 (u := .int .i64 lg) rfl
      have y2 := hY.cell 2 (u := .int .i64 la) rfl
      have y3 := hY.cell 3 (u := .int .i64 lb) rfl
      have y4 := hY.cell 4 (u := .int .i64 lc) rfl
      have hL7 := blk_new (w8.alloc (.cells #[.slice (some ⟨w8.heap.size + 1, 0, none⟩) 1 1, .int .i64 (T 0), .int .i64 (T 1), .int .i64 (T 2), .int .i64 (T 3), .int .i64 (T 4), .int .i64 (T 5), .int .i64 (T 6), .int .i64 (T 7), .int .i64 (T 8), .int .i64 (T 9)] 26)) #[.int .i64 lk, .int .i64 lg, .int .i64 la, .int .i64 lb, .int .i64 lc] 48
      rw [show (w8.alloc (.cells #[.slice (some ⟨w8.heap.size + 1, 0, none⟩) 1 1, .int .i64 (T 0), .int .i64 (T 1), .int .i64 (T 2), .int .i64 (T 3), .int .i64 (T 4), .int .i64 (T 5), .int .i64 (T 6), .int .i64 (T 7), .int .i64 (T 8), .int .i64 (T 9)] 26)).heap.size = w8.heap.size + 1 by simp] at hL7
      have HT9 := Lib.hid (show Blk ((w8.alloc (.cells #[.slice (some ⟨w8.heap.size + 1, 0, none⟩) 1 1, .int .i64 (T 0), .int .i64 (T 1), .int .i64 (T 2), .int .i64 (T 3), .int .i64 (T 4), .int .i64 (T 5), .int .i64 (T 6), .int .i64 (T 7), .int .i64 (T 8), .int .i64 (T 9)] 26)).alloc (.cells #[.int .i64 lk, .int .i64 lg, .int .i64 la, .int .i64 lb, .int .i64 lc] 48)) w8.heap.size (cfc (.slice (some ⟨w8.heap.size + 1, 0, none⟩) 1 1) T) 26 from (blk_new w8 _ _).below (below_alloc (Below.refl _ _) _))
      have HL9 := Lib.hid (show Els RLn 5 ((w8.alloc (.cells #[.slice (some ⟨w8.heap.size + 1, 0, none⟩) 1 1, .int .i64 (T 0), .int .i64 (T 1), .int .i64 (T 2), .int .i64 (T 3), .int .i64 (T 4), .int .i64 (T 5), .int .i64 (T 6), .int .i64 (T 7), .int .i64 (T 8), .int .i64 (T 9)] 26)).alloc (.cells #[.int .i64 lk, .int .i64 lg, .int .i64 la, .int .i64 lb, .int .i64 lc] 48)) (.slice (some ⟨w8.heap.size + 1, 0, none⟩) 1 1) [⟨lk, lg, la, lb, lc⟩] from els_blk hL7)
      have hK9 : Below w8.heap.size w8 ((w8.alloc (.cells #[.slice (some ⟨w8.heap.size + 1, 0, none⟩) 1 1, .int .i64 (T 0), .int .i64 (T 1), .int .i64 (T 2), .int .i64 (T 3), .int .i64 (T 4), .int .i64 (T 5), .int .i64 (T 6), .int .i64 (T 7), .int .i64 (T 8), .int .i64 (T 9)] 26)).alloc (.cells #[.int .i64 lk, .int .i64 lg, .int .i64 la, .int .i64 lb, .int .i64 lc] 48)) := below_alloc (below_alloc (Below.refl _ w8) _) _
      have HX9 := Lib.hid (HX8.out.below hK9)
      have HZ9 := Lib.hid (HZ8.out.below hK9)
      have HE9 := Lib.hid (HE8.out.below (fun _ _ _ h => h.below hK9))
      have HB9 := Lib.hid (below_call HB8.out hK9)
      clear hY hL7 hK9 HX8 HY8 HZ8 HE8 HB8
      go_wp2_with fail
      clear c0 c1 c2 c3 c4 c5 c6 c7 c8 c9 c10 y0 y1 y2 y3 y4
      generalize ((w8.alloc (.cells #[.slice (some ⟨w8.heap.size + 1, 0, none⟩) 1 1, .int .i64 (T 0), .int .i64 (T 1), .int .i64 (T 2), .int .i64 (T 3), .int .i64 (T 4), .int .i64 (T 5), .int .i64 (T 6), .int .i64 (T 7), .int .i64 (T 8), .int .i64 (T 9)] 26)).alloc (.cells #[.int .i64 lk, .int .i64 lg, .int .i64 la, .int .i64 lb, .int .i64 lc] 48)) = w9 at *
      refine wp_region_held_drew (S := (fun w' => Blk w' w2.heap.size (cfc (.slice (some ⟨g6, 0, none⟩) (n + 1) cap6) T) 26 ∧ Blk w' w8.heap.size (cfc (.slice (some ⟨w8.heap.size + 1, 0, none⟩) 1 1) T) 26 ∧ Blk w' w.heap.size (cfc (.slice (some ⟨g, o, none⟩) n c) T) 26)) (by kernel_rfl) ⟨HZ9.out, HT9.out, HX9.out.blk⟩ (fun hHeld => ?_)
      refine wpAnyH_take (i := 0) (oi := ?_) (v := ?_) ?_ (by kernel_rfl) (by kernel_rfl) (by kernel_rfl) ?_ (Or.inl ⟨?_, ?_⟩) hHeld ?_
      rotate_left 2
      · (simp only [List.getElem?_toArray, List.getElem?_cons_zero]; rfl)
      · exact (fun _ _ _ h => h)
      · rfl
      · (intro w hSw; (try dsimp only at hSw); go_simp; try with_reducible rfl)
      (try simp only [Act.put, List.setIfInBounds_toArray, List.set_cons_zero, List.set_cons_succ])
      refine wpAnyH_take (i := 1) (oi := ?_) (v := ?_) ?_ (by kernel_rfl) (by kernel_rfl) (by kernel_rfl) ?_ (Or.inl ⟨?_, ?_⟩) hHeld ?_
      rotate_left 2
      · (simp only [List.getElem?_toArray, List.getElem?_cons_zero, List.getElem?_cons_succ]; rfl)
      · exact (fun _ _ _ h => h)
      · rfl
      · (intro w hSw; (try dsimp only at hSw); go_simp; try with_reducible rfl)
      (try simp only [Act.put, List.setIfInBounds_toArray, List.set_cons_zero, List.set_cons_succ])
      refine wpAnyH_take (i := 2) (oi := ?_) (v := ?_) ?_ (by kernel_rfl) (by kernel_rfl) (by kernel_rfl) ?_ (Or.inl ⟨?_, ?_⟩) hHeld ?_
      rotate_left 2
      · (simp only [List.getElem?_toArray, List.getElem?_cons_zero, List.getElem?_cons_succ]; rfl)
      · exact (fun _ _ _ h => h)
      · rfl
      · (intro w hSw; (try dsimp only at hSw); obtain ⟨c0, c1, c2, c3, c4, c5, c6, c7, c8, c9, c10⟩ := Blk.eleven hSw.1; go_simp; try with_reducible rfl)
      (try simp only [Act.put, List.setIfInBounds_toArray, List.set_cons_zero, List.set_cons_succ])
      refine wpAnyH_take (i := 5) (oi := ?_) (v := ?_) ?_ (by kernel_rfl) (by kernel_rfl) (by kernel_rfl) ?_ (Or.inl ⟨?_, ?_⟩) hHeld ?_
      rotate_left 2
      · (simp only [List.getElem?_toArray, List.getElem?_cons_zero, List.getElem?_cons_succ]; rfl)
      · exact (fun _ _ _ h => h)
      · rfl
      · (intro w hSw; (try dsimp only at hSw); obtain ⟨c0, c1, c2, c3, c4, c5, c6, c7, c8, c9, c10⟩ := Blk.eleven hSw.2.1; go_simp; try with_reducible rfl)
      (try simp only [Act.put, List.setIfInBounds_toArray, List.set_cons_zero, List.set_cons_succ])
      refine wpAnyH_ready (rs := [3]) (by kernel_rfl) (by simp) ?_
      refine AllReadyH.cons (o := ?_) ?_ (fun K hK => ?_) AllReadyH.nil
      rotate_left
      · (simp only [List.getElem?_toArray, List.getElem?_cons_zero, List.getElem?_cons_succ]; rfl)
      go_simp
      (with_reducible refine (HMORE.out _ _ _ (HE9.out.below (fun _ _ _ h => h.below (bel_drew _)))).mono ?_)
      rintro e w10 ⟨r10, rfl, hr, hb⟩
      obtain ⟨b10, rfl, _⟩ := hr.not (by decide)
      have HT10 := Lib.hid ((HT9.out.below (bel_drew _)).below hb)
      have HL10 := Lib.hid ((HL9.out.below (fun _ _ _ h => h.below (bel_drew _))).below (fun _ _ _ h => h.below hb))
      have HX10 := Lib.hid ((HX9.out.below (bel_drew _)).below hb)
      have HZ10 := Lib.hid ((HZ9.out.below (bel_drew _)).below hb)
      have HB10 := Lib.hid (below_call (below_call HB9.out (bel_drew _)) hb)
      clear hb hr HT9 HL9 HX9 HZ9 HB9
      go_wp2_with fail
      refine hK.out _ _ ⟨HZ10.out, HT10.out, HX10.out.blk⟩ (fun hHeld => ?_)
      clear hK K
      (try simp only [Act.put, List.setIfInBounds_toArray, List.set_cons_zero, List.set_cons_succ])
      refine wpAnyH_take (i := 4) (oi := ?_) (v := ?_) ?_ (by kernel_rfl) (by kernel_rfl) (by kernel_rfl) ?_ (Or.inl ⟨?_, ?_⟩) hHeld ?_
      rotate_left 2
      · (simp only [List.getElem?_toArray, List.getElem?_cons_zero, List.getElem?_cons_succ]; rfl)
      · exact (fun _ _ _ h => h)
      · rfl
      · (intro w hSw; (try dsimp only at hSw); go_simp; try with_reducible rfl)
      (try simp only [Act.put, List.setIfInBounds_toArray, List.set_cons_zero, List.set_cons_succ])
      refine wpAnyH_ready (rs := [6]) (by kernel_rfl) (by simp) ?_
      refine AllReadyH.cons (o := ?_) ?_ (fun K hK => ?_) AllReadyH.nil
      rotate_left
      · (simp only [List.getElem?_toArray, List.getElem?_cons_zero, List.getElem?_cons_succ]; rfl)
      go_simp
      (with_reducible refine (HONE.out _ _ HL10.out).mono ?_)
      rintro e w11 ⟨r11, rfl, hr, hb⟩
      obtain ⟨b11, rfl, _⟩ := hr.not (by decide)
      have HT11 := Lib.hid (HT10.out.below hb)
      have HX11 := Lib.hid (HX10.out.below hb)
      have HZ11 := Lib.hid (HZ10.out.below hb)
      have HB11 := Lib.hid (below_call HB10.out hb)
      clear hb hr HT10 HL10 HX10 HZ10 HB10
      go_wp2_with fail
      refine hK.out _ _ ⟨HZ11.out, HT11.out, HX11.out.blk⟩ (fun hHeld => ?_)
      clear hK K
      (try simp only [Act.put, List.setIfInBounds_toArray, List.set_cons_zero, List.set_cons_succ])
      refine wpAnyH_take (i := 7) (oi := ?_) (v := ?_) ?_ (by kernel_rfl) (by kernel_rfl) (by kernel_rfl) ?_ (Or.inl ⟨?_, ?_⟩) hHeld ?_
      rotate_left 2
      · (simp only [List.getElem?_toArray, List.getElem?_cons_zero, List.getElem?_cons_succ]; rfl)
      · exact (fun _ _ _ h => h)
      · rfl
      · (intro w hSw; (try dsimp only at hSw); go_simp; try with_reducible rfl)
      (try simp only [Act.put, List.setIfInBounds_toArray, List.set_cons_zero, List.set_cons_succ])
      refine wpAnyH_take (i := 8) (oi := ?_) (v := ?_) ?_ (by kernel_rfl) (by kernel_rfl) (by kernel_rfl) ?_ (Or.inl ⟨?_, ?_⟩) hHeld ?_
      rotate_left 2
      · (simp only [List.getElem?_toArray, List.getElem?_cons_zero, List.getElem?_cons_succ]; rfl)
      · exact (fun _ _ _ h => h)
      · rfl
      · (intro w hSw; (try dsimp only at hSw); go_simp; try with_reducible rfl)
      (try simp only [Act.put, List.setIfInBounds_toArray, List.set_cons_zero, List.set_cons_succ])
      refine wpAnyH_take (i := 9) (oi := ?_) (v := undef) ?_ (by kernel_rfl) (by kernel_rfl) (by kernel_rfl) ?_ (Or.inr ⟨?_, rfl⟩) hHeld ?_
      rotate_left 1
      · (simp only [List.getElem?_toArray, List.getElem?_cons_zero, List.getElem?_cons_succ]; rfl)
      · exact (fun _ _ _ h => h)
      · rfl
      (try simp only [Act.put, List.setIfInBounds_toArray, List.set_cons_zero, List.set_cons_succ])
      refine wpAnyH_take (i := 10) (oi := ?_) (v := undef) ?_ (by kernel_rfl) (by kernel_rfl) (by kernel_rfl) ?_ (Or.inr ⟨?_, rfl⟩) hHeld ?_
      rotate_left 1
      · (simp only [List.getElem?_toArray, List.getElem?_cons_zero, List.getElem?_cons_succ]; rfl)
      · exact (fun _ _ _ h => h)
      · rfl
      (try simp only [Act.put, List.setIfInBounds_toArray, List.set_cons_zero, List.set_cons_succ])
      refine wpAnyH_take (i := 11) (oi := ?_) (v := undef) ?_ (by kernel_rfl) (by kernel_rfl) (by kernel_rfl) ?_ (Or.inr ⟨?_, rfl⟩) hHeld ?_
      rotate_left 1
      · (simp only [List.getElem?_toArray, List.getElem?_cons_zero, List.getElem?_cons_succ]; rfl)
      · exact (fun _ _ _ h => h)
      · rfl
      (try simp only [Act.put, List.setIfInBounds_toArray, List.set_cons_zero, List.set_cons_succ])
      refine wpAnyH_take (i := 12) (oi := ?_) (v := undef) ?_ (by kernel_rfl) (by kernel_rfl) (by kernel_rfl) ?_ (Or.inr ⟨?_, rfl⟩) hHeld ?_
      rotate_left 1
      · (simp only [List.getElem?_toArray, List.getElem?_cons_zero, List.getElem?_cons_succ]; rfl)
      · exact (fun _ _ _ h => h)
      · rfl
      (try simp only [Act.put, List.setIfInBounds_toArray, List.set_cons_zero, List.set_cons_succ])
      refine wpAnyH_take (i := 13) (oi := ?_) (v := ?_) ?_ (by kernel_rfl) (by kernel_rfl) (by kernel_rfl) ?_ (Or.inl ⟨?_, ?_⟩) hHeld ?_
      rotate_left 2
      · (simp only [List.getElem?_toArray, List.getElem?_cons_zero, List.getElem?_cons_succ]; rfl)
      · exact (fun _ _ _ h => h)
      · rfl
      · (intro w hSw; (try dsimp only at hSw); go_simp; try with_reducible rfl)
      (try simp only [Act.put, List.setIfInBounds_toArray, List.set_cons_zero, List.set_cons_succ])
      refine wpAnyH_take (i := 14) (oi := ?_) (v := ?_) ?_ (by kernel_rfl) (by kernel_rfl) (by kernel_rfl) ?_ (Or.inl ⟨?_, ?_⟩) hHeld ?_
      rotate_left 2
      · (simp only [List.getElem?_toArray, List.getElem?_cons_zero, List.getElem?_cons_succ]; rfl)
      · exact (fun _ _ _ h => h)
      · rfl
      · (intro w hSw; (try dsimp only at hSw); go_simp; try with_reducible rfl)
      (try simp only [Act.put, List.setIfInBounds_toArray, List.set_cons_zero, List.set_cons_succ])
      refine wpAnyH_take (i := 15) (oi := ?_) (v := ?_) ?_ (by kernel_rfl) (by kernel_rfl) (by kernel_rfl) ?_ (Or.inl ⟨?_, ?_⟩) hHeld ?_
      rotate_left 2
      · (simp only [List.getElem?_toArray, List.getElem?_cons_zero, List.getElem?_cons_succ]; rfl)
      · exact (fun _ _ _ h => h)
      · rfl
      · (intro w hSw; (try dsimp only at hSw); go_simp; try with_reducible rfl)
      (try simp only [Act.put, List.setIfInBounds_toArray, List.set_cons_zero, List.set_cons_succ])
      refine wpAnyH_take (i := 16) (oi := ?_) (v := ?_) ?_ (by kernel_rfl) (by kernel_rfl) (by kernel_rfl) ?_ (Or.inl ⟨?_, ?_⟩) hHeld ?_
      rotate_left 2
      · (simp only [List.getElem?_toArray, List.getElem?_cons_zero, List.getElem?_cons_succ]; rfl)
      · exact (fun _ _ _ h => h)
      · rfl
      · (intro w hSw; (try dsimp only at hSw); go_simp; try with_reducible rfl)
      (try simp only [Act.put, List.setIfInBounds_toArray, List.set_cons_zero, List.set_cons_succ])
      refine wpAnyH_done (by kernel_rfl) ?_ _
      go_wp2_with fail
      go_ret
      exact ⟨rfl, HB11.out⟩
  · refine AllReadyH.cons (o := ?_) ?_ (fun K hK => ?_) AllReadyH.nil
    rotate_left
    · (simp only [List.getElem?_toArray, List.getElem?_cons_zero, List.getElem?_cons_succ]; rfl)
    go_simp
    have hLB := blk_new Wd #[.int .i64 lk, .int .i64 lg, .int .i64 la, .int .i64 lb, .int .i64 lc] 48
    have HLB := Lib.hid hLB
    clear hLB
    have HBZ := Lib.hid (below_alloc (Below.refl _ Wd) (.cells #[.int .i64 lk, .int .i64 lg, .int .i64 la, .int .i64 lb, .int .i64 lc] 48))
    refine hK.out _ _ (HOLD.out _ HBZ.out) (fun hHeld => ?_)
    clear hK K
    (try simp only [Act.put, List.setIfInBounds_toArray, List.set_cons_zero, List.set_cons_succ])
    refine wpAnyH_ready (rs := [0]) (by kernel_rfl) (by simp) ?_
    refine AllReadyH.cons (o := ?_) ?_ (fun K hK => ?_) AllReadyH.nil
    rotate_left
    · (simp only [List.getElem?_toArray, List.getElem?_cons_zero]; rfl)
    go_simp
    have hOL := ownL_lit (Wd.alloc (.cells #[.int .i64 lk, .int .i64 lg, .int .i64 la, .int .i64 lb, .int .i64 lc] 48)) Wd.heap.size HBZ.out.size
    rw [show (Wd.alloc (.cells #[.int .i64 lk, .int .i64 lg, .int .i64 la, .int .i64 lb, .int .i64 lc] 48)).heap.size = Wd.heap.size + 1 by simp] at hOL
    have HOL := Lib.hid hOL
    have HLB := Lib.hid (HLB.out.below (below_alloc (Below.refl _ _) (.cells #[] 48)))
    clear hOL
    have HBY := Lib.hid (HBZ.out.trans ((below_alloc (Below.refl _ (Wd.alloc (.cells #[.int .i64 lk, .int .i64 lg, .int .i64 la, .int .i64 lb, .int .i64 lc] 48))) (.cells #[] 48)).mono HBZ.out.size))
    refine hK.out _ _ (HOLD.out _ HBY.out) (fun hHeld => ?_)
    clear hK K
    (try simp only [Act.put, List.setIfInBounds_toArray, List.set_cons_zero, List.set_cons_succ])
    refine wpAnyH_ready (rs := [3]) (by kernel_rfl) (by simp) ?_
    refine AllReadyH.cons (o := ?_) ?_ (fun K hK => ?_) AllReadyH.nil
    rotate_left
    · (simp only [List.getElem?_toArray, List.getElem?_cons_zero, List.getElem?_cons_succ]; rfl)
    refine step_appL rfl _ _ rfl Wd.heap.size (.slice (some ⟨(Wd.heap.size + 1), 0, none⟩) 0 0) 0 [] rfl rfl HOL.out g o n c ls rfl HN.out.symm (HOLD.out _ HBY.out).1.els hn0 (by omega) HBY.out.size n (Nat.zero_add n) ?_
    intro g3 cap3 w3 hown hg
    have HO3 := Lib.hid hown
    have HB3 := Lib.hid (low_of HBY.out hg (fun g e => (HOL.out.lt e).1) HBY.out.size)
    have HLC := Lib.hid (HLB.out.keep (G := fun x => x = (Wd.heap.size + 1)) (Keep.grown hg (fun g e => (Option.some.inj e).symm)) (by omega))
    clear hown hg
    refine hK.out _ _ (HOLD.out _ HB3.out) (fun hHeld => ?_)
    clear hK K
    (try simp only [Act.put, List.setIfInBounds_toArray, List.set_cons_zero, List.set_cons_succ])
    refine wpAnyH_ready (rs := [6]) (by kernel_rfl) (by simp) ?_
    refine AllReadyH.cons (o := ?_) ?_ (fun K hK => ?_) AllReadyH.nil
    rotate_left
    · (simp only [List.getElem?_toArray, List.getElem?_cons_zero, List.getElem?_cons_succ]; rfl)
    refine step_appL rfl _ _ rfl Wd.heap.size (.slice (some ⟨g3, 0, none⟩) n cap3) n ([] ++ ls) rfl HN.out HO3.out Wd.heap.size 0 1 1 [⟨lk, lg, la, lb, lc⟩] rfl rfl (els_blk HLC.out) (by decide) (by omega) HB3.out.size (n + 1) rfl ?_
    intro g6 cap6 w6 hown hg
    have HO6 := Lib.hid hown
    have HB6 := Lib.hid (low_of HB3.out hg (fun g e => (HO3.out.lt e).1) HB3.out.size)
    clear hown hg
    refine hK.out _ _ (HOLD.out _ HB6.out) (fun hHeld => ?_)
    clear hK K
    (try simp only [Act.put, List.setIfInBounds_toArray, List.set_cons_zero, List.set_cons_succ])
    have hZ6 := HZd.out.low HB6.out (by omega)
    have z0 := hZ6.cell 0 (u := .slice (some ⟨g, o, none⟩) n c) rfl
    have zf := hZ6.frz 0
    have HZ6 := Lib.hid hZ6
    clear hZ6
    refine wpAnyH_take (i := 7) (oi := ?_) (v := ?_) ?_ (by kernel_rfl) (by kernel_rfl) (by kernel_rfl) ?_ (Or.inl ⟨?_, ?_⟩) hHeld ?_
    rotate_left 2
    · (simp only [List.getElem?_toArray, List.getElem?_cons_zero, List.getElem?_cons_succ]; rfl)
    · exact (fun _ _ _ h => h)
    · rfl
    · (intro w hSw; (try dsimp only at hSw); go_simp; try with_reducible rfl)
    (try simp only [Act.put, List.setIfInBounds_toArray, List.set_cons_zero, List.set_cons_succ])
    refine wpAnyH_ready (rs := [8]) (by kernel_rfl) (by simp) ?_
    refine AllReadyH.cons (o := ?_) ?_ (fun K hK => ?_) AllReadyH.nil
    rotate_left
    · (simp only [List.getElem?_toArray, List.getElem?_cons_zero, List.getElem?_cons_succ]; rfl)
    go_simp
    have hS6 := HOLD.out _ HB6.out
    have hA : Apart w2.heap.size w6 (w6.setCell ⟨w2.heap.size, 0, none⟩ (.slice (some ⟨g6, 0, none⟩) (n + 1) cap6)) := Apart.set_ _ _ _ _
    have HX8 := Lib.hid (show Cx (w6.setCell ⟨w2.heap.size, 0, none⟩ (.slice (some ⟨g6, 0, none⟩) (n + 1) cap6)) w.heap.size (.slice (some ⟨g, o, none⟩) n c) T ls from ⟨hS6.1.blk.apart hA (by omega), els_apart hS6.1.els hA (by omega)⟩)
    have HY8 := Lib.hid (hS6.2.apart hA (by omega))
    have HZ8 := Lib.hid (show Blk (w6.setCell ⟨w2.heap.size, 0, none⟩ (.slice (some ⟨g6, 0, none⟩) (n + 1) cap6)) w2.heap.size (cfc (.slice (some ⟨g6, 0, none⟩) (n + 1) cap6) T) 26 from HZ6.out.set_ 0 (.slice (some ⟨g6, 0, none⟩) (n + 1) cap6))
    have HE8 := Lib.hid ((HO6.out.keep (F := fun x => x = w2.heap.size) (Keep.set_ w6 w2.heap.size 0 (.slice (some ⟨g6, 0, none⟩) (n + 1) cap6) rfl) (fun g e => by rw [e]; omega)).els)
    have HB8 := Lib.hid (bel_set (HBd.out.trans (HB6.out.mono (by omega))) (by omega : w.heap.size ≤ w2.heap.size) 0 (.slice (some ⟨g6, 0, none⟩) (n + 1) cap6))
    clear hS6 hA z0 zf HZ6 HO6
    refine hK.out _ _ ⟨HX8.out, HY8.out⟩ (fun hHeld => ?_)
    clear hK K
    (try simp only [Act.put, List.setIfInBounds_toArray, List.set_cons_zero, List.set_cons_succ])
    refine wpAnyH_done (by kernel_rfl) ?_ _
    have hsz8 := HZ8.out.lt
    generalize w6.setCell ⟨w2.heap.size, 0, none⟩ (.slice (some ⟨g6, 0, none⟩) (n + 1) cap6) = w8 at *
    obtain ⟨c0, c1, c2, c3, c4, c5, c6, c7, c8, c9, c10⟩ := cells11 HX8.out
    have hY := HY8.out.below (below_alloc (Below.refl _ w8) (.cells #[.slice (some ⟨g, o, none⟩) n c, .int .i64 (T 0), .int .i64 (T 1), .int .i64 (T 2), .int .i64 (T 3), .int .i64 (T 4), .int .i64 (T 5), .int .i64 (T 6), .int .i64 (T 7), .int .i64 (T 8), .int .i64 (T 9)] 26))
    have y0 := hY.cell 0 (u := .int .i64 lk) rfl
    have y1 := hY.cell 1 (u := .int .i64 lg) rfl
    have y2 := hY.cell 2 (u := .int .i64 la) rfl
    have y3 := hY.cell 3 (u := .int .i64 lb) rfl
    have y4 := hY.cell 4 (u := .int .i64 lc) rfl
    have hL7 := blk_new (w8.alloc (.cells #[.slice (some ⟨w8.heap.size + 1, 0, none⟩) 1 1, .int .i64 (T 0), .int .i64 (T 1), .int .i64 (T 2), .int .i64 (T 3), .int .i64 (T 4), .int .i64 (T 5), .int .i64 (T 6), .int .i64 (T 7), .int .i64 (T 8), .int .i64 (T 9)] 26)) #[.int .i64 lk, .int .i64 lg, .int .i64 la, .int .i64 lb, .int .i64 lc] 48
    rw [show (w8.alloc (.cells #[.slice (some ⟨w8.heap.size + 1, 0, none⟩) 1 1, .int .i64 (T 0), .int .i64 (T 1), .int .i64 (T 2), .int .i64 (T 3), .int .i64 (T 4), .int .i64 (T 5), .int .i64 (T 6), .int .i64 (T 7), .int .i64 (T 8), .int .i64 (T 9)] 26)).heap.size = w8.heap.size + 1 by simp] at hL7
    have HT9 := Lib.hid (show Blk ((w8.alloc (.cells #[.slice (some ⟨w8.heap.size + 1, 0, none⟩) 1 1, .int .i64 (T 0), .int .i64 (T 1), .int .i64 (T 2), .int .i64 (T 3), .int .i64 (T 4), .int .i64 (T 5), .int .i64 (T 6), .int .i64 (T 7), .int .i64 (T 8), .int .i64 (T 9)] 26)).alloc (.cells #[.int .i64 lk, .int .i64 lg, .int .i64 la, .int .i64 lb, .int .i64 lc] 48)) w8.heap.size (cfc (.slice (some ⟨w8.heap.size + 1, 0, none⟩) 1 1) T) 26 from (blk_new w8 _ _).below (below_alloc (Below.refl _ _) _))
    have HL9 := Lib.hid (show Els RLn 5 ((w8.alloc (.cells #[.slice (some ⟨w8.heap.size + 1, 0, none⟩) 1 1, .int .i64 (T 0), .int .i64 (T 1), .int .i64 (T 2), .int .i64 (T 3), .int .i64 (T 4), .int .i64 (T 5), .int .i64 (T 6), .int .i64 (T 7), .int .i64 (T 8), .int .i64 (T 9)] 26)).alloc (.cells #[.int .i64 lk, .int .i64 lg, .int .i64 la, .int .i64 lb, .int .i64 lc] 48)) (.slice (some ⟨w8.heap.size + 1, 0, none⟩) 1 1) [⟨lk, lg, la, lb, lc⟩] from els_blk hL7)
    have hK9 : Below w8.heap.size w8 ((w8.alloc (.cells #[.slice (some ⟨w8.heap.size + 1, 0, none⟩) 1 1, .int .i64 (T 0), .int .i64 (T 1), .int .i64 (T 2), .int .i64 (T 3), .int .i64 (T 4), .int .i64 (T 5), .int .i64 (T 6), .int .i64 (T 7), .int .i64 (T 8), .int .i64 (T 9)] 26)).alloc (.cells #[.int .i64 lk, .int .i64 lg, .int .i64 la, .int .i64 lb, .int .i64 lc] 48)) := below_alloc (below_alloc (Below.refl _ w8) _) _
    have HX9 := Lib.hid (HX8.out.below hK9)
    have HZ9 := Lib.hid (HZ8.out.below hK9)
    have HE9 := Lib.hid (HE8.out.below (fun _ _ _ h => h.below hK9))
    have HB9 := Lib.hid (below_call HB8.out hK9)
    clear hY hL7 hK9 HX8 HY8 HZ8 HE8 HB8
    go_wp2_with fail
    clear c0 c1 c2 c3 c4 c5 c6 c7 c8 c9 c10 y0 y1 y2 y3 y4
    generalize ((w8.alloc (.cells #[.slice (some ⟨w8.heap.size + 1, 0, none⟩) 1 1, .int .i64 (T 0), .int .i64 (T 1), .int .i64 (T 2), .int .i64 (T 3), .int .i64 (T 4), .int .i64 (T 5), .int .i64 (T 6), .int .i64 (T 7), .int .i64 (T 8), .int .i64 (T 9)] 26)).alloc (.cells #[.int .i64 lk, .int .i64 lg, .int .i64 la, .int .i64 lb, .int .i64 lc] 48)) = w9 at *
    refine wp_region_held_drew (S := (fun w' => Blk w' w2.heap.size (cfc (.slice (some ⟨g6, 0, none⟩) (n + 1) cap6) T) 26 ∧ Blk w' w8.heap.size (cfc (.slice (some ⟨w8.heap.size + 1, 0, none⟩) 1 1) T) 26 ∧ Blk w' w.heap.size (cfc (.slice (some ⟨g, o, none⟩) n c) T) 26)) (by kernel_rfl) ⟨HZ9.out, HT9.out, HX9.out.blk⟩ (fun hHeld => ?_)
    refine wpAnyH_take (i := 0) (oi := ?_) (v := ?_) ?_ (by kernel_rfl) (by kernel_rfl) (by kernel_rfl) ?_ (Or.inl ⟨?_, ?_⟩) hHeld ?_
    rotate_left 2
    · (simp only [List.getElem?_toArray, List.getElem?_cons_zero]; rfl)
    · exact (fun _ _ _ h => h)
    · rfl
    · (intro w hSw; (try dsimp only at hSw); go_simp; try with_reducible rfl)
    (try simp only [Act.put, List.setIfInBounds_toArray, List.set_cons_zero, List.set_cons_succ])
    refine wpAnyH_take (i := 1) (oi := ?_) (v := ?_) ?_ (by kernel_rfl) (by kernel_rfl) (by kernel_rfl) ?_ (Or.inl ⟨?_, ?_⟩) hHeld ?_
    rotate_left 2
    · (simp only [List.getElem?_toArray, List.getElem?_cons_zero, List.getElem?_cons_succ]; rfl)
    · exact (fun _ _ _ h => h)
    · rfl
    · (intro w hSw; (try dsimp only at hSw); go_simp; try with_reducible rfl)
    (try simp only [Act.put, List.setIfInBounds_toArray, List.set_cons_zero, List.set_cons_succ])
    refine wpAnyH_take (i := 2) (oi := ?_) (v := ?_) ?_ (by kernel_rfl) (by kernel_rfl) (by kernel_rfl) ?_ (Or.inl ⟨?_, ?_⟩) hHeld ?_
    rotate_left 2
    · (simp only [List.getElem?_toArray, List.getElem?_cons_zero, List.getElem?_cons_succ]; rfl)
    · exact (fun _ _ _ h => h)
    · rfl
    · (intro w hSw; (try dsimp only at hSw); obtain ⟨c0, c1, c2, c3, c4, c5, c6, c7, c8, c9, c10⟩ := Blk.eleven hSw.1; go_simp; try with_reducible rfl)
    (try simp only [Act.put, List.setIfInBounds_toArray, List.set_cons_zero, List.set_cons_succ])
    refine wpAnyH_take (i := 5) (oi := ?_) (v := ?_) ?_ (by kernel_rfl) (by kernel_rfl) (by kernel_rfl) ?_ (Or.inl ⟨?_, ?_⟩) hHeld ?_
    rotate_left 2
    · (simp only [List.getElem?_toArray, List.getElem?_cons_zero, List.getElem?_cons_succ]; rfl)
    · exact (fun _ _ _ h => h)
    · rfl
    · (intro w hSw; (try dsimp only at hSw); obtain ⟨c0, c1, c2, c3, c4, c5, c6, c7, c8, c9, c10⟩ := Blk.eleven hSw.2.1; go_simp; try with_reducible rfl)
    (try simp only [Act.put, List.setIfInBounds_toArray, List.set_cons_zero, List.set_cons_succ])
    refine wpAnyH_ready (rs := [3]) (by kernel_rfl) (by simp) ?_
    refine AllReadyH.cons (o := ?_) ?_ (fun K hK => ?_) AllReadyH.nil
    rotate_left
    · (simp only [List.getElem?_toArray, List.getElem?_cons_zero, List.getElem?_cons_succ]; rfl)
    go_simp
    (with_reducible refine (HMORE.out _ _ _ (HE9.out.below (fun _ _ _ h => h.below (bel_drew _)))).mono ?_)
    rintro e w10 ⟨r10, rfl, hr, hb⟩
    obtain ⟨b10, rfl, _⟩ := hr.not (by decide)
    have HT10 := Lib.hid ((HT9.out.below (bel_drew _)).below hb)
    have HL10 := Lib.hid ((HL9.out.below (fun _ _ _ h => h.below (bel_drew _))).below (fun _ _ _ h => h.below hb))
    have HX10 := Lib.hid ((HX9.out.below (bel_drew _)).below hb)
    have HZ10 := Lib.hid ((HZ9.out.below (bel_drew _)).below hb)
    have HB10 := Lib.hid (below_call (below_call HB9.out (bel_drew _)) hb)
    clear hb hr HT9 HL9 HX9 HZ9 HB9
    go_wp2_with fail
    refine hK.out _ _ ⟨HZ10.out, HT10.out, HX10.out.blk⟩ (fun hHeld => ?_)
    clear hK K
    (try simp only [Act.put, List.setIfInBounds_toArray, List.set_cons_zero, List.set_cons_succ])
    refine wpAnyH_take (i := 4) (oi := ?_) (v := ?_) ?_ (by kernel_rfl) (by kernel_rfl) (by kernel_rfl) ?_ (Or.inl ⟨?_, ?_⟩) hHeld ?_
    rotate_left 2
    · (simp only [List.getElem?_toArray, List.getElem?_cons_zero, List.getElem?_cons_succ]; rfl)
    · exact (fun _ _ _ h => h)
    · rfl
    · (intro w hSw; (try dsimp only at hSw); go_simp; try with_reducible rfl)
    (try simp only [Act.put, List.setIfInBounds_toArray, List.set_cons_zero, List.set_cons_succ])
    refine wpAnyH_ready (rs := [6]) (by kernel_rfl) (by simp) ?_
    refine AllReadyH.cons (o := ?_) ?_ (fun K hK => ?_) AllReadyH.nil
    rotate_left
    · (simp only [List.getElem?_toArray, List.getElem?_cons_zero, List.getElem?_cons_succ]; rfl)
    go_simp
    (with_reducible refine (HONE.out _ _ HL10.out).mono ?_)
    rintro e w11 ⟨r11, rfl, hr, hb⟩
    obtain ⟨b11, rfl, _⟩ := hr.not (by decide)
    have HT11 := Lib.hid (HT10.out.below hb)
    have HX11 := Lib.hid (HX10.out.below hb)
    have HZ11 := Lib.hid (HZ10.out.below hb)
    have HB11 := Lib.hid (below_call HB10.out hb)
    clear hb hr HT10 HL10 HX10 HZ10 HB10
    go_wp2_with fail
    refine hK.out _ _ ⟨HZ11.out, HT11.out, HX11.out.blk⟩ (fun hHeld => ?_)
    clear hK K
    (try simp only [Act.put, List.setIfInBounds_toArray, List.set_cons_zero, List.set_cons_succ])
    refine wpAnyH_take (i := 7) (oi := ?_) (v := ?_) ?_ (by kernel_rfl) (by kernel_rfl) (by kernel_rfl) ?_ (Or.inl ⟨?_, ?_⟩) hHeld ?_
    rotate_left 2
    · (simp only [List.getElem?_toArray, List.getElem?_cons_zero, List.getElem?_cons_succ]; rfl)
    · exact (fun _ _ _ h => h)
    · rfl
    · (intro w hSw; (try dsimp only at hSw); go_simp; try with_reducible rfl)
    (try simp only [Act.put, List.setIfInBounds_toArray, List.set_cons_zero, List.set_cons_succ])
    refine wpAnyH_take (i := 8) (oi := ?_) (v := ?_) ?_ (by kernel_rfl) (by kernel_rfl) (by kernel_rfl) ?_ (Or.inl ⟨?_, ?_⟩) hHeld ?_
    rotate_left 2
    · (simp only [List.getElem?_toArray, List.getElem?_cons_zero, List.getElem?_cons_succ]; rfl)
    · exact (fun _ _ _ h => h)
    · rfl
    · (intro w hSw; (try dsimp only at hSw); go_simp; try with_reducible rfl)
    (try simp only [Act.put, List.setIfInBounds_toArray, List.set_cons_zero, List.set_cons_succ])
    refine wpAnyH_take (i := 9) (oi := ?_) (v := undef) ?_ (by kernel_rfl) (by kernel_rfl) (by kernel_rfl) ?_ (Or.inr ⟨?_, rfl⟩) hHeld ?_
    rotate_left 1
    · (simp only [List.getElem?_toArray, List.getElem?_cons_zero, List.getElem?_cons_succ]; rfl)
    · exact (fun _ _ _ h => h)
    · rfl
    (try simp only [Act.put, List.setIfInBounds_toArray, List.set_cons_zero, List.set_cons_succ])
    refine wpAnyH_take (i := 10) (oi := ?_) (v := undef) ?_ (by kernel_rfl) (by kernel_rfl) (by kernel_rfl) ?_ (Or.inr ⟨?_, rfl⟩) hHeld ?_
    rotate_left 1
    · (simp only [List.getElem?_toArray, List.getElem?_cons_zero, List.getElem?_cons_succ]; rfl)
    · exact (fun _ _ _ h => h)
    · rfl
    (try simp only [Act.put, List.setIfInBounds_toArray, List.set_cons_zero, List.set_cons_succ])
    refine wpAnyH_take (i := 11) (oi := ?_) (v := undef) ?_ (by kernel_rfl) (by kernel_rfl) (by kernel_rfl) ?_ (Or.inr ⟨?_, rfl⟩) hHeld ?_
    rotate_left 1
    · (simp only [List.getElem?_toArray, List.getElem?_cons_zero, List.getElem?_cons_succ]; rfl)
    · exact (fun _ _ _ h => h)
    · rfl
    (try simp only [Act.put, List.setIfInBounds_toArray, List.set_cons_zero, List.set_cons_succ])
    refine wpAnyH_take (i := 12) (oi := ?_) (v := undef) ?_ (by kernel_rfl) (by kernel_rfl) (by kernel_rfl) ?_ (Or.inr ⟨?_, rfl⟩) hHeld ?_
    rotate_left 1
    · (simp only [List.getElem?_toArray, List.getElem?_cons_zero, List.getElem?_cons_succ]; rfl)
    · exact (fun _ _ _ h => h)
    · rfl
    (try simp only [Act.put, List.setIfInBounds_toArray, List.set_cons_zero, List.set_cons_succ])
    refine wpAnyH_take (i := 13) (oi := ?_) (v := ?_) ?_ (by kernel_rfl) (by kernel_rfl) (by kernel_rfl) ?_ (Or.inl ⟨?_, ?_⟩) hHeld ?_
    rotate_left 2
    · (simp only [List.getElem?_toArray, List.getElem?_cons_zero, List.getElem?_cons_succ]; rfl)
    · exact (fun _ _ _ h => h)
    · rfl
    · (intro w hSw; (try dsimp only at hSw); go_simp; try with_reducible rfl)
    (try simp only [Act.put, List.setIfInBounds_toArray, List.set_cons_zero, List.set_cons_succ])
    refine wpAnyH_take (i := 14) (oi := ?_) (v := ?_) ?_ (by kernel_rfl) (by kernel_rfl) (by kernel_rfl) ?_ (Or.inl ⟨?_, ?_⟩) hHeld ?_
    rotate_left 2
    · (simp only [List.getElem?_toArray, List.getElem?_cons_zero, List.getElem?_cons_succ]; rfl)
    · exact (fun _ _ _ h => h)
    · rfl
    · (intro w hSw; (try dsimp only at hSw); go_simp; try with_reducible rfl)
    (try simp only [Act.put, List.setIfInBounds_toArray, List.set_cons_zero, List.set_cons_succ])
    refine wpAnyH_take (i := 15) (oi := ?_) (v := ?_) ?_ (by kernel_rfl) (by kernel_rfl) (by kernel_rfl) ?_ (Or.inl ⟨?_, ?_⟩) hHeld ?_
    rotate_left 2
    · (simp only [List.getElem?_toArray, List.getElem?_cons_zero, List.getElem?_cons_succ]; rfl)
    · exact (fun _ _ _ h => h)
    · rfl
    · (intro w hSw; (try dsimp only at hSw); go_simp; try with_reducible rfl)
    (try simp only [Act.put, List.setIfInBounds_toArray, List.set_cons_zero, List.set_cons_succ])
    refine wpAnyH_take (i := 16) (oi := ?_) (v := ?_) ?_ (by kernel_rfl) (by kernel_rfl) (by kernel_rfl) ?_ (Or.inl ⟨?_, ?_⟩) hHeld ?_
    rotate_left 2
    · (simp only [List.getElem?_toArray, List.getElem?_cons_zero, List.getElem?_cons_succ]; rfl)
    · exact (fun _ _ _ h => h)
    · rfl
    · (intro w hSw; (try dsimp only at hSw); go_simp; try with_reducible rfl)
    (try simp only [Act.put, List.setIfInBounds_toArray, List.set_cons_zero, List.set_cons_succ])
    refine wpAnyH_done (by kernel_rfl) ?_ _
    go_wp2_with fail
    go_ret
    exact ⟨rfl, HB11.out⟩

theorem lawLines_any (u : Value) (T : Nat → Int) (ls : List Ln) (l : Ln) (w : World) (hv : Els RLn 5 w u ls) :
    Calls Tryd.prog 6 #[.agg (cfc u T), .agg #[.int .i64 l.k, .int .i64 l.g, .int .i64 l.a, .int .i64 l.b, .int .i64 l.c]] w fun e w' => e = .returned (.bool true) ∧ Below w.heap.size w w' := by
  obtain ⟨a, c, e⟩ := hv.len
  subst e
  obtain ⟨lk, lg, la, lb, lc⟩ := l
  by_cases h : 20 < ls.length ∨ (ls.length ≤ 20 ∧ ¬ OkC T ls)
  · exact lines_head a _ c T ls lk lg la lb lc h w hv
  · have hok : OkC T ls := by
      refine Decidable.byContradiction fun hno => h (.inr ⟨by omega, hno⟩)
    obtain ⟨y, hy⟩ : ∃ y, ls[0]? = some y := ⟨_, List.getElem?_eq_getElem (by have := hok.1; omega)⟩
    obtain ⟨g, o, ea, _⟩ := hv.at_ hy
    subst ea
    by_cases hl : OkL ⟨lk, lg, la, lb, lc⟩
    · by_cases h8 : ls.length < 8
      · exact lines_yes g o _ c T ls lk lg la lb lc rfl hok hl h8 w hv
      · exact lines_full g o _ c T ls lk lg la lb lc rfl hok hl (by have := hok.1; omega) w hv
    · exact lines_bad g o _ c T ls lk lg la lb lc rfl hok hl w hv
end Go.Proofs.YthjpacdhaeoecaaDoor

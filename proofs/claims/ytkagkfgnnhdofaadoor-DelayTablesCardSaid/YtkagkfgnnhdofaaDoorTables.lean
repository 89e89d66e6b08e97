/-
  The walk of crossbucklaw09.DelayTables: true, whatever it is given.
-/
import Derived.Test.YtkagkfgnnhdofaaDoorSmall
import Derived.Test.YtkagkfgnnhdofaaDoorDlRof
import Derived.Test.YtkagkfgnnhdofaaDoorDlRtab
import Derived.Test.YtkagkfgnnhdofaaDoorDlRest
import Derived.Test.YtkagkfgnnhdofaaDoorCfOpen
import Derived.Deep.RegionHeld3
namespace Go.Proofs.YtkagkfgnnhdofaaDoor
open Go.RowKit

/-- A line and a crossing in blocks of their own. -/
def Lcx (w : World) (B : Nat) (l : Ln) (u : Value) (T : Nat → Int) (ls : List Ln) : Prop := Blk w B (lnc l) 34 ∧ Blk w (B + 1) (cfc u T) 39 ∧ Els RLn 5 w u ls
theorem Lcx.below {w w' : World} {B : Nat} {l : Ln} {u : Value} {T : Nat → Int} {ls : List Ln} (h : Lcx w B l u T ls) (hb : Below w.heap.size w w') : Lcx w' B l u T ls :=
  ⟨h.1.below hb, h.2.1.below hb, h.2.2.below (fun _ _ _ h => h.below hb)⟩
theorem lcx_new (w : World) (l : Ln) (u : Value) (T : Nat → Int) (ls : List Ln) (h : Els RLn 5 w u ls) :
    Lcx ((w.alloc (.cells (lnc l) 34)).alloc (.cells (cfc u T) 39)) w.heap.size l u T ls ∧ Below w.heap.size w ((w.alloc (.cells (lnc l) 34)).alloc (.cells (cfc u T) 39)) := by
  have hb := below_alloc (below_alloc (Below.refl _ w) (.cells (lnc l) 34)) (.cells (cfc u T) 39)
  refine ⟨⟨(blk_new w _ _).below (below_alloc (Below.refl _ _) _), ?_, h.below (fun _ _ _ h => h.below hb)⟩, hb⟩
  have := blk_new (w.alloc (.cells (lnc l) 34)) (cfc u T) 39
  rw [show (w.alloc (.cells (lnc l) 34)).heap.size = w.heap.size + 1 by simp] at this
  exact this
/-- The cells of the line. -/
theorem Lcx.line {w : World} {B : Nat} {k g a b c : Int} {u : Value} {T : Nat → Int} {ls : List Ln} (h : Lcx w B ⟨k, g, a, b, c⟩ u T ls) : w.cell? ⟨B, 0, none⟩ = some (.int .i64 k) ∧ w.cell? ⟨B, 1, none⟩ = some (.int .i64 g) ∧ w.cell? ⟨B, 2, none⟩ = some (.int .i64 a) ∧ w.cell? ⟨B, 3, none⟩ = some (.int .i64 b) ∧ w.cell? ⟨B, 4, none⟩ = some (.int .i64 c) :=
  ⟨h.1.cell 0 rfl, h.1.cell 1 rfl, h.1.cell 2 rfl, h.1.cell 3 rfl, h.1.cell 4 rfl⟩
theorem Lcx.cfg {w : World} {B : Nat} {l : Ln} {u : Value} {T : Nat → Int} {ls : List Ln} (h : Lcx w B l u T ls) : w.cell? ⟨B + 1, 0, none⟩ = some u ∧ w.cell? ⟨B + 1, 1, none⟩ = some (.int .i64 (T 0)) ∧ w.cell? ⟨B + 1, 2, none⟩ = some (.int .i64 (T 1)) ∧ w.cell? ⟨B + 1, 3, none⟩ = some (.int .i64 (T 2)) ∧ w.cell? ⟨B + 1, 4, none⟩ = some (.int .i64 (T 3)) ∧ w.cell? ⟨B + 1, 5, none⟩ = some (.int .i64 (T 4)) ∧ w.cell? ⟨B + 1, 6, none⟩ = some (.int .i64 (T 5)) ∧ w.cell? ⟨B + 1, 7, none⟩ = some (.int .i64 (T 6)) ∧ w.cell? ⟨B + 1, 8, none⟩ = some (.int .i64 (T 7)) ∧ w.cell? ⟨B + 1, 9, none⟩ = some (.int .i64 (T 8)) ∧ w.cell? ⟨B + 1, 10, none⟩ = some (.int .i64 (T 9)) := Blk.eleven h.2.1
theorem tabs_le (T : Nat → Int) (ls : List Ln) : (if OkC T ls then tab T ls else []).length ≤ ls.length := by
  split
  · rw [tab_length]; exact Nat.le_refl _
  · exact Nat.zero_le _

set_option maxHeartbeats 2000000 in
theorem tables_long (k g x b c warn : Int) (a : Option Addr) (n cv : Nat) (T : Nat → Int) (ls : List Ln) (w : World) (hv : Els RLn 5 w (.slice a n cv) ls) (hl : 20 < n) :
    Calls Tryd.prog 4 #[.agg #[.int .i64 k, .int .i64 g, .int .i64 x, .int .i64 b, .int .i64 c], .int .i64 warn, .agg (cfc (.slice a n cv) T)] w fun e w' => e = .returned (.bool true) ∧ Below w.heap.size w w' := by
  obtain ⟨ht, hb⟩ := lcx_new w ⟨k, g, x, b, c⟩ _ T _ hv
  have HT := Lib.hid ht
  have HB := Lib.hid hb
  have q1 : decide ((20 : Int) < (n : Int)) = true := decide_eq_true (by omega)
  clear ht hb hv hl
  unfold cfc at *
  unfold lnc at *
  go_enter Tryd.func4, Tryd.ntmps4
  go_wp2_with fail
  (with_reducible refine (small_true _).mono ?_)
  rintro e w1 ⟨rfl, hb⟩
  have HT1 := Lib.hid (HT.out.below hb)
  have HB1 := Lib.hid (below_call HB.out hb)
  have c0 := HT1.out.2.1.cell 0 (u := .slice a n cv) rfl
  clear hb HB HT
  go_wp2_with fail
  go_ret
  exact ⟨rfl, HB1.out⟩

set_option maxHeartbeats 8000000 in
set_option maxRecDepth 10000 in
theorem tables_main (k g x b c warn : Int) (hk : Rng k) (hw : Rng warn) (a : Option Addr) (n cv : Nat) (T : Nat → Int) (ls : List Ln) (w : World) (hv : Els RLn 5 w (.slice a n cv) ls) (hn : n ≤ 20) (hln : ls.length = n) :
    Calls Tryd.prog 4 #[.agg #[.int .i64 k, .int .i64 g, .int .i64 x, .int .i64 b, .int .i64 c], .int .i64 warn, .agg (cfc (.slice a n cv) T)] w fun e w' => e = .returned (.bool true) ∧ Below w.heap.size w w' := by
  obtain ⟨ht, hb⟩ := lcx_new w ⟨k, g, x, b, c⟩ _ T _ hv
  have HT := Lib.hid ht
  have HB := Lib.hid hb
  have q1 : decide ((20 : Int) < (n : Int)) = false := decide_eq_false (by omega)
  obtain ⟨k1, hk1⟩ : ∃ k : Int, k = if OkC T ls then 0 else 6 := ⟨_, rfl⟩
  obtain ⟨n1, hn1⟩ : ∃ k : Int, k = if OkC T ls then bnd T else 0 := ⟨_, rfl⟩
  obtain ⟨M, hM⟩ : ∃ k : List (Nat → Int), k = if OkC T ls then tab T ls else [] := ⟨_, rfl⟩
  have hl1 : ls.length ≤ 1000 := by omega
  have hl2 : M.length ≤ 1000 := by rw [hM]; have := tabs_le T ls; omega
  have H1 := Lib.hid (fun w h => table_any (.slice a n cv) T ls k1 hk1 M hM w h)
  have H2 := Lib.hid (fun w h => rtable_any (.slice a n cv) T ls k1 hk1 M hM w h hl1)
  have H3 := Lib.hid (fun w h => bound_any (.slice a n cv) T ls k1 hk1 n1 hn1 w h)
  have H4 := Lib.hid (fun w h => rbound_any (.slice a n cv) T ls k1 hk1 n1 hn1 w h hl1)
  have H5 := Lib.hid (fun w => of_any ⟨k, g, x, b, c⟩ warn hk hw w)
  have H6 := Lib.hid (fun w => rof_any ⟨k, g, x, b, c⟩ warn hk hw w)
  have H7 := Lib.hid (fun a c a' c' w h h' => tsame_any a a' M.length c c' M rfl hl2 w h h')
  obtain ⟨f, hf⟩ : ∃ f, f = ofs ⟨k, g, x, b, c⟩ warn := ⟨_, rfl⟩
  rw [← hf] at H5 H6
  have qf := eql_arr3 (f 0) (f 1) (f 2) (f 0) (f 1) (f 2) true (by simp)
  clear ht hb hv hn hln hk1 hn1 hM hl1 hl2 hk hw hf
  unfold cfc at *
  unfold lnc at *
  unfold tr3 at *
  dsimp only at H5 H6
  go_enter Tryd.func4, Tryd.ntmps4
  go_wp2_with fail
  (with_reducible refine (small_true _).mono ?_)
  rintro e w1 ⟨rfl, hb⟩
  have HT1 := Lib.hid (HT.out.below hb)
  have HB1 := Lib.hid (below_call HB.out hb)
  obtain ⟨c0, c1, c2, c3, c4, c5, c6, c7, c8, c9, c10⟩ := HT1.out.cfg
  have hv1 := HT1.out.2.2
  clear hb HB HT
  go_wp2_with fail
  (with_reducible refine (H1.out _ hv1).mono ?_)
  rintro e w2 ⟨a2, k2, r2, rfl, hE, he, hb⟩
  have HX2 := Lib.hid hE
  have HE2 := Lib.hid he
  have HT2 := Lib.hid (HT1.out.below hb)
  have HB2 := Lib.hid (below_call HB1.out hb)
  clear hb hE he hv1 HT1 HB1 c0 c1 c2 c3 c4 c5 c6 c7 c8 c9 c10 H1
  obtain ⟨c0, c1, c2, c3, c4, c5, c6, c7, c8, c9, c10⟩ := HT2.out.cfg
  have hv1 := HT2.out.2.2
  go_wp2_with fail
  (with_reducible refine (H2.out _ hv1).mono ?_)
  rintro e w3 ⟨a3, k3, rfl, hE, hb⟩
  have HY3 := Lib.hid hE
  have HX3 := Lib.hid (HX2.out.below (fun _ _ _ h => h.below hb))
  have HE3 := Lib.hid (HE2.out.below hb)
  have HT3 := Lib.hid (HT2.out.below hb)
  have HB3 := Lib.hid (below_call HB2.out hb)
  clear hb hE hv1 HX2 HE2 HT2 HB2 c0 c1 c2 c3 c4 c5 c6 c7 c8 c9 c10 H2
  obtain ⟨c0, c1, c2, c3, c4, c5, c6, c7, c8, c9, c10⟩ := HT3.out.cfg
  have hv1 := HT3.out.2.2
  go_wp2_with fail
  (with_reducible refine (H3.out _ hv1).mono ?_)
  rintro e w4 ⟨r4, rfl, he, hb⟩
  have HF4 := Lib.hid he
  have HY4 := Lib.hid (HY3.out.below (fun _ _ _ h => h.below hb))
  have HX4 := Lib.hid (HX3.out.below (fun _ _ _ h => h.below hb))
  have HE4 := Lib.hid (HE3.out.below hb)
  have HT4 := Lib.hid (HT3.out.below hb)
  have HB4 := Lib.hid (below_call HB3.out hb)
  clear hb he hv1 HY3 HX3 HE3 HT3 HB3 c0 c1 c2 c3 c4 c5 c6 c7 c8 c9 c10 H3
  obtain ⟨c0, c1, c2, c3, c4, c5, c6, c7, c8, c9, c10⟩ := HT4.out.cfg
  have hv1 := HT4.out.2.2
  go_wp2_with fail
  (with_reducible refine (H4.out _ hv1).mono ?_)
  rintro e w5 ⟨rfl, hb⟩
  have HF5 := Lib.hid ((HF4.out.below hb).below (bel_drew _))
  have HY5 := Lib.hid ((HY4.out.below (fun _ _ _ h => h.below hb)).below (fun _ _ _ h => h.below (bel_drew _)))
  have HX5 := Lib.hid ((HX4.out.below (fun _ _ _ h => h.below hb)).below (fun _ _ _ h => h.below (bel_drew _)))
  have HE5 := Lib.hid ((HE4.out.below hb).below (bel_drew _))
  have HT5 := Lib.hid ((HT4.out.below hb).below (bel_drew _))
  have HB5 := Lib.hid (below_call (below_call HB4.out hb) (bel_drew _))
  clear hb hv1 HF4 HY4 HX4 HE4 HT4 HB4 c0 c1 c2 c3 c4 c5 c6 c7 c8 c9 c10 H4
  go_wp2_with fail
  refine wp_region_held_drew (S := (fun w' => Lcx w' w.heap.size ⟨k, g, x, b, c⟩ (.slice a n cv) T ls)) (by kernel_rfl) HT5.out (fun hHeld => ?_)
  refine wpAnyH_take (i := 0) (oi := ?_) (v := ?_) ?_ (by kernel_rfl) (by kernel_rfl) (by kernel_rfl) ?_ (Or.inl ⟨?_, ?_⟩) hHeld ?_
  rotate_left 2
  · (simp only [List.getElem?_toArray, List.getElem?_cons_zero]; rfl)
  · exact (fun _ _ _ h => h)
  · rfl
  · (intro w hSw; (try dsimp only at hSw); go_simp; try with_reducible rfl)
  (try simp only [Act.put, List.setIfInBounds_toArray, List.set_cons_zero, List.set_cons_succ])
  refine wpAnyH_take (i := 1) (oi := ?_) (v := ?_) ?_ (by kernel_rfl) (by kernel_rfl) (by kernel_rfl) ?_ (Or.inl ⟨?_, ?_⟩) hHeld ?_
  rotate_left 2
  · (simp only [List.getElem?_toArray, List.getElem?_cons_zero, List.getElem?_cons_succ]; rfl)
  · exact (fun _ _ _ h => h)
  · rfl
  · (intro w hSw; (try dsimp only at hSw); go_simp; try with_reducible rfl)
  (try simp only [Act.put, List.setIfInBounds_toArray, List.set_cons_zero, List.set_cons_succ])
  refine wpAnyH_take (i := 2) (oi := ?_) (v := ?_) ?_ (by kernel_rfl) (by kernel_rfl) (by kernel_rfl) ?_ (Or.inl ⟨?_, ?_⟩) hHeld ?_
  rotate_left 2
  · (simp only [List.getElem?_toArray, List.getElem?_cons_zero, List.getElem?_cons_succ]; rfl)
  · exact (fun _ _ _ h => h)
  · rfl
  · (intro w hSw; (try dsimp only at hSw); obtain ⟨e0, e1, e2, e3, e4⟩ := hSw.line; go_simp; try with_reducible rfl)
  (try simp only [Act.put, List.setIfInBounds_toArray, List.set_cons_zero, List.set_cons_succ])
  refine wpAnyH_take (i := 3) (oi := ?_) (v := ?_) ?_ (by kernel_rfl) (by kernel_rfl) (by kernel_rfl) ?_ (Or.inl ⟨?_, ?_⟩) hHeld ?_
  rotate_left 2
  · (simp only [List.getElem?_toArray, List.getElem?_cons_zero, List.getElem?_cons_succ]; rfl)
  · exact (fun _ _ _ h => h)
  · rfl
  · (intro w hSw; (try dsimp only at hSw); go_simp; try with_reducible rfl)
  (try simp only [Act.put, List.setIfInBounds_toArray, List.set_cons_zero, List.set_cons_succ])
  refine wpAnyH_take (i := 5) (oi := ?_) (v := ?_) ?_ (by kernel_rfl) (by kernel_rfl) (by kernel_rfl) ?_ (Or.inl ⟨?_, ?_⟩) hHeld ?_
  rotate_left 2
  · (simp only [List.getElem?_toArray, List.getElem?_cons_zero, List.getElem?_cons_succ]; rfl)
  · exact (fun _ _ _ h => h)
  · rfl
  · (intro w hSw; (try dsimp only at hSw); obtain ⟨e0, e1, e2, e3, e4⟩ := hSw.line; go_simp; try with_reducible rfl)
  (try simp only [Act.put, List.setIfInBounds_toArray, List.set_cons_zero, List.set_cons_succ])
  refine wpAnyH_take (i := 6) (oi := ?_) (v := ?_) ?_ (by kernel_rfl) (by kernel_rfl) (by kernel_rfl) ?_ (Or.inl ⟨?_, ?_⟩) hHeld ?_
  rotate_left 2
  · (simp only [List.getElem?_toArray, List.getElem?_cons_zero, List.getElem?_cons_succ]; rfl)
  · exact (fun _ _ _ h => h)
  · rfl
  · (intro w hSw; (try dsimp only at hSw); go_simp; try with_reducible rfl)
  (try simp only [Act.put, List.setIfInBounds_toArray, List.set_cons_zero, List.set_cons_succ])
  refine wpAnyH_ready (rs := [4]) (by kernel_rfl) (by simp) ?_
  refine AllReadyH.cons (o := ?_) ?_ (fun K hK => ?_) AllReadyH.nil
  rotate_left
  · (simp only [List.getElem?_toArray, List.getElem?_cons_zero, List.getElem?_cons_succ]; rfl)
  go_simp
  (with_reducible refine (H5.out _).mono ?_)
  rintro e w6 ⟨rfl, hb⟩
  have HF6 := Lib.hid (HF5.out.below hb)
  have HY6 := Lib.hid (HY5.out.below (fun _ _ _ h => h.below hb))
  have HX6 := Lib.hid (HX5.out.below (fun _ _ _ h => h.below hb))
  have HE6 := Lib.hid (HE5.out.below hb)
  have HT6 := Lib.hid (HT5.out.below hb)
  have HB6 := Lib.hid (below_call HB5.out hb)
  clear hb HF5 HY5 HX5 HE5 HT5 HB5
  go_wp2_with fail
  refine hK.out _ _ HT6.out (fun hHeld => ?_)
  clear hK K
  (try simp only [Act.put, List.setIfInBounds_toArray, List.set_cons_zero, List.set_cons_succ])
  refine wpAnyH_ready (rs := [7]) (by kernel_rfl) (by simp) ?_
  refine AllReadyH.cons (o := ?_) ?_ (fun K hK => ?_) AllReadyH.nil
  rotate_left
  · (simp only [List.getElem?_toArray, List.getElem?_cons_zero, List.getElem?_cons_succ]; rfl)
  go_simp
  (with_reducible refine (H6.out _).mono ?_)
  rintro e w7 ⟨rfl, hb⟩
  have HF7 := Lib.hid (HF6.out.below hb)
  have HY7 := Lib.hid (HY6.out.below (fun _ _ _ h => h.below hb))
  have HX7 := Lib.hid (HX6.out.below (fun _ _ _ h => h.below hb))
  have HE7 := Lib.hid (HE6.out.below hb)
  have HT7 := Lib.hid (HT6.out.below hb)
  have HB7 := Lib.hid (below_call HB6.out hb)
  clear hb HF6 HY6 HX6 HE6 HT6 HB6
  go_wp2_with fail
  refine hK.out _ _ HT7.out (fun hHeld => ?_)
  clear hK K
  (try simp only [Act.put, List.setIfInBounds_toArray, List.set_cons_zero, List.set_cons_succ])
  refine wpAnyH_take (i := 8) (oi := ?_) (v := ?_) ?_ (by kernel_rfl) (by kernel_rfl) (by kernel_rfl) ?_ (Or.inl ⟨?_, ?_⟩) hHeld ?_
  rotate_left 2
  · (simp only [List.getElem?_toArray, List.getElem?_cons_zero, List.getElem?_cons_succ]; rfl)
  · exact (fun _ _ _ h => h)
  · rfl
  · (intro w hSw; (try dsimp only at hSw); go_simp; try with_reducible rfl)
  (try simp only [Act.put, List.setIfInBounds_toArray, List.set_cons_zero, List.set_cons_succ])
  refine wpAnyH_take (i := 9) (oi := ?_) (v := ?_) ?_ (by kernel_rfl) (by kernel_rfl) (by kernel_rfl) ?_ (Or.inl ⟨?_, ?_⟩) hHeld ?_
  rotate_left 2
  · (simp only [List.getElem?_toArray, List.getElem?_cons_zero, List.getElem?_cons_succ]; rfl)
  · exact (fun _ _ _ h => h)
  · rfl
  · (intro w hSw; (try dsimp only at hSw); go_simp; try with_reducible rfl)
  (try simp only [Act.put, List.setIfInBounds_toArray, List.set_cons_zero, List.set_cons_succ])
  refine wpAnyH_take (i := 10) (oi := ?_) (v := ?_) ?_ (by kernel_rfl) (by kernel_rfl) (by kernel_rfl) ?_ (Or.inl ⟨?_, ?_⟩) hHeld ?_
  rotate_left 2
  · (simp only [List.getElem?_toArray, List.getElem?_cons_zero, List.getElem?_cons_succ]; rfl)
  · exact (fun _ _ _ h => h)
  · rfl
  · (intro w hSw; (try dsimp only at hSw); go_simp; try with_reducible rfl)
  (try simp only [Act.put, List.setIfInBounds_toArray, List.set_cons_zero, List.set_cons_succ])
  refine wpAnyH_take (i := 11) (oi := ?_) (v := ?_) ?_ (by kernel_rfl) (by kernel_rfl) (by kernel_rfl) ?_ (Or.inl ⟨?_, ?_⟩) hHeld ?_
  rotate_left 2
  · (simp only [List.getElem?_toArray, List.getElem?_cons_zero, List.getElem?_cons_succ]; rfl)
  · exact (fun _ _ _ h => h)
  · rfl
  · (intro w hSw; (try dsimp only at hSw); go_simp; try with_reducible rfl)
  (try simp only [Act.put, List.setIfInBounds_toArray, List.set_cons_zero, List.set_cons_succ])
  refine wpAnyH_take (i := 12) (oi := ?_) (v := ?_) ?_ (by kernel_rfl) (by kernel_rfl) (by kernel_rfl) ?_ (Or.inl ⟨?_, ?_⟩) hHeld ?_
  rotate_left 2
  · (simp only [List.getElem?_toArray, List.getElem?_cons_zero, List.getElem?_cons_succ]; rfl)
  · exact (fun _ _ _ h => h)
  · rfl
  · (intro w hSw; (try dsimp only at hSw); go_simp; try with_reducible rfl)
  (try simp only [Act.put, List.setIfInBounds_toArray, List.set_cons_zero, List.set_cons_succ])
  refine wpAnyH_ready (rs := [13]) (by kernel_rfl) (by simp) ?_
  refine AllReadyH.cons (o := ?_) ?_ (fun K hK => ?_) AllReadyH.nil
  rotate_left
  · (simp only [List.getElem?_toArray, List.getElem?_cons_zero, List.getElem?_cons_succ]; rfl)
  go_simp
  (with_reducible refine (H7.out _ _ _ _ _ HX7.out HY7.out).mono ?_)
  rintro e w8 ⟨rfl, hb⟩
  have HF8 := Lib.hid (HF7.out.below hb)
  have HE8 := Lib.hid (HE7.out.below hb)
  have HT8 := Lib.hid (HT7.out.below hb)
  have HB8 := Lib.hid (below_call HB7.out hb)
  clear hb HF7 HE7 HT7 HB7
  go_wp2_with fail
  refine hK.out _ _ HT8.out (fun hHeld => ?_)
  clear hK K
  (try simp only [Act.put, List.setIfInBounds_toArray, List.set_cons_zero, List.set_cons_succ])
  refine wpAnyH_take (i := 14) (oi := ?_) (v := ?_) ?_ (by kernel_rfl) (by kernel_rfl) (by kernel_rfl) ?_ (Or.inl ⟨?_, ?_⟩) hHeld ?_
  rotate_left 2
  · (simp only [List.getElem?_toArray, List.getElem?_cons_zero, List.getElem?_cons_succ]; rfl)
  · exact (fun _ _ _ h => h)
  · rfl
  · (intro w hSw; (try dsimp only at hSw); go_simp; try with_reducible rfl)
  (try simp only [Act.put, List.setIfInBounds_toArray, List.set_cons_zero, List.set_cons_succ])
  refine wpAnyH_take (i := 15) (oi := ?_) (v := ?_) ?_ (by kernel_rfl) (by kernel_rfl) (by kernel_rfl) ?_ (Or.inl ⟨?_, ?_⟩) hHeld ?_
  rotate_left 2
  · (simp only [List.getElem?_toArray, List.getElem?_cons_zero, List.getElem?_cons_succ]; rfl)
  · exact (fun _ _ _ h => h)
  · rfl
  · (intro w hSw; (try dsimp only at hSw); go_simp; try with_reducible rfl)
  (try simp only [Act.put, List.setIfInBounds_toArray, List.set_cons_zero, List.set_cons_succ])
  refine wpAnyH_take (i := 16) (oi := ?_) (v := ?_) ?_ (by kernel_rfl) (by kernel_rfl) (by kernel_rfl) ?_ (Or.inl ⟨?_, ?_⟩) hHeld ?_
  rotate_left 2
  · (simp only [List.getElem?_toArray, List.getElem?_cons_zero, List.getElem?_cons_succ]; rfl)
  · exact (fun _ _ _ h => h)
  · rfl
  · (intro w hSw; (try dsimp only at hSw); go_simp; try with_reducible rfl)
  (try simp only [Act.put, List.setIfInBounds_toArray, List.set_cons_zero, List.set_cons_succ])
  refine wpAnyH_take (i := 18) (oi := ?_) (v := ?_) ?_ (by kernel_rfl) (by kernel_rfl) (by kernel_rfl) ?_ (Or.inl ⟨?_, ?_⟩) hHeld ?_
  rotate_left 2
  · (simp only [List.getElem?_toArray, List.getElem?_cons_zero, List.getElem?_cons_succ]; rfl)
  · exact (fun _ _ _ h => h)
  · rfl
  · (intro w hSw; (try dsimp only at hSw); go_simp; try with_reducible rfl)
  (try simp only [Act.put, List.setIfInBounds_toArray, List.set_cons_zero, List.set_cons_succ])
  refine wpAnyH_ready (rs := [17]) (by kernel_rfl) (by simp) ?_
  refine AllReadyH.cons (o := ?_) ?_ (fun K hK => ?_) AllReadyH.nil
  rotate_left
  · (simp only [List.getElem?_toArray, List.getElem?_cons_zero, List.getElem?_cons_succ]; rfl)
  go_simp
  (with_reducible refine (code_err HE8.out).mono ?_)
  rintro e w9 ⟨rfl, rfl⟩
  go_wp2_with fail
  refine hK.out _ _ HT8.out (fun hHeld => ?_)
  clear hK K
  (try simp only [Act.put, List.setIfInBounds_toArray, List.set_cons_zero, List.set_cons_succ])
  refine wpAnyH_take (i := 19) (oi := ?_) (v := ?_) ?_ (by kernel_rfl) (by kernel_rfl) (by kernel_rfl) ?_ (Or.inl ⟨?_, ?_⟩) hHeld ?_
  rotate_left 2
  · (simp only [List.getElem?_toArray, List.getElem?_cons_zero, List.getElem?_cons_succ]; rfl)
  · exact (fun _ _ _ h => h)
  · rfl
  · (intro w hSw; (try dsimp only at hSw); go_simp; try with_reducible rfl)
  (try simp only [Act.put, List.setIfInBounds_toArray, List.set_cons_zero, List.set_cons_succ])
  refine wpAnyH_take (i := 20) (oi := ?_) (v := ?_) ?_ (by kernel_rfl) (by kernel_rfl) (by kernel_rfl) ?_ (Or.inl ⟨?_, ?_⟩) hHeld ?_
  rotate_left 2
  · (simp only [List.getElem?_toArray, List.getElem?_cons_zero, List.getElem?_cons_succ]; rfl)
  · exact (fun _ _ _ h => h)
  · rfl
  · (intro w hSw; (try dsimp only at hSw); go_simp; try with_reducible rfl)
  (try simp only [Act.put, List.setIfInBounds_toArray, List.set_cons_zero, List.set_cons_succ])
  refine wpAnyH_take (i := 21) (oi := ?_) (v := ?_) ?_ (by kernel_rfl) (by kernel_rfl) (by kernel_rfl) ?_ (Or.inl ⟨?_, ?_⟩) hHeld ?_
  rotate_left 2
  · (simp only [List.getElem?_toArray, List.getElem?_cons_zero, List.getElem?_cons_succ]; rfl)
  · exact (fun _ _ _ h => h)
  · rfl
  · (intro w hSw; (try dsimp only at hSw); go_simp; try with_reducible rfl)
  (try simp only [Act.put, List.setIfInBounds_toArray, List.set_cons_zero, List.set_cons_succ])
  refine wpAnyH_take (i := 22) (oi := ?_) (v := ?_) ?_ (by kernel_rfl) (by kernel_rfl) (by kernel_rfl) ?_ (Or.inl ⟨?_, ?_⟩) hHeld ?_
  rotate_left 2
  · (simp only [List.getElem?_toArray, List.getElem?_cons_zero, List.getElem?_cons_succ]; rfl)
  · exact (fun _ _ _ h => h)
  · rfl
  · (intro w hSw; (try dsimp only at hSw); go_simp; try with_reducible rfl)
  (try simp only [Act.put, List.setIfInBounds_toArray, List.set_cons_zero, List.set_cons_succ])
  refine wpAnyH_take (i := 23) (oi := ?_) (v := ?_) ?_ (by kernel_rfl) (by kernel_rfl) (by kernel_rfl) ?_ (Or.inl ⟨?_, ?_⟩) hHeld ?_
  rotate_left 2
  · (simp only [List.getElem?_toArray, List.getElem?_cons_zero, List.getElem?_cons_succ]; rfl)
  · exact (fun _ _ _ h => h)
  · rfl
  · (intro w hSw; (try dsimp only at hSw); go_simp; try with_reducible rfl)
  (try simp only [Act.put, List.setIfInBounds_toArray, List.set_cons_zero, List.set_cons_succ])
  refine wpAnyH_take (i := 24) (oi := ?_) (v := ?_) ?_ (by kernel_rfl) (by kernel_rfl) (by kernel_rfl) ?_ (Or.inl ⟨?_, ?_⟩) hHeld ?_
  rotate_left 2
  · (simp only [List.getElem?_toArray, List.getElem?_cons_zero, List.getElem?_cons_succ]; rfl)
  · exact (fun _ _ _ h => h)
  · rfl
  · (intro w hSw; (try dsimp only at hSw); go_simp; try with_reducible rfl)
  (try simp only [Act.put, List.setIfInBounds_toArray, List.set_cons_zero, List.set_cons_succ])
  refine wpAnyH_take (i := 25) (oi := ?_) (v := ?_) ?_ (by kernel_rfl) (by kernel_rfl) (by kernel_rfl) ?_ (Or.inl ⟨?_, ?_⟩) hHeld ?_
  rotate_left 2
  · (simp only [List.getElem?_toArray, List.getElem?_cons_zero, List.getElem?_cons_succ]; rfl)
  · exact (fun _ _ _ h => h)
  · rfl
  · (intro w hSw; (try dsimp only at hSw); go_simp; try with_reducible rfl)
  (try simp only [Act.put, List.setIfInBounds_toArray, List.set_cons_zero, List.set_cons_succ])
  refine wpAnyH_take (i := 26) (oi := ?_) (v := ?_) ?_ (by kernel_rfl) (by kernel_rfl) (by kernel_rfl) ?_ (Or.inl ⟨?_, ?_⟩) hHeld ?_
  rotate_left 2
  · (simp only [List.getElem?_toArray, List.getElem?_cons_zero, List.getElem?_cons_succ]; rfl)
  · exact (fun _ _ _ h => h)
  · rfl
  · (intro w hSw; (try dsimp only at hSw); go_simp; try with_reducible rfl)
  (try simp only [Act.put, List.setIfInBounds_toArray, List.set_cons_zero, List.set_cons_succ])
  refine wpAnyH_take (i := 27) (oi := ?_) (v := ?_) ?_ (by kernel_rfl) (by kernel_rfl) (by kernel_rfl) ?_ (Or.inl ⟨?_, ?_⟩) hHeld ?_
  rotate_left 2
  · (simp only [List.getElem?_toArray, List.getElem?_cons_zero, List.getElem?_cons_succ]; rfl)
  · exact (fun _ _ _ h => h)
  · rfl
  · (intro w hSw; (try dsimp only at hSw); go_simp; try with_reducible rfl)
  (try simp only [Act.put, List.setIfInBounds_toArray, List.set_cons_zero, List.set_cons_succ])
  refine wpAnyH_take (i := 29) (oi := ?_) (v := ?_) ?_ (by kernel_rfl) (by kernel_rfl) (by kernel_rfl) ?_ (Or.inl ⟨?_, ?_⟩) hHeld ?_
  rotate_left 2
  · (simp only [List.getElem?_toArray, List.getElem?_cons_zero, List.getElem?_cons_succ]; rfl)
  · exact (fun _ _ _ h => h)
  · rfl
  · (intro w hSw; (try dsimp only at hSw); go_simp; try with_reducible rfl)
  (try simp only [Act.put, List.setIfInBounds_toArray, List.set_cons_zero, List.set_cons_succ])
  refine wpAnyH_ready (rs := [28]) (by kernel_rfl) (by simp) ?_
  refine AllReadyH.cons (o := ?_) ?_ (fun K hK => ?_) AllReadyH.nil
  rotate_left
  · (simp only [List.getElem?_toArray, List.getElem?_cons_zero, List.getElem?_cons_succ]; rfl)
  go_simp
  (with_reducible refine (code_err HF8.out).mono ?_)
  rintro e w9 ⟨rfl, rfl⟩
  go_wp2_with fail
  refine hK.out _ _ HT8.out (fun hHeld => ?_)
  clear hK K
  (try simp only [Act.put, List.setIfInBounds_toArray, List.set_cons_zero, List.set_cons_succ])
  refine wpAnyH_take (i := 30) (oi := ?_) (v := ?_) ?_ (by kernel_rfl) (by kernel_rfl) (by kernel_rfl) ?_ (Or.inl ⟨?_, ?_⟩) hHeld ?_
  rotate_left 2
  · (simp only [List.getElem?_toArray, List.getElem?_cons_zero, List.getElem?_cons_succ]; rfl)
  · exact (fun _ _ _ h => h)
  · rfl
  · (intro w hSw; (try dsimp only at hSw); go_simp; try with_reducible rfl)
  (try simp only [Act.put, List.setIfInBounds_toArray, List.set_cons_zero, List.set_cons_succ])
  refine wpAnyH_take (i := 31) (oi := ?_) (v := ?_) ?_ (by kernel_rfl) (by kernel_rfl) (by kernel_rfl) ?_ (Or.inl ⟨?_, ?_⟩) hHeld ?_
  rotate_left 2
  · (simp only [List.getElem?_toArray, List.getElem?_cons_zero, List.getElem?_cons_succ]; rfl)
  · exact (fun _ _ _ h => h)
  · rfl
  · (intro w hSw; (try dsimp only at hSw); go_simp; try with_reducible rfl)
  (try simp only [Act.put, List.setIfInBounds_toArray, List.set_cons_zero, List.set_cons_succ])
  refine wpAnyH_take (i := 32) (oi := ?_) (v := ?_) ?_ (by kernel_rfl) (by kernel_rfl) (by kernel_rfl) ?_ (Or.inl ⟨?_, ?_⟩) hHeld ?_
  rotate_left 2
  · (simp only [List.getElem?_toArray, List.getElem?_cons_zero, List.getElem?_cons_succ]; rfl)
  · exact (fun _ _ _ h => h)
  · rfl
  · (intro w hSw; (try dsimp only at hSw); go_simp; try with_reducible rfl)
  (try simp only [Act.put, List.setIfInBounds_toArray, List.set_cons_zero, List.set_cons_succ])
  refine wpAnyH_done (by kernel_rfl) ?_ _
  go_wp2_with fail
  go_ret
  exact ⟨rfl, HB8.out⟩

theorem lawTables_any (l : Ln) (warn : Int) (u : Value) (T : Nat → Int) (ls : List Ln) (w : World) (hl : LnR l) (hw : Rng warn) (hv : Els RLn 5 w u ls) :
    Calls Tryd.prog 4 #[.agg #[.int .i64 l.k, .int .i64 l.g, .int .i64 l.a, .int .i64 l.b, .int .i64 l.c], .int .i64 warn, .agg (cfc u T)] w fun e w' => e = .returned (.bool true) ∧ Below w.heap.size w w' := by
  obtain ⟨a, c, e⟩ := hv.len
  subst e
  by_cases h : 20 < ls.length
  · exact tables_long _ _ _ _ _ warn a _ c T ls w hv h
  · exact tables_main _ _ _ _ _ warn hl.1 hw a _ c T ls w hv (by omega) rfl
end Go.Proofs.YtkagkfgnnhdofaaDoor

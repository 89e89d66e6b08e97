/-
  The walk of crossbucklaw08.ConfigBack: true, whatever it is given.
-/
import Derived.Test.YthjpacdhaeoecaaDoorAny
import Derived.Test.YthjpacdhaeoecaaDoorTurned
import Derived.Test.YthjpacdhaeoecaaDoorTxt
import Derived.Deep.RegionHeld3
namespace Go.Proofs.YthjpacdhaeoecaaDoor
open Go.RowKit

set_option maxHeartbeats 4000000 in
set_option maxRecDepth 10000 in
theorem back_long (a av : Option Addr) (n c m cv : Nat) (T : Nat → Int) (hl : 20 < n ∨ 500 < m) (w : World) :
    Calls Tryd.prog 4 #[.agg (cfc (.slice a n c) T), .slice av m cv] w fun e w' => e = .returned (.bool true) ∧ Below w.heap.size w w' := by
  have HB := Lib.hid (below_alloc (Below.refl _ w) (.cells (cfc (.slice a n c) T) 26))
  have HX := Lib.hid (blk_new w (cfc (.slice a n c) T) 26)
  unfold cfc at *
  go_enter Tryd.func4, Tryd.ntmps4
  go_wp2_with fail
  (with_reducible refine (small_true _).mono ?_)
  rintro e w1 ⟨rfl, hb⟩
  have hc0 := (HX.out.below hb).cell 0 (u := .slice a n c) rfl
  have HB1 := Lib.hid (below_call HB.out hb)
  clear hb HB HX
  by_cases h1 : 20 < n
  · have q0 : decide ((20 : Int) < (n : Int)) = true := decide_eq_true (by omega)
    clear h1 hl
    go_wp2_with fail
    go_ret
    exact ⟨rfl, HB1.out⟩
  · have q0 : decide ((20 : Int) < (n : Int)) = false := decide_eq_false (by omega)
    have q1 : decide ((500 : Int) < (m : Int)) = true := decide_eq_true (by omega)
    clear h1 hl
    go_wp2_with fail
    go_ret
    exact ⟨rfl, HB1.out⟩

/-- What was decoded is encoded as it was. -/
theorem enc_dec {xs : List (BitVec 8)} (h : dcode xs = 0) : OkC (dT xs) (dLs xs) ∧ sealed (cbytes (dT xs) (dLs xs)) = xs := by
  have e1 : dT xs = rdT (dbody xs) := by funext i; unfold dT; rw [if_pos h]
  have e2 : dLs xs = rdLs (dbody xs) (rdN (dbody xs)) := by unfold dLs; rw [if_pos h]
  obtain ⟨h1, h2, h3, h4⟩ := (dcode_iff xs).1 h
  rw [e1, e2]
  refine ⟨h4, ?_⟩
  unfold cbytes
  rw [body_rd _ h3]
  have : mark ++ dbody xs = front xs := by
    unfold dbody
    have := h2.2
    rw [show mark.length = 3 from rfl] at this
    rw [← this, List.take_append_drop]
  rw [this, sealed_front h1]
theorem els0 (w : World) (a : Option Addr) (c : Nat) : Els RLn 5 w (.slice a 0 c) [] := ⟨a, c, rfl, fun j y h => by cases h⟩

set_option maxHeartbeats 8000000 in
set_option maxRecDepth 10000 in
theorem back_yy (a av : Option Addr) (n c m cv : Nat) (T : Nat → Int) (ls : List Ln) (xs : List (BitVec 8)) (hn : n ≤ 20) (hm : m ≤ 500) (w : World) (hv : Els RLn 5 w (.slice a n c) ls) (hu : Byts w (.slice av m cv) xs) (hln : ls.length = n) (hlm : xs.length = m) (hok : OkC T ls) (hd : dcode xs = 0) :
    Calls Tryd.prog 4 #[.agg (cfc (.slice a n c) T), .slice av m cv] w fun e w' => e = .returned (.bool true) ∧ Below w.heap.size w w' := by
  have HB := Lib.hid (below_alloc (Below.refl _ w) (.cells (cfc (.slice a n c) T) 26))
  have HX := Lib.hid (cx_new w (.slice a n c) T ls hv)
  have HU := Lib.hid (hu.below (below_alloc (Below.refl _ w) (.cells (cfc (.slice a n c) T) 26)))
  have q0 : decide ((20 : Int) < (n : Int)) = false := decide_eq_false (by omega)
  have q1 : decide ((500 : Int) < (m : Int)) = false := decide_eq_false (by omega)
  have hl2 : xs.length ≤ 1000 := by omega
  have hl1 : ls.length ≤ 1000 := by omega
  obtain ⟨X, hX⟩ : ∃ X, X = ebytes T ls := ⟨_, rfl⟩
  have HE1 := Lib.hid (fun w h => enc_any (.slice a n c) T ls 0 X (if_pos hok).symm hX w h)
  have HE5 := Lib.hid (fun w h => check_any (.slice a n c) T ls 0 (if_pos hok).symm w h)
  obtain ⟨o1, o2, o3⟩ := dec_enc hok
  rw [show sealed (cbytes T ls) = X by rw [hX]; exact (if_pos hok).symm] at o1 o2 o3
  have hxl : X.length ≤ 1000 := by
    rw [hX]
    unfold ebytes sealed
    rw [if_pos hok, List.length_append, cbytes_length]
    have := hok.1
    simp
    omega
  obtain ⟨T1, hT1⟩ : ∃ T1, T1 = dT X := ⟨_, rfl⟩
  have HE2 := Lib.hid (fun a c w h => dec_any (.slice a X.length c) X 0 T1 ls o1.symm hT1 o3.symm w h hxl)
  rw [← hT1] at o2
  have HE3 := Lib.hid (fun a' c' w h h' => rsame_any (.slice a' ls.length c') (.slice a n c) T1 T ls ls true (by simp; exact o2) w h h' hl1)
  rw [hln] at HE2 HE3
  clear o1 o2 o3 hxl hT1
  obtain ⟨p1, p2⟩ := enc_dec hd
  obtain ⟨T5, hT5⟩ : ∃ T, T = dT xs := ⟨_, rfl⟩
  obtain ⟨M, hM⟩ : ∃ M, M = dLs xs := ⟨_, rfl⟩
  rw [← hT5, ← hM] at p1 p2
  have HF1 := Lib.hid (fun w h => dec_any (.slice av m cv) xs 0 T5 M hd.symm hT5 hM w h hl2)
  have HF2 := Lib.hid (fun a c w h => enc_any (.slice a M.length c) T5 M 0 xs (if_pos p1).symm (by unfold ebytes; rw [if_pos p1, p2]) w h)
  have HF3 := Lib.hid (fun a c w h => check_any (.slice a M.length c) T5 M 0 (if_pos p1).symm w h)
  have qx := txt_same xs
  rw [hlm] at HF2
  clear p1 p2 hT5 hM
  clear hv hu hX hl1 hl2 hok hd hln hlm
  unfold cfc at *
  go_enter Tryd.func4, Tryd.ntmps4
  go_wp2_with fail
  (with_reducible refine (small_true _).mono ?_)
  rintro e w1 ⟨rfl, hb⟩
  obtain ⟨c0, c1, c2, c3, c4, c5, c6, c7, c8, c9, c10⟩ := cells11 (HX.out.below hb)
  have HX1 := Lib.hid (HX.out.below hb)
  have HU1 := Lib.hid (HU.out.below hb)
  have HB1 := Lib.hid (below_call HB.out hb)
  clear hb HB HX HU
  go_wp2_with fail
  (with_reducible refine (HE1.out _ HX1.out.els).mono ?_)
  rintro e w2 ⟨a2, k2, r2, rfl, hby, hr, hb⟩
  obtain rfl := hr.nil
  have HR2 := Lib.hid hby
  have HX2 := Lib.hid (HX1.out.below hb)
  have HU2 := Lib.hid (HU1.out.below hb)
  have HB2 := Lib.hid (below_call HB1.out hb)
  clear hb hby hr HB1 HX1 HU1 HE1 c0 c1 c2 c3 c4 c5 c6 c7 c8 c9 c10
  go_wp2_with fail
  refine wp_region_held_drew (S := (fun w' => Cx w' w.heap.size (.slice a n c) T ls)) (by kernel_rfl) HX2.out (fun hHeld => ?_)
  refine wpAnyH_take (i := 0) (oi := ?_) (v := ?_) ?_ (by kernel_rfl) (by kernel_rfl) (by kernel_rfl) ?_ (Or.inl ⟨?_, ?_⟩) hHeld ?_
  rotate_left 2
  · (simp only [List.getElem?_toArray, List.getElem?_cons_zero]; rfl)
  · exact (fun _ _ _ h => h)
  · rfl
  · (intro w hSw; (try dsimp only at hSw); go_simp; try with_reducible rfl)
  (try simp only [Act.put, List.setIfInBounds_toArray, List.set_cons_zero, List.set_cons_succ])
  refine wpAnyH_take (i := 1) (oi := ?_) (v := ?_) ?_ (by kernel_rfl) (by kernel_rfl) (by kernel_rfl) ?_ (Or.inl ⟨?_, ?_⟩) hHeld ?_
  rotate_left 2
  · (simp only [List.getElem?_toArray, List.getElem?_cons_zero, List.getElem?_cons_succ]; rfl)
  · exact (fun _ _ _ h => h)
  · rfl
  · (intro w hSw; (try dsimp only at hSw); go_simp; try with_reducible rfl)
  (try simp only [Act.put, List.setIfInBounds_toArray, List.set_cons_zero, List.set_cons_succ])
  refine wpAnyH_take (i := 2) (oi := ?_) (v := ?_) ?_ (by kernel_rfl) (by kernel_rfl) (by kernel_rfl) ?_ (Or.inl ⟨?_, ?_⟩) hHeld ?_
  rotate_left 2
  · (simp only [List.getElem?_toArray, List.getElem?_cons_zero, List.getElem?_cons_succ]; rfl)
  · exact (fun _ _ _ h => h)
  · rfl
  · (intro w hSw; (try dsimp only at hSw); obtain ⟨c0, c1, c2, c3, c4, c5, c6, c7, c8, c9, c10⟩ := cells11 hSw; go_simp; try with_reducible rfl)
  (try simp only [Act.put, List.setIfInBounds_toArray, List.set_cons_zero, List.set_cons_succ])
  refine wpAnyH_ready (rs := [3]) (by kernel_rfl) (by simp) ?_
  refine AllReadyH.cons (o := ?_) ?_ (fun K hK => ?_) AllReadyH.nil
  rotate_left
  · (simp only [List.getElem?_toArray, List.getElem?_cons_zero, List.getElem?_cons_succ]; rfl)
  go_simp
  (with_reducible refine (HE5.out _ (HX2.out.els.below (fun _ _ _ h => h.below (bel_drew _)))).mono ?_)
  rintro e w4 ⟨r4, rfl, hr, hb0⟩
  obtain rfl := hr.nil
  have hb := below_call (bel_drew w2) hb0
  have HR4 := Lib.hid (HR2.out.below hb)
  have HX4 := Lib.hid (HX2.out.below hb)
  have HU4 := Lib.hid (HU2.out.below hb)
  have HB4 := Lib.hid (below_call HB2.out hb)
  clear hb hb0 hr HR2 HX2 HU2 HB2
  go_wp2_with fail
  refine hK.out _ _ HX4.out (fun hHeld => ?_)
  clear hK K
  (try simp only [Act.put, List.setIfInBounds_toArray, List.set_cons_zero, List.set_cons_succ])
  refine wpAnyH_take (i := 4) (oi := ?_) (v := ?_) ?_ (by kernel_rfl) (by kernel_rfl) (by kernel_rfl) ?_ (Or.inl ⟨?_, ?_⟩) hHeld ?_
  rotate_left 2
  · (simp only [List.getElem?_toArray, List.getElem?_cons_zero, List.getElem?_cons_succ]; rfl)
  · exact (fun _ _ _ h => h)
  · rfl
  · (intro w hSw; (try dsimp only at hSw); go_simp; try with_reducible rfl)
  (try simp only [Act.put, List.setIfInBounds_toArray, List.set_cons_zero, List.set_cons_succ])
  refine wpAnyH_take (i := 5) (oi := ?_) (v := ?_) ?_ (by kernel_rfl) (by kernel_rfl) (by kernel_rfl) ?_ (Or.inl ⟨?_, ?_⟩) hHeld ?_
  rotate_left 2
  · (simp only [List.getElem?_toArray, List.getElem?_cons_zero, List.getElem?_cons_succ]; rfl)
  · exact (fun _ _ _ h => h)
  · rfl
  · (intro w hSw; (try dsimp only at hSw); go_simp; try with_reducible rfl)
  (try simp only [Act.put, List.setIfInBounds_toArray, List.set_cons_zero, List.set_cons_succ])
  refine wpAnyH_done (by kernel_rfl) ?_ _
  go_wp2_with fail
  (with_reducible refine (HE2.out _ _ _ HR4.out).mono ?_)
  rintro e w5 ⟨a5, k5, r5, rfl, he, hr, hb0⟩
  obtain rfl := hr.nil
  have HK := Lib.hid (below_alloc (Below.refl _ w5) (.cells (cfc (.slice a5 n k5) T1) 26))
  have hb := below_call hb0 HK.out
  have HY5 := Lib.hid (cx_new w5 (.slice a5 n k5) T1 ls he)
  have HX5 := Lib.hid (HX4.out.below hb)
  have HU5 := Lib.hid (HU4.out.below hb)
  have HB5 := Lib.hid (below_call HB4.out hb)
  clear hb hb0 he hr HK HR4 HX4 HU4 HB4 HE2
  unfold cfc at *
  obtain ⟨c0, c1, c2, c3, c4, c5, c6, c7, c8, c9, c10⟩ := cells11 HX5.out
  obtain ⟨d0, d1, d2, d3, d4, d5, d6, d7, d8, d9, d10⟩ := cells11 HY5.out
  go_wp2_with fail
  (with_reducible refine (HE3.out _ _ _ HY5.out.els HX5.out.els).mono ?_)
  rintro e w6 ⟨rfl, hb⟩
  have HU6 := Lib.hid (HU5.out.below hb)
  have HB6 := Lib.hid (below_call HB5.out hb)
  clear hb HX5 HU5 HB5 HE3 HY5 c0 c1 c2 c3 c4 c5 c6 c7 c8 c9 c10 d0 d1 d2 d3 d4 d5 d6 d7 d8 d9 d10
  go_wp2_with fail
  (with_reducible refine (HF1.out _ HU6.out).mono ?_)
  rintro e w7 ⟨a7, k7, r7, rfl, he, hr, hb0⟩
  obtain rfl := hr.nil
  have HK := Lib.hid (below_alloc (Below.refl _ w7) (.cells (cfc (.slice a7 M.length k7) T5) 26))
  have hb := below_call hb0 HK.out
  have HY7 := Lib.hid (cx_new w7 (.slice a7 M.length k7) T5 M he)
  have HU7 := Lib.hid (HU6.out.below hb)
  have HB7 := Lib.hid (below_call HB6.out hb)
  clear hb hb0 he hr HK HU6 HB6 HF1
  unfold cfc at *
  obtain ⟨d0, d1, d2, d3, d4, d5, d6, d7, d8, d9, d10⟩ := cells11 HY7.out
  go_wp2_with fail
  (with_reducible refine (HF2.out _ _ _ HY7.out.els).mono ?_)
  rintro e w8 ⟨a8, k8, r8, rfl, hby, hr, hb⟩
  obtain rfl := hr.nil
  have HR8 := Lib.hid hby
  have HY8 := Lib.hid (HY7.out.below hb)
  have HU8 := Lib.hid (HU7.out.below hb)
  have HB8 := Lib.hid (below_call HB7.out hb)
  clear hb hby hr HY7 HU7 HB7 HF2 d0 d1 d2 d3 d4 d5 d6 d7 d8 d9 d10
  obtain ⟨d0, d1, d2, d3, d4, d5, d6, d7, d8, d9, d10⟩ := cells11 HY8.out
  go_wp2_with fail
  (with_reducible refine (HF3.out _ _ _ HY8.out.els).mono ?_)
  rintro e w9 ⟨r9, rfl, hr, hb⟩
  obtain rfl := hr.nil
  have HB9 := Lib.hid (below_call HB8.out hb)
  have t1 := txt_run _ _ _ (HR8.out.below hb)
  have t2 := txt_run _ _ _ (HU8.out.below hb)
  clear hb hr HY8 HU8 HB8 HR8 HF3 d0 d1 d2 d3 d4 d5 d6 d7 d8 d9 d10
  go_wp2_with fail
  go_ret
  exact ⟨rfl, HB9.out⟩

set_option maxHeartbeats 8000000 in
set_option maxRecDepth 10000 in
theorem back_yn (a av : Option Addr) (n c m cv : Nat) (T : Nat → Int) (ls : List Ln) (xs : List (BitVec 8)) (hn : n ≤ 20) (hm : m ≤ 500) (w : World) (hv : Els RLn 5 w (.slice a n c) ls) (hu : Byts w (.slice av m cv) xs) (hln : ls.length = n) (hlm : xs.length = m) (hok : OkC T ls) (hd : dcode xs ≠ 0) :
    Calls Tryd.prog 4 #[.agg (cfc (.slice a n c) T), .slice av m cv] w fun e w' => e = .returned (.bool true) ∧ Below w.heap.size w w' := by
  have HB := Lib.hid (below_alloc (Below.refl _ w) (.cells (cfc (.slice a n c) T) 26))
  have HX := Lib.hid (cx_new w (.slice a n c) T ls hv)
  have HU := Lib.hid (hu.below (below_alloc (Below.refl _ w) (.cells (cfc (.slice a n c) T) 26)))
  have q0 : decide ((20 : Int) < (n : Int)) = false := decide_eq_false (by omega)
  have q1 : decide ((500 : Int) < (m : Int)) = false := decide_eq_false (by omega)
  have hl2 : xs.length ≤ 1000 := by omega
  have hl1 : ls.length ≤ 1000 := by omega
  obtain ⟨X, hX⟩ : ∃ X, X = ebytes T ls := ⟨_, rfl⟩
  have HE1 := Lib.hid (fun w h => enc_any (.slice a n c) T ls 0 X (if_pos hok).symm hX w h)
  have HE5 := Lib.hid (fun w h => check_any (.slice a n c) T ls 0 (if_pos hok).symm w h)
  obtain ⟨o1, o2, o3⟩ := dec_enc hok
  rw [show sealed (cbytes T ls) = X by rw [hX]; exact (if_pos hok).symm] at o1 o2 o3
  have hxl : X.length ≤ 1000 := by
    rw [hX]
    unfold ebytes sealed
    rw [if_pos hok, List.length_append, cbytes_length]
    have := hok.1
    simp
    omega
  obtain ⟨T1, hT1⟩ : ∃ T1, T1 = dT X := ⟨_, rfl⟩
  have HE2 := Lib.hid (fun a c w h => dec_any (.slice a X.length c) X 0 T1 ls o1.symm hT1 o3.symm w h hxl)
  rw [← hT1] at o2
  have HE3 := Lib.hid (fun a' c' w h h' => rsame_any (.slice a' ls.length c') (.slice a n c) T1 T ls ls true (by simp; exact o2) w h h' hl1)
  rw [hln] at HE2 HE3
  clear o1 o2 o3 hxl hT1
  have HF1 := Lib.hid (fun w h => dec_bad (.slice av m cv) xs _ rfl hd w h hl2)
  have HF2 := Lib.hid (fun a c w => rsame_any (.slice a 0 c) (.slice none 0 0) (fun _ => 0) (fun _ => 0) [] [] true (by simp) w (els0 w a c) (zels w) (by decide))
  generalize dcode xs = kd at *
  clear hv hu hX hl1 hl2 hok hd hln hlm
  unfold cfc at *
  go_enter Tryd.func4, Tryd.ntmps4
  go_wp2_with fail
  (with_reducible refine (small_true _).mono ?_)
  rintro e w1 ⟨rfl, hb⟩
  obtain ⟨c0, c1, c2, c3, c4, c5, c6, c7, c8, c9, c10⟩ := cells11 (HX.out.below hb)
  have HX1 := Lib.hid (HX.out.below hb)
  have HU1 := Lib.hid (HU.out.below hb)
  have HB1 := Lib.hid (below_call HB.out hb)
  clear hb HB HX HU
  go_wp2_with fail
  (with_reducible refine (HE1.out _ HX1.out.els).mono ?_)
  rintro e w2 ⟨a2, k2, r2, rfl, hby, hr, hb⟩
  obtain rfl := hr.nil
  have HR2 := Lib.hid hby
  have HX2 := Lib.hid (HX1.out.below hb)
  have HU2 := Lib.hid (HU1.out.below hb)
  have HB2 := Lib.hid (below_call HB1.out hb)
  clear hb hby hr HB1 HX1 HU1 HE1 c0 c1 c2 c3 c4 c5 c6 c7 c8 c9 c10
  go_wp2_with fail
  refine wp_region_held_drew (S := (fun w' => Cx w' w.heap.size (.slice a n c) T ls)) (by kernel_rfl) HX2.out (fun hHeld => ?_)
  refine wpAnyH_take (i := 0) (oi := ?_) (v := ?_) ?_ (by kernel_rfl) (by kernel_rfl) (by kernel_rfl) ?_ (Or.inl ⟨?_, ?_⟩) hHeld ?_
  rotate_left 2
  · (simp only [List.getElem?_toArray, List.getElem?_cons_zero]; rfl)
  · exact (fun _ _ _ h => h)
  · rfl
  · (intro w hSw; (try dsimp only at hSw); go_simp; try with_reducible rfl)
  (try simp only [Act.put, List.setIfInBounds_toArray, List.set_cons_zero, List.set_cons_succ])
  refine wpAnyH_take (i := 1) (oi := ?_) (v := ?_) ?_ (by kernel_rfl) (by kernel_rfl) (by kernel_rfl) ?_ (Or.inl ⟨?_, ?_⟩) hHeld ?_
  rotate_left 2
  · (simp only [List.getElem?_toArray, List.getElem?_cons_zero, List.getElem?_cons_succ]; rfl)
  · exact (fun _ _ _ h => h)
  · rfl
  · (intro w hSw; (try dsimp only at hSw); go_simp; try with_reducible rfl)
  (try simp only [Act.put, List.setIfInBounds_toArray, List.set_cons_zero, List.set_cons_succ])
  refine wpAnyH_take (i := 2) (oi := ?_) (v := ?_) ?_ (by kernel_rfl) (by kernel_rfl) (by kernel_rfl) ?_ (Or.inl ⟨?_, ?_⟩) hHeld ?_
  rotate_left 2
  · (simp only [List.getElem?_toArray, List.getElem?_cons_zero, List.getElem?_cons_succ]; rfl)
  · exact (fun _ _ _ h => h)
  · rfl
  · (intro w hSw; (try dsimp only at hSw); obtain ⟨c0, c1, c2, c3, c4, c5, c6, c7, c8, c9, c10⟩ := cells11 hSw; go_simp; try with_reducible rfl)
  (try simp only [Act.put, List.setIfInBounds_toArray, List.set_cons_zero, List.set_cons_succ])
  refine wpAnyH_ready (rs := [3]) (by kernel_rfl) (by simp) ?_
  refine AllReadyH.cons (o := ?_) ?_ (fun K hK => ?_) AllReadyH.nil
  rotate_left
  · (simp only [List.getElem?_toArray, List.getElem?_cons_zero, List.getElem?_cons_succ]; rfl)
  go_simp
  (with_reducible refine (HE5.out _ (HX2.out.els.below (fun _ _ _ h => h.below (bel_drew _)))).mono ?_)
  rintro e w4 ⟨r4, rfl, hr, hb0⟩
  obtain rfl := hr.nil
  have hb := below_call (bel_drew w2) hb0
  have HR4 := Lib.hid (HR2.out.below hb)
  have HX4 := Lib.hid (HX2.out.below hb)
  have HU4 := Lib.hid (HU2.out.below hb)
  have HB4 := Lib.hid (below_call HB2.out hb)
  clear hb hb0 hr HR2 HX2 HU2 HB2
  go_wp2_with fail
  refine hK.out _ _ HX4.out (fun hHeld => ?_)
  clear hK K
  (try simp only [Act.put, List.setIfInBounds_toArray, List.set_cons_zero, List.set_cons_succ])
  refine wpAnyH_take (i := 4) (oi := ?_) (v := ?_) ?_ (by kernel_rfl) (by kernel_rfl) (by kernel_rfl) ?_ (Or.inl ⟨?_, ?_⟩) hHeld ?_
  rotate_left 2
  · (simp only [List.getElem?_toArray, List.getElem?_cons_zero, List.getElem?_cons_succ]; rfl)
  · exact (fun _ _ _ h => h)
  · rfl
  · (intro w hSw; (try dsimp only at hSw); go_simp; try with_reducible rfl)
  (try simp only [Act.put, List.setIfInBounds_toArray, List.set_cons_zero, List.set_cons_succ])
  refine wpAnyH_take (i := 5) (oi := ?_) (v := ?_) ?_ (by kernel_rfl) (by kernel_rfl) (by kernel_rfl) ?_ (Or.inl ⟨?_, ?_⟩) hHeld ?_
  rotate_left 2
  · (simp only [List.getElem?_toArray, List.getElem?_cons_zero, List.getElem?_cons_succ]; rfl)
  · exact (fun _ _ _ h => h)
  · rfl
  · (intro w hSw; (try dsimp only at hSw); go_simp; try with_reducible rfl)
  (try simp only [Act.put, List.setIfInBounds_toArray, List.set_cons_zero, List.set_cons_succ])
  refine wpAnyH_done (by kernel_rfl) ?_ _
  go_wp2_with fail
  (with_reducible refine (HE2.out _ _ _ HR4.out).mono ?_)
  rintro e w5 ⟨a5, k5, r5, rfl, he, hr, hb0⟩
  obtain rfl := hr.nil
  have HK := Lib.hid (below_alloc (Below.refl _ w5) (.cells (cfc (.slice a5 n k5) T1) 26))
  have hb := below_call hb0 HK.out
  have HY5 := Lib.hid (cx_new w5 (.slice a5 n k5) T1 ls he)
  have HX5 := Lib.hid (HX4.out.below hb)
  have HU5 := Lib.hid (HU4.out.below hb)
  have HB5 := Lib.hid (below_call HB4.out hb)
  clear hb hb0 he hr HK HR4 HX4 HU4 HB4 HE2
  unfold cfc at *
  obtain ⟨c0, c1, c2, c3, c4, c5, c6, c7, c8, c9, c10⟩ := cells11 HX5.out
  obtain ⟨d0, d1, d2, d3, d4, d5, d6, d7, d8, d9, d10⟩ := cells11 HY5.out
  go_wp2_with fail
  (with_reducible refine (HE3.out _ _ _ HY5.out.els HX5.out.els).mono ?_)
  rintro e w6 ⟨rfl, hb⟩
  have HU6 := Lib.hid (HU5.out.below hb)
  have HB6 := Lib.hid (below_call HB5.out hb)
  clear hb HX5 HU5 HB5 HE3 HY5 c0 c1 c2 c3 c4 c5 c6 c7 c8 c9 c10 d0 d1 d2 d3 d4 d5 d6 d7 d8 d9 d10
  go_wp2_with fail
  (with_reducible refine (HF1.out _ HU6.out).mono ?_)
  rintro e w7 ⟨a7, k7, g7, rfl, _, hb0⟩
  have HK := Lib.hid (below_alloc (Below.refl _ w7) (.cells (cft (.slice a7 0 k7) 0) 26))
  have HB7 := Lib.hid (below_call HB6.out (below_call hb0 HK.out))
  have HY7 := Lib.hid (blk_new w7 (cft (.slice a7 0 k7) 0) 26)
  clear hb0 HK HU6 HB6 HF1
  obtain ⟨d0, d1, d2, d3, d4, d5, d6, d7, d8, d9, d10⟩ := Blk.eleven (v := .slice a7 0 k7) (T := fun _ => 0) HY7.out
  go_wp2_with fail
  (with_reducible refine (HF2.out _ _ _).mono ?_)
  rintro e w8 ⟨rfl, hb⟩
  have HB8 := Lib.hid (below_call HB7.out hb)
  clear hb HB7 HY7 HF2 d0 d1 d2 d3 d4 d5 d6 d7 d8 d9 d10
  go_wp2_with fail
  go_ret
  exact ⟨rfl, HB8.out⟩

set_option maxHeartbeats 8000000 in
set_option maxRecDepth 10000 in
theorem back_ny (a av : Option Addr) (n c m cv : Nat) (T : Nat → Int) (ls : List Ln) (xs : List (BitVec 8)) (hn : n ≤ 20) (hm : m ≤ 500) (w : World) (hv : Els RLn 5 w (.slice a n c) ls) (hu : Byts w (.slice av m cv) xs) (hln : ls.length = n) (hlm : xs.length = m) (hok : ¬ OkC T ls) (hd : dcode xs = 0) :
    Calls Tryd.prog 4 #[.agg (cfc (.slice a n c) T), .slice av m cv] w fun e w' => e = .returned (.bool true) ∧ Below w.heap.size w w' := by
  have HB := Lib.hid (below_alloc (Below.refl _ w) (.cells (cfc (.slice a n c) T) 26))
  have HX := Lib.hid (cx_new w (.slice a n c) T ls hv)
  have HU := Lib.hid (hu.below (below_alloc (Below.refl _ w) (.cells (cfc (.slice a n c) T) 26)))
  have q0 : decide ((20 : Int) < (n : Int)) = false := decide_eq_false (by omega)
  have q1 : decide ((500 : Int) < (m : Int)) = false := decide_eq_false (by omega)
  have hl2 : xs.length ≤ 1000 := by omega
  have hl1 : ls.length ≤ 1000 := by omega
  obtain ⟨X, hX⟩ : ∃ X, X = ebytes T ls := ⟨_, rfl⟩
  have HE1 := Lib.hid (fun w h => enc_any (.slice a n c) T ls 6 X (if_neg hok).symm hX w h)
  have HE5 := Lib.hid (fun w h => check_any (.slice a n c) T ls 6 (if_neg hok).symm w h)
  obtain ⟨p1, p2⟩ := enc_dec hd
  obtain ⟨T5, hT5⟩ : ∃ T, T = dT xs := ⟨_, rfl⟩
  obtain ⟨M, hM⟩ : ∃ M, M = dLs xs := ⟨_, rfl⟩
  rw [← hT5, ← hM] at p1 p2
  have HF1 := Lib.hid (fun w h => dec_any (.slice av m cv) xs 0 T5 M hd.symm hT5 hM w h hl2)
  have HF2 := Lib.hid (fun a c w h => enc_any (.slice a M.length c) T5 M 0 xs (if_pos p1).symm (by unfold ebytes; rw [if_pos p1, p2]) w h)
  have HF3 := Lib.hid (fun a c w h => check_any (.slice a M.length c) T5 M 0 (if_pos p1).symm w h)
  have qx := txt_same xs
  rw [hlm] at HF2
  clear p1 p2 hT5 hM
  clear hv hu hX hl1 hl2 hok hd hln hlm
  unfold cfc at *
  go_enter Tryd.func4, Tryd.ntmps4
  go_wp2_with fail
  (with_reducible refine (small_true _).mono ?_)
  rintro e w1 ⟨rfl, hb⟩
  obtain ⟨c0, c1, c2, c3, c4, c5, c6, c7, c8, c9, c10⟩ := cells11 (HX.out.below hb)
  have HX1 := Lib.hid (HX.out.below hb)
  have HU1 := Lib.hid (HU.out.below hb)
  have HB1 := Lib.hid (below_call HB.out hb)
  clear hb HB HX HU
  go_wp2_with fail
  (with_reducible refine (HE1.out _ HX1.out.els).mono ?_)
  rintro e w2 ⟨a2, k2, r2, rfl, hby, hr, hb⟩
  obtain ⟨g2, rfl, _⟩ := hr.not (by decide)
  have HR2 := Lib.hid hby
  have HX2 := Lib.hid (HX1.out.below hb)
  have HU2 := Lib.hid (HU1.out.below hb)
  have HB2 := Lib.hid (below_call HB1.out hb)
  clear hb hby hr HB1 HX1 HU1 HE1 c0 c1 c2 c3 c4 c5 c6 c7 c8 c9 c10
  go_wp2_with fail
  refine wp_region_held_drew (S := (fun w' => Cx w' w.heap.size (.slice a n c) T ls)) (by kernel_rfl) HX2.out (fun hHeld => ?_)
  refine wpAnyH_take (i := 0) (oi := ?_) (v := ?_) ?_ (by kernel_rfl) (by kernel_rfl) (by kernel_rfl) ?_ (Or.inl ⟨?_, ?_⟩) hHeld ?_
  rotate_left 2
  · (simp only [List.getElem?_toArray, List.getElem?_cons_zero]; rfl)
  · exact (fun _ _ _ h => h)
  · rfl
  · (intro w hSw; (try dsimp only at hSw); go_simp; try with_reducible rfl)
  (try simp only [Act.put, List.setIfInBounds_toArray, List.set_cons_zero, List.set_cons_succ])
  refine wpAnyH_take (i := 1) (oi := ?_) (v := ?_) ?_ (by kernel_rfl) (by kernel_rfl) (by kernel_rfl) ?_ (Or.inl ⟨?_, ?_⟩) hHeld ?_
  rotate_left 2
  · (simp only [List.getElem?_toArray, List.getElem?_cons_zero, List.getElem?_cons_succ]; rfl)
  · exact (fun _ _ _ h => h)
  · rfl
  · (intro w hSw; (try dsimp only at hSw); go_simp; try with_reducible rfl)
  (try simp only [Act.put, List.setIfInBounds_toArray, List.set_cons_zero, List.set_cons_succ])
  refine wpAnyH_take (i := 2) (oi := ?_) (v := ?_) ?_ (by kernel_rfl) (by kernel_rfl) (by kernel_rfl) ?_ (Or.inl ⟨?_, ?_⟩) hHeld ?_
  rotate_left 2
  · (simp only [List.getElem?_toArray, List.getElem?_cons_zero, List.getElem?_cons_succ]; rfl)
  · exact (fun _ _ _ h => h)
  · rfl
  · (intro w hSw; (try dsimp only at hSw); obtain ⟨c0, c1, c2, c3, c4, c5, c6, c7, c8, c9, c10⟩ := cells11 hSw; go_simp; try with_reducible rfl)
  (try simp only [Act.put, List.setIfInBounds_toArray, List.set_cons_zero, List.set_cons_succ])
  refine wpAnyH_ready (rs := [3]) (by kernel_rfl) (by simp) ?_
  refine AllReadyH.cons (o := ?_) ?_ (fun K hK => ?_) AllReadyH.nil
  rotate_left
  · (simp only [List.getElem?_toArray, List.getElem?_cons_zero, List.getElem?_cons_succ]; rfl)
  go_simp
  (with_reducible refine (HE5.out _ (HX2.out.els.below (fun _ _ _ h => h.below (bel_drew _)))).mono ?_)
  rintro e w4 ⟨r4, rfl, hr, hb0⟩
  obtain ⟨g4, rfl, _⟩ := hr.not (by decide)
  have hb := below_call (bel_drew w2) hb0
  have HR4 := Lib.hid (HR2.out.below hb)
  have HX4 := Lib.hid (HX2.out.below hb)
  have HU4 := Lib.hid (HU2.out.below hb)
  have HB4 := Lib.hid (below_call HB2.out hb)
  clear hb hb0 hr HR2 HX2 HU2 HB2
  go_wp2_with fail
  refine hK.out _ _ HX4.out (fun hHeld => ?_)
  clear hK K
  (try simp only [Act.put, List.setIfInBounds_toArray, List.set_cons_zero, List.set_cons_succ])
  refine wpAnyH_take (i := 4) (oi := ?_) (v := ?_) ?_ (by kernel_rfl) (by kernel_rfl) (by kernel_rfl) ?_ (Or.inl ⟨?_, ?_⟩) hHeld ?_
  rotate_left 2
  · (simp only [List.getElem?_toArray, List.getElem?_cons_zero, List.getElem?_cons_succ]; rfl)
  · exact (fun _ _ _ h => h)
  · rfl
  · (intro w hSw; (try dsimp only at hSw); go_simp; try with_reducible rfl)
  (try simp only [Act.put, List.setIfInBounds_toArray, List.set_cons_zero, List.set_cons_succ])
  refine wpAnyH_take (i := 5) (oi := ?_) (v := ?_) ?_ (by kernel_rfl) (by kernel_rfl) (by kernel_rfl) ?_ (Or.inl ⟨?_, ?_⟩) hHeld ?_
  rotate_left 2
  · (simp only [List.getElem?_toArray, List.getElem?_cons_zero, List.getElem?_cons_succ]; rfl)
  · exact (fun _ _ _ h => h)
  · rfl
  · (intro w hSw; (try dsimp only at hSw); go_simp; try with_reducible rfl)
  (try simp only [Act.put, List.setIfInBounds_toArray, List.set_cons_zero, List.set_cons_succ])
  refine wpAnyH_done (by kernel_rfl) ?_ _
  go_wp2_with fail
  (with_reducible refine (HF1.out _ HU4.out).mono ?_)
  rintro e w7 ⟨a7, k7, r7, rfl, he, hr, hb0⟩
  obtain rfl := hr.nil
  have HK := Lib.hid (below_alloc (Below.refl _ w7) (.cells (cfc (.slice a7 M.length k7) T5) 26))
  have hb := below_call hb0 HK.out
  have HY7 := Lib.hid (cx_new w7 (.slice a7 M.length k7) T5 M he)
  have HU7 := Lib.hid (HU4.out.below hb)
  have HB7 := Lib.hid (below_call HB4.out hb)
  clear hb hb0 he hr HK HU4 HB4 HF1
  unfold cfc at *
  obtain ⟨d0, d1, d2, d3, d4, d5, d6, d7, d8, d9, d10⟩ := cells11 HY7.out
  go_wp2_with fail
  (with_reducible refine (HF2.out _ _ _ HY7.out.els).mono ?_)
  rintro e w8 ⟨a8, k8, r8, rfl, hby, hr, hb⟩
  obtain rfl := hr.nil
  have HR8 := Lib.hid hby
  have HY8 := Lib.hid (HY7.out.below hb)
  have HU8 := Lib.hid (HU7.out.below hb)
  have HB8 := Lib.hid (below_call HB7.out hb)
  clear hb hby hr HY7 HU7 HB7 HF2 d0 d1 d2 d3 d4 d5 d6 d7 d8 d9 d10
  obtain ⟨d0, d1, d2, d3, d4, d5, d6, d7, d8, d9, d10⟩ := cells11 HY8.out
  go_wp2_with fail
  (with_reducible refine (HF3.out _ _ _ HY8.out.els).mono ?_)
  rintro e w9 ⟨r9, rfl, hr, hb⟩
  obtain rfl := hr.nil
  have HB9 := Lib.hid (below_call HB8.out hb)
  have t1 := txt_run _ _ _ (HR8.out.below hb)
  have t2 := txt_run _ _ _ (HU8.out.below hb)
  clear hb hr HY8 HU8 HB8 HR8 HF3 d0 d1 d2 d3 d4 d5 d6 d7 d8 d9 d10
  go_wp2_with fail
  go_ret
  exact ⟨rfl, HB9.out⟩

set_option maxHeartbeats 8000000 in
set_option maxRecDepth 10000 in
theorem back_nn (a av : Option Addr) (n c m cv : Nat) (T : Nat → Int) (ls : List Ln) (xs : List (BitVec 8)) (hn : n ≤ 20) (hm : m ≤ 500) (w : World) (hv : Els RLn 5 w (.slice a n c) ls) (hu : Byts w (.slice av m cv) xs) (hln : ls.length = n) (hlm : xs.length = m) (hok : ¬ OkC T ls) (hd : dcode xs ≠ 0) :
    Calls Tryd.prog 4 #[.agg (cfc (.slice a n c) T), .slice av m cv] w fun e w' => e = .returned (.bool true) ∧ Below w.heap.size w w' := by
  have HB := Lib.hid (below_alloc (Below.refl _ w) (.cells (cfc (.slice a n c) T) 26))
  have HX := Lib.hid (cx_new w (.slice a n c) T ls hv)
  have HU := Lib.hid (hu.below (below_alloc (Below.refl _ w) (.cells (cfc (.slice a n c) T) 26)))
  have q0 : decide ((20 : Int) < (n : Int)) = false := decide_eq_false (by omega)
  have q1 : decide ((500 : Int) < (m : Int)) = false := decide_eq_false (by omega)
  have hl2 : xs.length ≤ 1000 := by omega
  have hl1 : ls.length ≤ 1000 := by omega
  obtain ⟨X, hX⟩ : ∃ X, X = ebytes T ls := ⟨_, rfl⟩
  have HE1 := Lib.hid (fun w h => enc_any (.slice a n c) T ls 6 X (if_neg hok).symm hX w h)
  have HE5 := Lib.hid (fun w h => check_any (.slice a n c) T ls 6 (if_neg hok).symm w h)
  have HF1 := Lib.hid (fun w h => dec_bad (.slice av m cv) xs _ rfl hd w h hl2)
  have HF2 := Lib.hid (fun a c w => rsame_any (.slice a 0 c) (.slice none 0 0) (fun _ => 0) (fun _ => 0) [] [] true (by simp) w (els0 w a c) (zels w) (by decide))
  generalize dcode xs = kd at *
  clear hv hu hX hl1 hl2 hok hd hln hlm
  unfold cfc at *
  go_enter Tryd.func4, Tryd.ntmps4
  go_wp2_with fail
  (with_reducible refine (small_true _).mono ?_)
  rintro e w1 ⟨rfl, hb⟩
  obtain ⟨c0, c1, c2, c3, c4, c5, c6, c7, c8, c9, c10⟩ := cells11 (HX.out.below hb)
  have HX1 := Lib.hid (HX.out.below hb)
  have HU1 := Lib.hid (HU.out.below hb)
  have HB1 := Lib.hid (below_call HB.out hb)
  clear hb HB HX HU
  go_wp2_with fail
  (with_reducible refine (HE1.out _ HX1.out.els).mono ?_)
  rintro e w2 ⟨a2, k2, r2, rfl, hby, hr, hb⟩
  obtain ⟨g2, rfl, _⟩ := hr.not (by decide)
  have HR2 := Lib.hid hby
  have HX2 := Lib.hid (HX1.out.below hb)
  have HU2 := Lib.hid (HU1.out.below hb)
  have HB2 := Lib.hid (below_call HB1.out hb)
  clear hb hby hr HB1 HX1 HU1 HE1 c0 c1 c2 c3 c4 c5 c6 c7 c8 c9 c10
  go_wp2_with fail
  refine wp_region_held_drew (S := (fun w' => Cx w' w.heap.size (.slice a n c) T ls)) (by kernel_rfl) HX2.out (fun hHeld => ?_)
  refine wpAnyH_take (i := 0) (oi := ?_) (v := ?_) ?_ (by kernel_rfl) (by kernel_rfl) (by kernel_rfl) ?_ (Or.inl ⟨?_, ?_⟩) hHeld ?_
  rotate_left 2
  · (simp only [List.getElem?_toArray, List.getElem?_cons_zero]; rfl)
  · exact (fun _ _ _ h => h)
  · rfl
  · (intro w hSw; (try dsimp only at hSw); go_simp; try with_reducible rfl)
  (try simp only [Act.put, List.setIfInBounds_toArray, List.set_cons_zero, List.set_cons_succ])
  refine wpAnyH_take (i := 1) (oi := ?_) (v := ?_) ?_ (by kernel_rfl) (by kernel_rfl) (by kernel_rfl) ?_ (Or.inl ⟨?_, ?_⟩) hHeld ?_
  rotate_left 2
  · (simp only [List.getElem?_toArray, List.getElem?_cons_zero, List.getElem?_cons_succ]; rfl)
  · exact (fun _ _ _ h => h)
  · rfl
  · (intro w hSw; (try dsimp only at hSw); go_simp; try with_reducible rfl)
  (try simp only [Act.put, List.setIfInBounds_toArray, List.set_cons_zero, List.set_cons_succ])
  refine wpAnyH_take (i := 2) (oi := ?_) (v := ?_) ?_ (by kernel_rfl) (by kernel_rfl) (by kernel_rfl) ?_ (Or.inl ⟨?_, ?_⟩) hHeld ?_
  rotate_left 2
  · (simp only [List.getElem?_toArray, List.getElem?_cons_zero, List.getElem?_cons_succ]; rfl)
  · exact (fun _ _ _ h => h)
  · rfl
  · (intro w hSw; (try dsimp only at hSw); obtain ⟨c0, c1, c2, c3, c4, c5, c6, c7, c8, c9, c10⟩ := cells11 hSw; go_simp; try with_reducible rfl)
  (try simp only [Act.put, List.setIfInBounds_toArray, List.set_cons_zero, List.set_cons_succ])
  refine wpAnyH_ready (rs := [3]) (by kernel_rfl) (by simp) ?_
  refine AllReadyH.cons (o := ?_) ?_ (fun K hK => ?_) AllReadyH.nil
  rotate_left
  · (simp only [List.getElem?_toArray, List.getElem?_cons_zero, List.getElem?_cons_succ]; rfl)
  go_simp
  (with_reducible refine (HE5.out _ (HX2.out.els.below (fun _ _ _ h => h.below (bel_drew _)))).mono ?_)
  rintro e w4 ⟨r4, rfl, hr, hb0⟩
  obtain ⟨g4, rfl, _⟩ := hr.not (by decide)
  have hb := below_call (bel_drew w2) hb0
  have HR4 := Lib.hid (HR2.out.below hb)
  have HX4 := Lib.hid (HX2.out.below hb)
  have HU4 := Lib.hid (HU2.out.below hb)
  have HB4 := Lib.hid (below_call HB2.out hb)
  clear hb hb0 hr HR2 HX2 HU2 HB2
  go_wp2_with fail
  refine hK.out _ _ HX4.out (fun hHeld => ?_)
  clear hK K
  (try simp only [Act.put, List.setIfInBounds_toArray, List.set_cons_zero, List.set_cons_succ])
  refine wpAnyH_take (i := 4) (oi := ?_) (v := ?_) ?_ (by kernel_rfl) (by kernel_rfl) (by kernel_rfl) ?_ (Or.inl ⟨?_, ?_⟩) hHeld ?_
  rotate_left 2
  · (simp only [List.getElem?_toArray, List.getElem?_cons_zero, List.getElem?_cons_succ]; rfl)
  · exact (fun _ _ _ h => h)
  · rfl
  · (intro w hSw; (try dsimp only at hSw); go_simp; try with_reducible rfl)
  (try simp only [Act.put, List.setIfInBounds_toArray, List.set_cons_zero, List.set_cons_succ])
  refine wpAnyH_take (i := 5) (oi := ?_) (v := ?_) ?_ (by kernel_rfl) (by kernel_rfl) (by kernel_rfl) ?_ (Or.inl ⟨?_, ?_⟩) hHeld ?_
  rotate_left 2
  · (simp only [List.getElem?_toArray, List.getElem?_cons_zero, List.getElem?_cons_succ]; rfl)
  · exact (fun _ _ _ h => h)
  · rfl
  · (intro w hSw; (try dsimp only at hSw); go_simp; try with_reducible rfl)
  (try simp only [Act.put, List.setIfInBounds_toArray, List.set_cons_zero, List.set_cons_succ])
  refine wpAnyH_done (by kernel_rfl) ?_ _
  go_wp2_with fail
  (with_reducible refine (HF1.out _ HU4.out).mono ?_)
  rintro e w7 ⟨a7, k7, g7, rfl, _, hb0⟩
  have HK := Lib.hid (below_alloc (Below.refl _ w7) (.cells (cft (.slice a7 0 k7) 0) 26))
  have HB7 := Lib.hid (below_call HB4.out (below_call hb0 HK.out))
  have HY7 := Lib.hid (blk_new w7 (cft (.slice a7 0 k7) 0) 26)
  clear hb0 HK HU4 HB4 HF1
  obtain ⟨d0, d1, d2, d3, d4, d5, d6, d7, d8, d9, d10⟩ := Blk.eleven (v := .slice a7 0 k7) (T := fun _ => 0) HY7.out
  go_wp2_with fail
  (with_reducible refine (HF2.out _ _ _).mono ?_)
  rintro e w8 ⟨rfl, hb⟩
  have HB8 := Lib.hid (below_call HB7.out hb)
  clear hb HB7 HY7 HF2 d0 d1 d2 d3 d4 d5 d6 d7 d8 d9 d10
  go_wp2_with fail
  go_ret
  exact ⟨rfl, HB8.out⟩

theorem lawBack_any (u v : Value) (T : Nat → Int) (ls : List Ln) (xs : List (BitVec 8)) (w : World) (hv : Els RLn 5 w u ls) (hu : Byts w v xs) :
    Calls Tryd.prog 4 #[.agg (cfc u T), v] w fun e w' => e = .returned (.bool true) ∧ Below w.heap.size w w' := by
  obtain ⟨a, c, e⟩ := hv.len
  obtain ⟨av, cv, ev⟩ := hu.len
  subst e ev
  by_cases h : 20 < ls.length ∨ 500 < xs.length
  · exact back_long a av _ c _ cv T h w
  · by_cases h1 : OkC T ls
    · by_cases h2 : dcode xs = 0
      · exact back_yy a av _ c _ cv T ls xs (by omega) (by omega) w hv hu rfl rfl h1 h2
      · exact back_yn a av _ c _ cv T ls xs (by omega) (by omega) w hv hu rfl rfl h1 h2
    · by_cases h2 : dcode xs = 0
      · exact back_ny a av _ c _ cv T ls xs (by omega) (by omega) w hv hu rfl rfl h1 h2
      · exact back_nn a av _ c _ cv T ls xs (by omega) (by omega) w hv hu rfl rfl h1 h2
end Go.Proofs.YthjpacdhaeoecaaDoor

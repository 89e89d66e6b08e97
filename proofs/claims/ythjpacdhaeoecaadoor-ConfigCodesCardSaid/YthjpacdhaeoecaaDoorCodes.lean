/-
  The walk of crossbucklaw08.ConfigCodes: true, whatever it is given.
-/
import Derived.Test.YthjpacdhaeoecaaDoorAny
import Derived.Test.YthjpacdhaeoecaaDoorTurned
import Derived.Test.YthjpacdhaeoecaaDoorTxt
import Derived.Deep.RegionHeld3
namespace Go.Proofs.YthjpacdhaeoecaaDoor
open Go.RowKit

set_option maxHeartbeats 4000000 in
set_option maxRecDepth 10000 in
theorem codes_long (a av : Option Addr) (n c m cv : Nat) (T : Nat → Int) (hl : 20 < n ∨ 500 < m) (w : World) :
    Calls Tryd.prog 3 #[.agg (cfc (.slice a n c) T), .slice av m cv] w fun e w' => e = .returned (.bool true) ∧ Below w.heap.size w w' := by
  have HB := Lib.hid (below_alloc (Below.refl _ w) (.cells (cfc (.slice a n c) T) 26))
  have HX := Lib.hid (blk_new w (cfc (.slice a n c) T) 26)
  unfold cfc at *
  go_enter Tryd.func3, Tryd.ntmps3
  go_wp2_with fail
  (with_reducible refine (small_true _).mono ?_)
  rintro e w1 ⟨rfl, hb⟩
  have hc0 := (HX.out.below hb).cell 0 (u := .slice a n c) rfl
  have HB1 := Lib.hid (below_call HB.out hb)
  clear hb HB HX
  by_cases h1 : 20 < n
  · have q0 : decide ((20 : Int) < (n : Int)) = true := decide_eq_true (by omega)
    clear h1 hl
    go_wp2_with fail
    go_ret
    exact ⟨rfl, HB1.out⟩
  · have q0 : decide ((20 : Int) < (n : Int)) = false := decide_eq_false (by omega)
    have q1 : decide ((500 : Int) < (m : Int)) = true := decide_eq_true (by omega)
    clear h1 hl
    go_wp2_with fail
    go_ret
    exact ⟨rfl, HB1.out⟩

theorem dLs_le (xs : List (BitVec 8)) : (dLs xs).length ≤ 255 := by
  unfold dLs
  split
  · rw [rdLs_length]
    have := rdN_lt (dbody xs)
    omega
  · simp

set_option maxHeartbeats 8000000 in
set_option maxRecDepth 10000 in
theorem codes_main (a av : Option Addr) (n c m cv : Nat) (T : Nat → Int) (ls : List Ln) (xs : List (BitVec 8)) (hn : n ≤ 20) (hm : m ≤ 500) (w : World) (hv : Els RLn 5 w (.slice a n c) ls) (hu : Byts w (.slice av m cv) xs) (hln : ls.length = n) (hlm : xs.length = m) :
    Calls Tryd.prog 3 #[.agg (cfc (.slice a n c) T), .slice av m cv] w fun e w' => e = .returned (.bool true) ∧ Below w.heap.size w w' := by
  have HB := Lib.hid (below_alloc (Below.refl _ w) (.cells (cfc (.slice a n c) T) 26))
  have HX := Lib.hid (cx_new w (.slice a n c) T ls hv)
  have HU := Lib.hid (hu.below (below_alloc (Below.refl _ w) (.cells (cfc (.slice a n c) T) 26)))
  have q0 : decide ((20 : Int) < (n : Int)) = false := decide_eq_false (by omega)
  have q1 : decide ((500 : Int) < (m : Int)) = false := decide_eq_false (by omega)
  obtain ⟨X, hX⟩ : ∃ X, X = ebytes T ls := ⟨_, rfl⟩
  obtain ⟨k, hk⟩ : ∃ k, k = ecode T ls := ⟨_, rfl⟩
  obtain ⟨T5, hT5⟩ : ∃ T, T = dT xs := ⟨_, rfl⟩
  obtain ⟨M, hM⟩ : ∃ M, M = dLs xs := ⟨_, rfl⟩
  obtain ⟨kd, hkd⟩ : ∃ k, k = dcode xs := ⟨_, rfl⟩
  have hl1 : ls.length ≤ 1000 := by omega
  have hl2 : xs.length ≤ 1000 := by omega
  have hl3 : M.length ≤ 1000 := by rw [hM]; have := dLs_le xs; omega
  have HE1 := Lib.hid (fun w h => enc_any (.slice a n c) T ls k X hk hX w h)
  have HE2 := Lib.hid (fun w h => renc_any (.slice a n c) T ls k X hk hX w h hl1)
  have HE3 := Lib.hid (fun w h => dec_any (.slice av m cv) xs kd T5 M hkd hT5 hM w h hl2)
  have HE4 := Lib.hid (fun w h => rdec_any (.slice av m cv) xs kd T5 M hkd hT5 hM w h hl2)
  have HE5 := Lib.hid (fun w h => check_any (.slice a n c) T ls k hk w h)
  have HE6 := Lib.hid (fun w h => rcheck_any (.slice a n c) T ls k hk w h hl1)
  have HE7 := Lib.hid (fun a c a' c' w h h' => rsame_any (.slice a M.length c) (.slice a' M.length c') T5 T5 M M true (by simp) w h h' hl3)
  have qx := txt_same X
  clear hv hu hX hk hT5 hM hkd hl1 hl2 hl3 hln hlm
  unfold cfc at *
  go_enter Tryd.func3, Tryd.ntmps3
  go_wp2_with fail
  (with_reducible refine (small_true _).mono ?_)
  rintro e w1 ⟨rfl, hb⟩
  obtain ⟨c0, c1, c2, c3, c4, c5, c6, c7, c8, c9, c10⟩ := cells11 (HX.out.below hb)
  have HX1 := Lib.hid (HX.out.below hb)
  have HU1 := Lib.hid (HU.out.below hb)
  have HB1 := Lib.hid (below_call HB.out hb)
  clear hb HB HX HU
  go_wp2_with fail
  (with_reducible refine (HE1.out _ HX1.out.els).mono ?_)
  rintro e w2 ⟨a2, k2, r2, rfl, hby, hr, hb⟩
  have HR2 := Lib.hid hby
  have HQ2 := Lib.hid hr
  have HX2 := Lib.hid (HX1.out.below hb)
  have HU2 := Lib.hid (HU1.out.below hb)
  have HB2 := Lib.hid (below_call HB1.out hb)
  clear hb hby hr HB1 HX1 HU1 HE1 c0 c1 c2 c3 c4 c5 c6 c7 c8 c9 c10
  obtain ⟨c0, c1, c2, c3, c4, c5, c6, c7, c8, c9, c10⟩ := cells11 HX2.out
  go_wp2_with fail
  (with_reducible refine (HE2.out _ HX2.out.els).mono ?_)
  rintro e w3 ⟨a3, k3, rfl, hby, hb⟩
  have HS3 := Lib.hid hby
  have HR3 := Lib.hid (HR2.out.below hb)
  have HQ3 := Lib.hid (HQ2.out.below hb)
  have HX3 := Lib.hid (HX2.out.below hb)
  have HU3 := Lib.hid (HU2.out.below hb)
  have HB3 := Lib.hid (below_call HB2.out hb)
  clear hb hby HR2 HQ2 HX2 HU2 HB2 HE2 c0 c1 c2 c3 c4 c5 c6 c7 c8 c9 c10
  go_wp2_with fail
  (with_reducible refine (HE3.out _ HU3.out).mono ?_)
  rintro e w4 ⟨a4, k4, r4, rfl, he, hr, hb0⟩
  have HK := Lib.hid (below_alloc (Below.refl _ w4) (.cells (cfc (.slice a4 M.length k4) T5) 26))
  have hb := below_call hb0 HK.out
  have HY4 := Lib.hid (cx_new w4 (.slice a4 M.length k4) T5 M he)
  have HD4 := Lib.hid (hr.below HK.out)
  have HS4 := Lib.hid (HS3.out.below hb)
  have HR4 := Lib.hid (HR3.out.below hb)
  have HQ4 := Lib.hid (HQ3.out.below hb)
  have HX4 := Lib.hid (HX3.out.below hb)
  have HU4 := Lib.hid (HU3.out.below hb)
  have HB4 := Lib.hid (below_call HB3.out hb)
  clear hb hb0 he hr HS3 HR3 HQ3 HX3 HU3 HB3 HE3 HK
  unfold cfc at *
  go_wp2_with fail
  (with_reducible refine (HE4.out _ HU4.out).mono ?_)
  rintro e w5 ⟨a5, k5, rfl, he, hb0⟩
  have HK := Lib.hid (below_alloc (Below.refl _ w5) (.cells (cfc (.slice a5 M.length k5) T5) 26))
  have hb := below_call hb0 HK.out
  have HZ5 := Lib.hid (cx_new w5 (.slice a5 M.length k5) T5 M he)
  have HY5 := Lib.hid (HY4.out.below hb)
  have HD5 := Lib.hid (HD4.out.below hb)
  have HS5 := Lib.hid (HS4.out.below hb)
  have HR5 := Lib.hid (HR4.out.below hb)
  have HQ5 := Lib.hid (HQ4.out.below hb)
  have HX5 := Lib.hid (HX4.out.below hb)
  have HB5 := Lib.hid (below_call HB4.out hb)
  clear hb hb0 he HY4 HD4 HS4 HR4 HQ4 HX4 HU4 HB4 HE4 HK
  unfold cfc at *
  have HOLD := Lib.hid (show ∀ w1 w2 : World, Below w1.heap.size w1 w2 → (fun w' => Cx w' w.heap.size (.slice a n c) T ls ∧ Byts w' (.slice a2 X.length k2) X ∧ Byts w' (.slice a3 X.length k3) X ∧ Cx w' w4.heap.size (.slice a4 M.length k4) T5 M ∧ Cx w' w5.heap.size (.slice a5 M.length k5) T5 M) w1 → (fun w' => Cx w' w.heap.size (.slice a n c) T ls ∧ Byts w' (.slice a2 X.length k2) X ∧ Byts w' (.slice a3 X.length k3) X ∧ Cx w' w4.heap.size (.slice a4 M.length k4) T5 M ∧ Cx w' w5.heap.size (.slice a5 M.length k5) T5 M) w2 from fun _ _ hb h => ⟨h.1.below hb, h.2.1.below hb, h.2.2.1.below hb, h.2.2.2.1.below hb, h.2.2.2.2.below hb⟩)
  have HS := Lib.hid (show (fun w' => Cx w' w.heap.size (.slice a n c) T ls ∧ Byts w' (.slice a2 X.length k2) X ∧ Byts w' (.slice a3 X.length k3) X ∧ Cx w' w4.heap.size (.slice a4 M.length k4) T5 M ∧ Cx w' w5.heap.size (.slice a5 M.length k5) T5 M) _ from ⟨HX5.out, HR5.out, HS5.out, HY5.out, HZ5.out⟩)
  have HSD := Lib.hid (HOLD.out _ _ (bel_drew _) HS.out)
  have HBD := Lib.hid (below_call HB5.out (bel_drew _))
  have HQD := Lib.hid (HQ5.out.below (bel_drew _))
  have HDD := Lib.hid (HD5.out.below (bel_drew _))
  clear HB5 HX5 HR5 HS5 HY5 HZ5 HQ5 HD5
  go_wp2_with fail
  refine wp_region_held_drew (S := (fun w' => Cx w' w.heap.size (.slice a n c) T ls ∧ Byts w' (.slice a2 X.length k2) X ∧ Byts w' (.slice a3 X.length k3) X ∧ Cx w' w4.heap.size (.slice a4 M.length k4) T5 M ∧ Cx w' w5.heap.size (.slice a5 M.length k5) T5 M)) (by kernel_rfl) HS.out (fun hHeld => ?_)
  refine wpAnyH_take (i := 0) (oi := ?_) (v := ?_) ?_ (by kernel_rfl) (by kernel_rfl) (by kernel_rfl) ?_ (Or.inl ⟨?_, ?_⟩) hHeld ?_
  rotate_left 2
  · (simp only [List.getElem?_toArray, List.getElem?_cons_zero]; rfl)
  · exact (fun _ _ _ h => h)
  · rfl
  · (intro w hSw; (try dsimp only at hSw); go_simp; try with_reducible rfl)
  (try simp only [Act.put, List.setIfInBounds_toArray, List.set_cons_zero, List.set_cons_succ])
  refine wpAnyH_take (i := 1) (oi := ?_) (v := ?_) ?_ (by kernel_rfl) (by kernel_rfl) (by kernel_rfl) ?_ (Or.inl ⟨?_, ?_⟩) hHeld ?_
  rotate_left 2
  · (simp only [List.getElem?_toArray, List.getElem?_cons_zero, List.getElem?_cons_succ]; rfl)
  · exact (fun _ _ _ h => h)
  · rfl
  · (intro w hSw; (try dsimp only at hSw); go_simp; try with_reducible rfl)
  (try simp only [Act.put, List.setIfInBounds_toArray, List.set_cons_zero, List.set_cons_succ])
  refine wpAnyH_take (i := 2) (oi := ?_) (v := ?_) ?_ (by kernel_rfl) (by kernel_rfl) (by kernel_rfl) ?_ (Or.inl ⟨?_, ?_⟩) hHeld ?_
  rotate_left 2
  · (simp only [List.getElem?_toArray, List.getElem?_cons_zero, List.getElem?_cons_succ]; rfl)
  · exact (fun _ _ _ h => h)
  · rfl
  · (intro w hSw; (try dsimp only at hSw); obtain ⟨c0, c1, c2, c3, c4, c5, c6, c7, c8, c9, c10⟩ := cells11 hSw.1; go_simp; try with_reducible rfl)
  (try simp only [Act.put, List.setIfInBounds_toArray, List.set_cons_zero, List.set_cons_succ])
  refine wpAnyH_take (i := 5) (oi := ?_) (v := ?_) ?_ (by kernel_rfl) (by kernel_rfl) (by kernel_rfl) ?_ (Or.inl ⟨?_, ?_⟩) hHeld ?_
  rotate_left 2
  · (simp only [List.getElem?_toArray, List.getElem?_cons_zero, List.getElem?_cons_succ]; rfl)
  · exact (fun _ _ _ h => h)
  · rfl
  · (intro w hSw; (try dsimp only at hSw); obtain ⟨c0, c1, c2, c3, c4, c5, c6, c7, c8, c9, c10⟩ := cells11 hSw.1; go_simp; try with_reducible rfl)
  (try simp only [Act.put, List.setIfInBounds_toArray, List.set_cons_zero, List.set_cons_succ])
  refine wpAnyH_ready (rs := [3]) (by kernel_rfl) (by simp) ?_
  refine AllReadyH.cons (o := ?_) ?_ (fun K hK => ?_) AllReadyH.nil
  rotate_left
  · (simp only [List.getElem?_toArray, List.getElem?_cons_zero, List.getElem?_cons_succ]; rfl)
  go_simp
  (with_reducible refine (HE5.out _ HSD.out.1.els).mono ?_)
  rintro e w6 ⟨r6, rfl, hr, hb⟩
  have HC6 := Lib.hid hr
  have HS6 := Lib.hid (HOLD.out _ _ hb HSD.out)
  have HB6 := Lib.hid (below_call HBD.out hb)
  have HQ6 := Lib.hid (HQD.out.below hb)
  have HD6 := Lib.hid (HDD.out.below hb)
  clear hb hr HSD HBD HQD HDD
  go_wp2_with fail
  refine hK.out _ _ HS6.out (fun hHeld => ?_)
  clear hK K
  (try simp only [Act.put, List.setIfInBounds_toArray, List.set_cons_zero, List.set_cons_succ])
  refine wpAnyH_ready (rs := [4]) (by kernel_rfl) (by simp) ?_
  refine AllReadyH.cons (o := ?_) ?_ (fun K hK => ?_) AllReadyH.nil
  rotate_left
  · (simp only [List.getElem?_toArray, List.getElem?_cons_zero, List.getElem?_cons_succ]; rfl)
  go_simp
  (with_reducible refine (code_err HC6.out).mono ?_)
  rintro e w7 ⟨rfl, rfl⟩
  go_wp2_with fail
  refine hK.out _ _ HS6.out (fun hHeld => ?_)
  clear hK K
  (try simp only [Act.put, List.setIfInBounds_toArray, List.set_cons_zero, List.set_cons_succ])
  refine wpAnyH_ready (rs := [6]) (by kernel_rfl) (by simp) ?_
  refine AllReadyH.cons (o := ?_) ?_ (fun K hK => ?_) AllReadyH.nil
  rotate_left
  · (simp only [List.getElem?_toArray, List.getElem?_cons_zero, List.getElem?_cons_succ]; rfl)
  go_simp
  (with_reducible refine (HE6.out _ HS6.out.1.els).mono ?_)
  rintro e w7 ⟨rfl, hb⟩
  have HS7 := Lib.hid (HOLD.out _ _ hb HS6.out)
  have HB7 := Lib.hid (below_call HB6.out hb)
  have HQ7 := Lib.hid (HQ6.out.below hb)
  have HD7 := Lib.hid (HD6.out.below hb)
  clear hb HC6 HS6 HB6 HQ6 HD6
  go_wp2_with fail
  refine hK.out _ _ HS7.out (fun hHeld => ?_)
  clear hK K
  (try simp only [Act.put, List.setIfInBounds_toArray, List.set_cons_zero, List.set_cons_succ])
  refine wpAnyH_take (i := 7) (oi := ?_) (v := ?_) ?_ (by kernel_rfl) (by kernel_rfl) (by kernel_rfl) ?_ (Or.inl ⟨?_, ?_⟩) hHeld ?_
  rotate_left 2
  · (simp only [List.getElem?_toArray, List.getElem?_cons_zero, List.getElem?_cons_succ]; rfl)
  · exact (fun _ _ _ h => h)
  · rfl
  · (intro w hSw; (try dsimp only at hSw); go_simp; try with_reducible rfl)
  (try simp only [Act.put, List.setIfInBounds_toArray, List.set_cons_zero, List.set_cons_succ])
  refine wpAnyH_take (i := 8) (oi := ?_) (v := ?_) ?_ (by kernel_rfl) (by kernel_rfl) (by kernel_rfl) ?_ (Or.inl ⟨?_, ?_⟩) hHeld ?_
  rotate_left 2
  · (simp only [List.getElem?_toArray, List.getElem?_cons_zero, List.getElem?_cons_succ]; rfl)
  · exact (fun _ _ _ h => h)
  · rfl
  · (intro w hSw; (try dsimp only at hSw); go_simp; try with_reducible rfl)
  (try simp only [Act.put, List.setIfInBounds_toArray, List.set_cons_zero, List.set_cons_succ])
  refine wpAnyH_take (i := 9) (oi := ?_) (v := ?_) ?_ (by kernel_rfl) (by kernel_rfl) (by kernel_rfl) ?_ (Or.inl ⟨?_, ?_⟩) hHeld ?_
  rotate_left 2
  · (simp only [List.getElem?_toArray, List.getElem?_cons_zero, List.getElem?_cons_succ]; rfl)
  · exact (fun _ _ _ h => h)
  · rfl
  · (intro w hSw; (try dsimp only at hSw); go_simp; try with_reducible rfl)
  (try simp only [Act.put, List.setIfInBounds_toArray, List.set_cons_zero, List.set_cons_succ])
  refine wpAnyH_take (i := 10) (oi := ?_) (v := ?_) ?_ (by kernel_rfl) (by kernel_rfl) (by kernel_rfl) ?_ (Or.inl ⟨?_, ?_⟩) hHeld ?_
  rotate_left 2
  · (simp only [List.getElem?_toArray, List.getElem?_cons_zero, List.getElem?_cons_succ]; rfl)
  · exact (fun _ _ _ h => h)
  · rfl
  · (intro w hSw; (try dsimp only at hSw); go_simp; try with_reducible rfl)
  (try simp only [Act.put, List.setIfInBounds_toArray, List.set_cons_zero, List.set_cons_succ])
  refine wpAnyH_take (i := 11) (oi := ?_) (v := ?_) ?_ (by kernel_rfl) (by kernel_rfl) (by kernel_rfl) ?_ (Or.inl ⟨?_, ?_⟩) hHeld ?_
  rotate_left 2
  · (simp only [List.getElem?_toArray, List.getElem?_cons_zero, List.getElem?_cons_succ]; rfl)
  · exact (fun _ _ _ h => h)
  · rfl
  · (intro w hSw; (try dsimp only at hSw); have hcv := txt_run _ _ _ hSw.2.1; go_simp; try with_reducible rfl)
  (try simp only [Act.put, List.setIfInBounds_toArray, List.set_cons_zero, List.set_cons_succ])
  refine wpAnyH_take (i := 12) (oi := ?_) (v := ?_) ?_ (by kernel_rfl) (by kernel_rfl) (by kernel_rfl) ?_ (Or.inl ⟨?_, ?_⟩) hHeld ?_
  rotate_left 2
  · (simp only [List.getElem?_toArray, List.getElem?_cons_zero, List.getElem?_cons_succ]; rfl)
  · exact (fun _ _ _ h => h)
  · rfl
  · (intro w hSw; (try dsimp only at hSw); go_simp; try with_reducible rfl)
  (try simp only [Act.put, List.setIfInBounds_toArray, List.set_cons_zero, List.set_cons_succ])
  refine wpAnyH_take (i := 13) (oi := ?_) (v := ?_) ?_ (by kernel_rfl) (by kernel_rfl) (by kernel_rfl) ?_ (Or.inl ⟨?_, ?_⟩) hHeld ?_
  rotate_left 2
  · (simp only [List.getElem?_toArray, List.getElem?_cons_zero, List.getElem?_cons_succ]; rfl)
  · exact (fun _ _ _ h => h)
  · rfl
  · (intro w hSw; (try dsimp only at hSw); have hcv := txt_run _ _ _ hSw.2.2.1; go_simp; try with_reducible rfl)
  (try simp only [Act.put, List.setIfInBounds_toArray, List.set_cons_zero, List.set_cons_succ])
  refine wpAnyH_take (i := 14) (oi := ?_) (v := ?_) ?_ (by kernel_rfl) (by kernel_rfl) (by kernel_rfl) ?_ (Or.inl ⟨?_, ?_⟩) hHeld ?_
  rotate_left 2
  · (simp only [List.getElem?_toArray, List.getElem?_cons_zero, List.getElem?_cons_succ]; rfl)
  · exact (fun _ _ _ h => h)
  · rfl
  · (intro w hSw; (try dsimp only at hSw); go_simp; try with_reducible rfl)
  (try simp only [Act.put, List.setIfInBounds_toArray, List.set_cons_zero, List.set_cons_succ])
  refine wpAnyH_take (i := 15) (oi := ?_) (v := ?_) ?_ (by kernel_rfl) (by kernel_rfl) (by kernel_rfl) ?_ (Or.inl ⟨?_, ?_⟩) hHeld ?_
  rotate_left 2
  · (simp only [List.getElem?_toArray, List.getElem?_cons_zero, List.getElem?_cons_succ]; rfl)
  · exact (fun _ _ _ h => h)
  · rfl
  · (intro w hSw; (try dsimp only at hSw); go_simp; try with_reducible rfl)
  (try simp only [Act.put, List.setIfInBounds_toArray, List.set_cons_zero, List.set_cons_succ])
  refine wpAnyH_take (i := 16) (oi := ?_) (v := ?_) ?_ (by kernel_rfl) (by kernel_rfl) (by kernel_rfl) ?_ (Or.inl ⟨?_, ?_⟩) hHeld ?_
  rotate_left 2
  · (simp only [List.getElem?_toArray, List.getElem?_cons_zero, List.getElem?_cons_succ]; rfl)
  · exact (fun _ _ _ h => h)
  · rfl
  · (intro w hSw; (try dsimp only at hSw); go_simp; try with_reducible rfl)
  (try simp only [Act.put, List.setIfInBounds_toArray, List.set_cons_zero, List.set_cons_succ])
  refine wpAnyH_take (i := 17) (oi := ?_) (v := ?_) ?_ (by kernel_rfl) (by kernel_rfl) (by kernel_rfl) ?_ (Or.inl ⟨?_, ?_⟩) hHeld ?_
  rotate_left 2
  · (simp only [List.getElem?_toArray, List.getElem?_cons_zero, List.getElem?_cons_succ]; rfl)
  · exact (fun _ _ _ h => h)
  · rfl
  · (intro w hSw; (try dsimp only at hSw); go_simp; try with_reducible rfl)
  (try simp only [Act.put, List.setIfInBounds_toArray, List.set_cons_zero, List.set_cons_succ])
  refine wpAnyH_take (i := 19) (oi := ?_) (v := ?_) ?_ (by kernel_rfl) (by kernel_rfl) (by kernel_rfl) ?_ (Or.inl ⟨?_, ?_⟩) hHeld ?_
  rotate_left 2
  · (simp only [List.getElem?_toArray, List.getElem?_cons_zero, List.getElem?_cons_succ]; rfl)
  · exact (fun _ _ _ h => h)
  · rfl
  · (intro w hSw; (try dsimp only at hSw); go_simp; try with_reducible rfl)
  (try simp only [Act.put, List.setIfInBounds_toArray, List.set_cons_zero, List.set_cons_succ])
  refine wpAnyH_ready (rs := [18]) (by kernel_rfl) (by simp) ?_
  refine AllReadyH.cons (o := ?_) ?_ (fun K hK => ?_) AllReadyH.nil
  rotate_left
  · (simp only [List.getElem?_toArray, List.getElem?_cons_zero, List.getElem?_cons_succ]; rfl)
  go_simp
  (with_reducible refine (code_err HQ7.out).mono ?_)
  rintro e w8 ⟨rfl, rfl⟩
  go_wp2_with fail
  refine hK.out _ _ HS7.out (fun hHeld => ?_)
  clear hK K
  (try simp only [Act.put, List.setIfInBounds_toArray, List.set_cons_zero, List.set_cons_succ])
  refine wpAnyH_take (i := 20) (oi := ?_) (v := ?_) ?_ (by kernel_rfl) (by kernel_rfl) (by kernel_rfl) ?_ (Or.inl ⟨?_, ?_⟩) hHeld ?_
  rotate_left 2
  · (simp only [List.getElem?_toArray, List.getElem?_cons_zero, List.getElem?_cons_succ]; rfl)
  · exact (fun _ _ _ h => h)
  · rfl
  · (intro w hSw; (try dsimp only at hSw); go_simp; try with_reducible rfl)
  (try simp only [Act.put, List.setIfInBounds_toArray, List.set_cons_zero, List.set_cons_succ])
  refine wpAnyH_take (i := 21) (oi := ?_) (v := ?_) ?_ (by kernel_rfl) (by kernel_rfl) (by kernel_rfl) ?_ (Or.inl ⟨?_, ?_⟩) hHeld ?_
  rotate_left 2
  · (simp only [List.getElem?_toArray, List.getElem?_cons_zero, List.getElem?_cons_succ]; rfl)
  · exact (fun _ _ _ h => h)
  · rfl
  · (intro w hSw; (try dsimp only at hSw); go_simp; try with_reducible rfl)
  (try simp only [Act.put, List.setIfInBounds_toArray, List.set_cons_zero, List.set_cons_succ])
  refine wpAnyH_take (i := 22) (oi := ?_) (v := ?_) ?_ (by kernel_rfl) (by kernel_rfl) (by kernel_rfl) ?_ (Or.inl ⟨?_, ?_⟩) hHeld ?_
  rotate_left 2
  · (simp only [List.getElem?_toArray, List.getElem?_cons_zero, List.getElem?_cons_succ]; rfl)
  · exact (fun _ _ _ h => h)
  · rfl
  · (intro w hSw; (try dsimp only at hSw); go_simp; try with_reducible rfl)
  (try simp only [Act.put, List.setIfInBounds_toArray, List.set_cons_zero, List.set_cons_succ])
  refine wpAnyH_take (i := 23) (oi := ?_) (v := ?_) ?_ (by kernel_rfl) (by kernel_rfl) (by kernel_rfl) ?_ (Or.inl ⟨?_, ?_⟩) hHeld ?_
  rotate_left 2
  · (simp only [List.getElem?_toArray, List.getElem?_cons_zero, List.getElem?_cons_succ]; rfl)
  · exact (fun _ _ _ h => h)
  · rfl
  · (intro w hSw; (try dsimp only at hSw); obtain ⟨c0, c1, c2, c3, c4, c5, c6, c7, c8, c9, c10⟩ := cells11 hSw.2.2.2.1; go_simp; try with_reducible rfl)
  (try simp only [Act.put, List.setIfInBounds_toArray, List.set_cons_zero, List.set_cons_succ])
  refine wpAnyH_take (i := 24) (oi := ?_) (v := ?_) ?_ (by kernel_rfl) (by kernel_rfl) (by kernel_rfl) ?_ (Or.inl ⟨?_, ?_⟩) hHeld ?_
  rotate_left 2
  · (simp only [List.getElem?_toArray, List.getElem?_cons_zero, List.getElem?_cons_succ]; rfl)
  · exact (fun _ _ _ h => h)
  · rfl
  · (intro w hSw; (try dsimp only at hSw); obtain ⟨c0, c1, c2, c3, c4, c5, c6, c7, c8, c9, c10⟩ := cells11 hSw.2.2.2.2; go_simp; try with_reducible rfl)
  (try simp only [Act.put, List.setIfInBounds_toArray, List.set_cons_zero, List.set_cons_succ])
  refine wpAnyH_ready (rs := [25]) (by kernel_rfl) (by simp) ?_
  refine AllReadyH.cons (o := ?_) ?_ (fun K hK => ?_) AllReadyH.nil
  rotate_left
  · (simp only [List.getElem?_toArray, List.getElem?_cons_zero, List.getElem?_cons_succ]; rfl)
  go_simp
  (with_reducible refine (HE7.out _ _ _ _ _ HS7.out.2.2.2.1.els HS7.out.2.2.2.2.els).mono ?_)
  rintro e w8 ⟨rfl, hb⟩
  have HS8 := Lib.hid (HOLD.out _ _ hb HS7.out)
  have HB8 := Lib.hid (below_call HB7.out hb)
  have HD8 := Lib.hid (HD7.out.below hb)
  clear hb HS7 HB7 HQ7 HD7
  go_wp2_with fail
  refine hK.out _ _ HS8.out (fun hHeld => ?_)
  clear hK K
  (try simp only [Act.put, List.setIfInBounds_toArray, List.set_cons_zero, List.set_cons_succ])
  refine wpAnyH_take (i := 26) (oi := ?_) (v := ?_) ?_ (by kernel_rfl) (by kernel_rfl) (by kernel_rfl) ?_ (Or.inl ⟨?_, ?_⟩) hHeld ?_
  rotate_left 2
  · (simp only [List.getElem?_toArray, List.getElem?_cons_zero, List.getElem?_cons_succ]; rfl)
  · exact (fun _ _ _ h => h)
  · rfl
  · (intro w hSw; (try dsimp only at hSw); go_simp; try with_reducible rfl)
  (try simp only [Act.put, List.setIfInBounds_toArray, List.set_cons_zero, List.set_cons_succ])
  refine wpAnyH_take (i := 27) (oi := ?_) (v := ?_) ?_ (by kernel_rfl) (by kernel_rfl) (by kernel_rfl) ?_ (Or.inl ⟨?_, ?_⟩) hHeld ?_
  rotate_left 2
  · (simp only [List.getElem?_toArray, List.getElem?_cons_zero, List.getElem?_cons_succ]; rfl)
  · exact (fun _ _ _ h => h)
  · rfl
  · (intro w hSw; (try dsimp only at hSw); go_simp; try with_reducible rfl)
  (try simp only [Act.put, List.setIfInBounds_toArray, List.set_cons_zero, List.set_cons_succ])
  refine wpAnyH_take (i := 28) (oi := ?_) (v := ?_) ?_ (by kernel_rfl) (by kernel_rfl) (by kernel_rfl) ?_ (Or.inl ⟨?_, ?_⟩) hHeld ?_
  rotate_left 2
  · (simp only [List.getElem?_toArray, List.getElem?_cons_zero, List.getElem?_cons_succ]; rfl)
  · exact (fun _ _ _ h => h)
  · rfl
  · (intro w hSw; (try dsimp only at hSw); go_simp; try with_reducible rfl)
  (try simp only [Act.put, List.setIfInBounds_toArray, List.set_cons_zero, List.set_cons_succ])
  refine wpAnyH_take (i := 30) (oi := ?_) (v := ?_) ?_ (by kernel_rfl) (by kernel_rfl) (by kernel_rfl) ?_ (Or.inl ⟨?_, ?_⟩) hHeld ?_
  rotate_left 2
  · (simp only [List.getElem?_toArray, List.getElem?_cons_zero, List.getElem?_cons_succ]; rfl)
  · exact (fun _ _ _ h => h)
  · rfl
  · (intro w hSw; (try dsimp only at hSw); go_simp; try with_reducible rfl)
  (try simp only [Act.put, List.setIfInBounds_toArray, List.set_cons_zero, List.set_cons_succ])
  refine wpAnyH_ready (rs := [29]) (by kernel_rfl) (by simp) ?_
  refine AllReadyH.cons (o := ?_) ?_ (fun K hK => ?_) AllReadyH.nil
  rotate_left
  · (simp only [List.getElem?_toArray, List.getElem?_cons_zero, List.getElem?_cons_succ]; rfl)
  go_simp
  (with_reducible refine (code_err HD8.out).mono ?_)
  rintro e w9 ⟨rfl, rfl⟩
  go_wp2_with fail
  refine hK.out _ _ HS8.out (fun hHeld => ?_)
  clear hK K
  (try simp only [Act.put, List.setIfInBounds_toArray, List.set_cons_zero, List.set_cons_succ])
  refine wpAnyH_take (i := 31) (oi := ?_) (v := ?_) ?_ (by kernel_rfl) (by kernel_rfl) (by kernel_rfl) ?_ (Or.inl ⟨?_, ?_⟩) hHeld ?_
  rotate_left 2
  · (simp only [List.getElem?_toArray, List.getElem?_cons_zero, List.getElem?_cons_succ]; rfl)
  · exact (fun _ _ _ h => h)
  · rfl
  · (intro w hSw; (try dsimp only at hSw); go_simp; try with_reducible rfl)
  (try simp only [Act.put, List.setIfInBounds_toArray, List.set_cons_zero, List.set_cons_succ])
  refine wpAnyH_take (i := 32) (oi := ?_) (v := ?_) ?_ (by kernel_rfl) (by kernel_rfl) (by kernel_rfl) ?_ (Or.inl ⟨?_, ?_⟩) hHeld ?_
  rotate_left 2
  · (simp only [List.getElem?_toArray, List.getElem?_cons_zero, List.getElem?_cons_succ]; rfl)
  · exact (fun _ _ _ h => h)
  · rfl
  · (intro w hSw; (try dsimp only at hSw); go_simp; try with_reducible rfl)
  (try simp only [Act.put, List.setIfInBounds_toArray, List.set_cons_zero, List.set_cons_succ])
  refine wpAnyH_take (i := 33) (oi := ?_) (v := ?_) ?_ (by kernel_rfl) (by kernel_rfl) (by kernel_rfl) ?_ (Or.inl ⟨?_, ?_⟩) hHeld ?_
  rotate_left 2
  · (simp only [List.getElem?_toArray, List.getElem?_cons_zero, List.getElem?_cons_succ]; rfl)
  · exact (fun _ _ _ h => h)
  · rfl
  · (intro w hSw; (try dsimp only at hSw); go_simp; try with_reducible rfl)
  (try simp only [Act.put, List.setIfInBounds_toArray, List.set_cons_zero, List.set_cons_succ])
  refine wpAnyH_done (by kernel_rfl) ?_ _
  go_wp2_with fail
  go_ret
  exact ⟨by simp, HB8.out⟩

theorem lawCodes_any (u v : Value) (T : Nat → Int) (ls : List Ln) (xs : List (BitVec 8)) (w : World) (hv : Els RLn 5 w u ls) (hu : Byts w v xs) :
    Calls Tryd.prog 3 #[.agg (cfc u T), v] w fun e w' => e = .returned (.bool true) ∧ Below w.heap.size w w' := by
  obtain ⟨a, c, e⟩ := hv.len
  obtain ⟨av, cv, ev⟩ := hu.len
  subst e ev
  by_cases h : 20 < ls.length ∨ 500 < xs.length
  · exact codes_long a av _ c _ cv T h w
  · exact codes_main a av _ c _ cv T ls xs (by omega) (by omega) w hv hu rfl rfl
end Go.Proofs.YthjpacdhaeoecaaDoor

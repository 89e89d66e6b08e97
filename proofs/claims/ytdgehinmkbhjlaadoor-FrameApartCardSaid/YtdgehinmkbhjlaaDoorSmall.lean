/-
  The small case of every law of layer 6: true.
-/
import Derived.Test.YtdgehinmkbhjlaaDoorSame
import Derived.Deep.RegionHeld3
import Derived.Deep.DeepCutAuto
import Derived.Deep.CutBlock
namespace Go.Proofs.YtdgehinmkbhjlaaDoor
open Go.RowKit

theorem opens_one : opens [1#8] = false := by decide +kernel
theorem form_three : ¬ Form (front (sealed [1#8, 2#8, 3#8])) := by
  rw [front_sealed]
  intro h
  have h3 := h.2.2
  revert h3
  decide
theorem fit_256 : ¬ Fit 0 256 ([] : List (BitVec 8)).length := by decide
theorem frm_one : frm 1#8 2#8 [9#8] = [1#8, 2#8, 1#8, 9#8] := rfl
theorem one1 : ((1#8 : BitVec 8).toNat : Int) = 1 := rfl
theorem two2 : ((2#8 : BitVec 8).toNat : Int) = 2 := rfl
/-- An error of the code k, in a block from B on. -/
def Er (w : World) (B : Nat) (v : Value) (k : Int) : Prop := ∃ g, B ≤ g ∧ v = .iface 50 (.pointer (some ⟨g, 0, none⟩)) ∧ w.cell? ⟨g, 1, none⟩ = some (.int .i64 k)
theorem er_cell {w w' : World} {g : Nat} {k : Int} (h : w.cell? ⟨g, 1, none⟩ = some (.int .i64 k)) (hb : Below w.heap.size w w') : w'.cell? ⟨g, 1, none⟩ = some (.int .i64 k) := below_cell hb h

set_option maxHeartbeats 4000000 in
set_option maxRecDepth 10000 in
theorem small_true (w : World) : Calls Tryd.prog 9 #[] w fun e w' => e = .returned (.bool true) ∧ Below w.heap.size w w' := by
  have L := Lib.hid (lit_byts w #[.int .u8 9] 1 (0, 0) [9#8] rfl rfl)
  have HB0 := Lib.hid (below_alloc (Below.refl _ w) (.cells #[.int .u8 9] 5))
  have hE := enc_yes 1#8 2#8 _ [9#8] _ L.out (by decide) (by decide)
  rw [one1, two2] at hE
  have HE := Lib.hid hE
  clear hE
  go_enter Tryd.func9, Tryd.ntmps9
  go_wp2_with fail
  (with_reducible refine HE.out.mono ?_)
  rintro e w1 ⟨r, rfl, hown, hb⟩
  have HB1 := Lib.hid (below_call HB0.out hb)
  have HR := Lib.hid hown.byts
  obtain ⟨ar, cr, er⟩ := hown.byts.len
  clear hown hb HE L HB0
  subst er
  rw [show (sealed (frm 1#8 2#8 [9#8])).length = 6 from rfl] at HR ⊢
  have hD := dec_yes _ _ 1#8 2#8 [9#8] _ HR.out (by decide) (opens_sealed _) (front_sealed _) (by decide) (by decide)
  rw [one1, two2] at hD
  have HD := Lib.hid hD
  clear hD
  go_wp2_with fail
  (with_reducible refine HD.out.mono ?_)
  rintro e w2 ⟨v, rfl, hv, hb⟩
  have HR2 := Lib.hid (HR.out.below hb)
  have HB2 := Lib.hid (below_call HB1.out hb)
  obtain ⟨av, cv, ev⟩ := hv.len
  have HV := Lib.hid hv
  clear hv hb HD HR HB1
  subst ev
  rw [show ([9#8] : List (BitVec 8)).length = 1 from rfl] at HV ⊢
  have HX2 := Lib.hid (box_new w2 1 2 (.slice av 1 cv))
  have HB2a := Lib.hid (below_alloc (Below.refl _ w2) (.cells #[.int .i64 1, .int .i64 2, .slice av 1 cv] 24))
  have hL : Byts ((w2.alloc (.cells #[.int .i64 1, .int .i64 2, .slice av 1 cv] 24)).alloc (.cells #[.int .u8 1] 5)) (.slice (some ⟨w2.heap.size + 1, 0, none⟩) 1 1) [1#8] := by
    have := lit_byts (w2.alloc (.cells #[.int .i64 1, .int .i64 2, .slice av 1 cv] 24)) #[.int .u8 1] 1 (0, 0) [1#8] rfl rfl
    simpa using this
  have L := Lib.hid hL
  clear hL
  go_wp2_with fail
  (with_reducible refine (dec_sum _ [1#8] _ L.out (by decide) opens_one).mono ?_)
  rintro e w3 ⟨g3, hg3, rfl, hc3, hb⟩
  have hb3 := below_call (below_alloc (Below.refl _ (w2.alloc (.cells #[.int .i64 1, .int .i64 2, .slice av 1 cv] 24))) (.cells #[.int .u8 1] 5)) hb
  have HX3 := Lib.hid (HX2.out.below hb3)
  have HW3 := Lib.hid (below_call HB2a.out hb3)
  have HR3 := Lib.hid (HR2.out.below HW3.out)
  have HV3 := Lib.hid (HV.out.below HW3.out)
  have HB3 := Lib.hid (below_call HB2.out HW3.out)
  have HC3 := Lib.hid hc3
  clear hg3 hc3 hb hb3 HX2 HB2a L HR2 HV HB2 HW3
  generalize w2.heap.size = bx at *
  have hL : Byts ((w3.alloc (.cells #[.int .i64 0, .int .i64 0, .slice none 0 0] 24)).alloc (.cells #[.int .u8 1, .int .u8 2, .int .u8 3] 5)) (.slice (some ⟨w3.heap.size + 1, 0, none⟩) 3 3) [1#8, 2#8, 3#8] := by
    have := lit_byts (w3.alloc (.cells #[.int .i64 0, .int .i64 0, .slice none 0 0] 24)) #[.int .u8 1, .int .u8 2, .int .u8 3] 3 (0, 0) [1#8, 2#8, 3#8] rfl rfl
    simpa using this
  have L := Lib.hid hL
  clear hL
  go_wp2_with fail
  (with_reducible refine (rseal_any _ [1#8, 2#8, 3#8] _ L.out (by decide)).mono ?_)
  rintro e w4 ⟨r4, rfl, hown, hb⟩
  have HW4 := Lib.hid (below_call (below_alloc (below_alloc (Below.refl _ w3) (.cells #[.int .i64 0, .int .i64 0, .slice none 0 0] 24)) (.cells #[.int .u8 1, .int .u8 2, .int .u8 3] 5)) hb)
  have HR4 := Lib.hid hown.byts
  clear hown hb L
  go_wp2_with fail
  (with_reducible refine (dec_form _ _ _ HR4.out (by decide) (opens_sealed _) form_three).mono ?_)
  rintro e w5 ⟨g5, hg5, rfl, hc5, hb⟩
  have HW5 := Lib.hid (below_call HW4.out hb)
  have HX5 := Lib.hid (HX3.out.below HW5.out)
  have HR5 := Lib.hid (HR3.out.below HW5.out)
  have HV5 := Lib.hid (HV3.out.below HW5.out)
  have HB5 := Lib.hid (below_call HB3.out HW5.out)
  have HC35 := Lib.hid (er_cell HC3.out HW5.out)
  have HC5 := Lib.hid hc5
  clear hg5 hc5 hb HX3 HR3 HV3 HB3 HC3 HW4 HR4 HW5
  go_wp2_with fail
  (with_reducible refine (enc_no 0 256 _ [] _ (byts_nil _) fit_256).mono ?_)
  rintro e w6 ⟨g6, hg6, rfl, hc6, hb⟩
  have HW6 := Lib.hid (below_call (below_alloc (Below.refl _ w5) (.cells #[.int .i64 0, .int .i64 0, .slice none 0 0] 24)) hb)
  have HX6 := Lib.hid (HX5.out.below HW6.out)
  have HR6 := Lib.hid (HR5.out.below HW6.out)
  have HV6 := Lib.hid (HV5.out.below HW6.out)
  have HB6 := Lib.hid (below_call HB5.out HW6.out)
  have HC36 := Lib.hid (er_cell HC35.out HW6.out)
  have HC56 := Lib.hid (er_cell HC5.out HW6.out)
  have HC6 := Lib.hid hc6
  clear hg6 hc6 hb HX5 HR5 HV5 HB5 HC35 HC5 HW6
  rw [frm_one] at HR6
  obtain ⟨X, hX⟩ : ∃ X, sealed [1#8, 2#8, 1#8, 9#8] = X := ⟨_, rfl⟩
  rw [hX] at HR6
  have HXX := Lib.hid hX
  clear hX
  go_upto_region 6 with fail
  go_cut [0] (fun s0 wx => s0 = .bool true ∧ Below w.heap.size w wx)
  case first =>
    have held : ∀ {wy : World}, Byts wy (.slice ar 6 cr) X → Box wy bx 1 2 (.slice av 1 cv) → (convert 22 9 (.slice ar 6 cr)).run Tryd.prog wy = .ok (.string (txt X)) wy ∧ wy.cell? ⟨bx, 0, none⟩ = some (.int .i64 1) ∧ wy.cell? ⟨bx, 1, none⟩ = some (.int .i64 2) ∧ wy.cell? ⟨bx, 2, none⟩ = some (.slice av 1 cv) := fun h1 h2 => ⟨txt_run _ _ _ h1, h2.cells⟩
    have hD : Below w6.heap.size w6 w6.drew := (Below.refl _ w6).drew
    have HK0 := Lib.hid (held (HR6.out.below hD) (HX6.out.below hD))
    have hDa : Below w6.heap.size w6 (w6.alloc (.cells #[.int .u8 1, .int .u8 2, .int .u8 1, .int .u8 9] 5)).drew := (below_alloc (Below.refl _ w6) _).drew
    have HBa := Lib.hid (below_call HB6.out hDa)
    have HRa := Lib.hid (HR6.out.below hDa)
    have HXa := Lib.hid (HX6.out.below hDa)
    have HVa := Lib.hid (HV6.out.below hDa)
    have HC3a := Lib.hid (er_cell HC36.out hDa)
    have HC5a := Lib.hid (er_cell HC56.out hDa)
    have HC6a := Lib.hid (er_cell HC6.out hDa)
    have HKa := Lib.hid (held HRa.out HXa.out)
    have LA := Lib.hid (show Byts (w6.alloc (.cells #[.int .u8 1, .int .u8 2, .int .u8 1, .int .u8 9] 5)).drew (.slice (some ⟨w6.heap.size, 0, none⟩) 4 4) [1#8, 2#8, 1#8, 9#8] from lit_byts w6 #[.int .u8 1, .int .u8 2, .int .u8 1, .int .u8 9] 4 (0, 0) [1#8, 2#8, 1#8, 9#8] rfl rfl)
    clear hD hDa HB6 HR6 HX6 HV6 HC36 HC56 HC6
    -- REGION
    refine wp_region_held_drew (S := (fun w' => (convert 22 9 (.slice ar 6 cr)).run Tryd.prog w' = .ok (.string (txt X)) w' ∧ w'.cell? ⟨bx, 0, none⟩ = some (.int .i64 1) ∧ w'.cell? ⟨bx, 1, none⟩ = some (.int .i64 2) ∧ w'.cell? ⟨bx, 2, none⟩ = some (.slice av 1 cv))) (by kernel_rfl) HK0.out (fun hHeld => ?_)
    refine wpAnyH_take (i := 0) (oi := ?_) (v := ?_) ?_ (by kernel_rfl) (by kernel_rfl) (by kernel_rfl) ?_ (Or.inl ⟨?_, ?_⟩) hHeld ?_
    rotate_left 2
    · (simp only [List.getElem?_toArray, List.getElem?_cons_zero]; rfl)
    · exact (fun _ _ _ h => h)
    · rfl
    · (intro w hSw; (try dsimp only at hSw); go_simp; try with_reducible rfl)
    (try simp only [Act.put, List.setIfInBounds_toArray, List.set_cons_zero, List.set_cons_succ])
    refine wpAnyH_take (i := 1) (oi := ?_) (v := ?_) ?_ (by kernel_rfl) (by kernel_rfl) (by kernel_rfl) ?_ (Or.inl ⟨?_, ?_⟩) hHeld ?_
    rotate_left 2
    · (simp only [List.getElem?_toArray, List.getElem?_cons_zero, List.getElem?_cons_succ]; rfl)
    · exact (fun _ _ _ h => h)
    · rfl
    · (intro w hSw; (try dsimp only at hSw); go_simp; try with_reducible rfl)
    (try simp only [Act.put, List.setIfInBounds_toArray, List.set_cons_zero, List.set_cons_succ])
    refine wpAnyH_take (i := 2) (oi := ?_) (v := ?_) ?_ (by kernel_rfl) (by kernel_rfl) (by kernel_rfl) ?_ (Or.inl ⟨?_, ?_⟩) hHeld ?_
    rotate_left 2
    · (simp only [List.getElem?_toArray, List.getElem?_cons_zero, List.getElem?_cons_succ]; rfl)
    · exact (fun _ _ _ h => h)
    · rfl
    · (intro w hSw; (try dsimp only at hSw); go_simp; try with_reducible rfl)
    (try simp only [Act.put, List.setIfInBounds_toArray, List.set_cons_zero, List.set_cons_succ])
    refine wpAnyH_take (i := 3) (oi := ?_) (v := ?_) ?_ (by kernel_rfl) (by kernel_rfl) (by kernel_rfl) ?_ (Or.inl ⟨?_, ?_⟩) hHeld ?_
    rotate_left 2
    · (simp only [List.getElem?_toArray, List.getElem?_cons_zero, List.getElem?_cons_succ]; rfl)
    · exact (fun _ _ _ h => h)
    · rfl
    · (intro w hSw; (try dsimp only at hSw); go_simp; try with_reducible rfl)
    (try simp only [Act.put, List.setIfInBounds_toArray, List.set_cons_zero, List.set_cons_succ])
    refine wpAnyH_take (i := 4) (oi := ?_) (v := ?_) ?_ (by kernel_rfl) (by kernel_rfl) (by kernel_rfl) ?_ (Or.inl ⟨?_, ?_⟩) hHeld ?_
    rotate_left 2
    · (simp only [List.getElem?_toArray, List.getElem?_cons_zero, List.getElem?_cons_succ]; rfl)
    · exact (fun _ _ _ h => h)
    · rfl
    · (intro w hSw; (try dsimp only at hSw); go_simp; try with_reducible rfl)
    (try simp only [Act.put, List.setIfInBounds_toArray, List.set_cons_zero, List.set_cons_succ])
    refine wpAnyH_ready (rs := [5]) (by kernel_rfl) (by simp) ?_
    refine AllReadyH.cons (o := ?_) ?_ (fun K hK => ?_) AllReadyH.nil
    rotate_left
    · (simp only [List.getElem?_toArray, List.getElem?_cons_zero, List.getElem?_cons_succ]; rfl)
    go_simp
    refine hK.out _ _ HKa.out (fun hHeld => ?_)
    clear hK K
    (try simp only [Act.put, List.setIfInBounds_toArray, List.set_cons_zero, List.set_cons_succ])
    refine wpAnyH_ready (rs := [6]) (by kernel_rfl) (by simp) ?_
    refine AllReadyH.cons (o := ?_) ?_ (fun K hK => ?_) AllReadyH.nil
    rotate_left
    · (simp only [List.getElem?_toArray, List.getElem?_cons_zero, List.getElem?_cons_succ]; rfl)
    go_simp
    (with_reducible refine (rseal_any _ [1#8, 2#8, 1#8, 9#8] _ LA.out (by decide)).mono ?_)
    (rintro e wb ⟨r7, rfl, hown, hb⟩; have HBb := Lib.hid (below_call HBa.out hb); have HRb := Lib.hid (HRa.out.below hb); have HXb := Lib.hid (HXa.out.below hb); have HVb := Lib.hid (HVa.out.below hb); have HC3b := Lib.hid (er_cell HC3a.out hb); have HC5b := Lib.hid (er_cell HC5a.out hb); have HC6b := Lib.hid (er_cell HC6a.out hb); have HKb := Lib.hid (held HRb.out HXb.out); rw [HXX.out] at hown; have hcv := txt_run _ _ _ hown.byts; have HOW := Lib.hid hown.byts; clear hown; clear hb HBa HRa HXa HVa HC3a HC5a HC6a HKa)
    go_wp2_with fail
    refine hK.out _ _ HKb.out (fun hHeld => ?_)
    clear hK K
    (try simp only [Act.put, List.setIfInBounds_toArray, List.set_cons_zero, List.set_cons_succ])
    refine wpAnyH_ready (rs := [7]) (by kernel_rfl) (by simp) ?_
    refine AllReadyH.cons (o := ?_) ?_ (fun K hK => ?_) AllReadyH.nil
    rotate_left
    · (simp only [List.getElem?_toArray, List.getElem?_cons_zero, List.getElem?_cons_succ]; rfl)
    go_simp
    have HBab := Lib.hid (below_alloc (Below.refl _ wb) (.cells #[.int .u8 9] 5))
    have HBc := Lib.hid (below_call HBb.out HBab.out)
    have HRc := Lib.hid (HRb.out.below HBab.out)
    have HXc := Lib.hid (HXb.out.below HBab.out)
    have HVc := Lib.hid (HVb.out.below HBab.out)
    have HC3c := Lib.hid (er_cell HC3b.out HBab.out)
    have HC5c := Lib.hid (er_cell HC5b.out HBab.out)
    have HC6c := Lib.hid (er_cell HC6b.out HBab.out)
    have HKc := Lib.hid (held HRc.out HXc.out)
    have hLc : Byts (wb.alloc (.cells #[.int .u8 9] 5)) (.slice (some ⟨wb.heap.size, 0, none⟩) 1 1) [9#8] := lit_byts wb #[.int .u8 9] 1 (0, 0) [9#8] rfl rfl
    have HSM := Lib.hid (same_any 1 2 1 2 _ _ [9#8] [9#8] _ HVc.out hLc true (by decide))
    have htx := txt_same X
    clear hLc HBab
    refine hK.out _ _ HKb.out (fun hHeld => ?_)
    clear hK K
    (try simp only [Act.put, List.setIfInBounds_toArray, List.set_cons_zero, List.set_cons_succ])
    refine wpAnyH_take (i := 8) (oi := ?_) (v := ?_) ?_ (by kernel_rfl) (by kernel_rfl) (by kernel_rfl) ?_ (Or.inl ⟨?_, ?_⟩) hHeld ?_
    rotate_left 2
    · (simp only [List.getElem?_toArray, List.getElem?_cons_zero, List.getElem?_cons_succ]; rfl)
    · exact (fun _ _ _ h => h)
    · rfl
    · (intro w hSw; (try dsimp only at hSw); go_simp; try with_reducible rfl)
    (try simp only [Act.put, List.setIfInBounds_toArray, List.set_cons_zero, List.set_cons_succ])
    refine wpAnyH_take (i := 9) (oi := ?_) (v := ?_) ?_ (by kernel_rfl) (by kernel_rfl) (by kernel_rfl) ?_ (Or.inl ⟨?_, ?_⟩) hHeld ?_
    rotate_left 2
    · (simp only [List.getElem?_toArray, List.getElem?_cons_zero, List.getElem?_cons_succ]; rfl)
    · exact (fun _ _ _ h => h)
    · rfl
    · (intro w hSw; (try dsimp only at hSw); go_simp; try with_reducible rfl)
    (try simp only [Act.put, List.setIfInBounds_toArray, List.set_cons_zero, List.set_cons_succ])
    refine wpAnyH_take (i := 10) (oi := ?_) (v := ?_) ?_ (by kernel_rfl) (by kernel_rfl) (by kernel_rfl) ?_ (Or.inl ⟨?_, ?_⟩) hHeld ?_
    rotate_left 2
    · (simp only [List.getElem?_toArray, List.getElem?_cons_zero, List.getElem?_cons_succ]; rfl)
    · exact (fun _ _ _ h => h)
    · rfl
    · (intro w hSw; (try dsimp only at hSw); go_simp; try with_reducible rfl)
    (try simp only [Act.put, List.setIfInBounds_toArray, List.set_cons_zero, List.set_cons_succ])
    refine wpAnyH_take (i := 11) (oi := ?_) (v := ?_) ?_ (by kernel_rfl) (by kernel_rfl) (by kernel_rfl) ?_ (Or.inl ⟨?_, ?_⟩) hHeld ?_
    rotate_left 2
    · (simp only [List.getElem?_toArray, List.getElem?_cons_zero, List.getElem?_cons_succ]; rfl)
    · exact (fun _ _ _ h => h)
    · rfl
    · (intro w hSw; (try dsimp only at hSw); go_simp; try with_reducible rfl)
    (try simp only [Act.put, List.setIfInBounds_toArray, List.set_cons_zero, List.set_cons_succ])
    refine wpAnyH_take (i := 12) (oi := ?_) (v := ?_) ?_ (by kernel_rfl) (by kernel_rfl) (by kernel_rfl) ?_ (Or.inl ⟨?_, ?_⟩) hHeld ?_
    rotate_left 2
    · (simp only [List.getElem?_toArray, List.getElem?_cons_zero, List.getElem?_cons_succ]; rfl)
    · exact (fun _ _ _ h => h)
    · rfl
    · (intro w hSw; (try dsimp only at hSw); go_simp; try with_reducible rfl)
    (try simp only [Act.put, List.setIfInBounds_toArray, List.set_cons_zero, List.set_cons_succ])
    refine wpAnyH_take (i := 13) (oi := ?_) (v := ?_) ?_ (by kernel_rfl) (by kernel_rfl) (by kernel_rfl) ?_ (Or.inl ⟨?_, ?_⟩) hHeld ?_
    rotate_left 2
    · (simp only [List.getElem?_toArray, List.getElem?_cons_zero, List.getElem?_cons_succ]; rfl)
    · exact (fun _ _ _ h => h)
    · rfl
    · (intro w hSw; (try dsimp only at hSw); go_simp; try with_reducible rfl)
    (try simp only [Act.put, List.setIfInBounds_toArray, List.set_cons_zero, List.set_cons_succ])
    refine wpAnyH_take (i := 14) (oi := ?_) (v := ?_) ?_ (by kernel_rfl) (by kernel_rfl) (by kernel_rfl) ?_ (Or.inl ⟨?_, ?_⟩) hHeld ?_
    rotate_left 2
    · (simp only [List.getElem?_toArray, List.getElem?_cons_zero, List.getElem?_cons_succ]; rfl)
    · exact (fun _ _ _ h => h)
    · rfl
    · (intro w hSw; (try dsimp only at hSw); go_simp; try with_reducible rfl)
    (try simp only [Act.put, List.setIfInBounds_toArray, List.set_cons_zero, List.set_cons_succ])
    refine wpAnyH_take (i := 15) (oi := ?_) (v := ?_) ?_ (by kernel_rfl) (by kernel_rfl) (by kernel_rfl) ?_ (Or.inl ⟨?_, ?_⟩) hHeld ?_
    rotate_left 2
    · (simp only [List.getElem?_toArray, List.getElem?_cons_zero, List.getElem?_cons_succ]; rfl)
    · exact (fun _ _ _ h => h)
    · rfl
    · (intro w hSw; (try dsimp only at hSw); go_simp; try with_reducible rfl)
    (try simp only [Act.put, List.setIfInBounds_toArray, List.set_cons_zero, List.set_cons_succ])
    refine wpAnyH_ready (rs := [16]) (by kernel_rfl) (by simp) ?_
    refine AllReadyH.cons (o := ?_) ?_ (fun K hK => ?_) AllReadyH.nil
    rotate_left
    · (simp only [List.getElem?_toArray, List.getElem?_cons_zero, List.getElem?_cons_succ]; rfl)
    go_simp
    refine hK.out _ _ HKc.out (fun hHeld => ?_)
    clear hK K
    (try simp only [Act.put, List.setIfInBounds_toArray, List.set_cons_zero, List.set_cons_succ])
    refine wpAnyH_take (i := 17) (oi := ?_) (v := ?_) ?_ (by kernel_rfl) (by kernel_rfl) (by kernel_rfl) ?_ (Or.inl ⟨?_, ?_⟩) hHeld ?_
    rotate_left 2
    · (simp only [List.getElem?_toArray, List.getElem?_cons_zero, List.getElem?_cons_succ]; rfl)
    · exact (fun _ _ _ h => h)
    · rfl
    · (intro w hSw; (try dsimp only at hSw); go_simp; try with_reducible rfl)
    (try simp only [Act.put, List.setIfInBounds_toArray, List.set_cons_zero, List.set_cons_succ])
    refine wpAnyH_ready (rs := [18]) (by kernel_rfl) (by simp) ?_
    refine AllReadyH.cons (o := ?_) ?_ (fun K hK => ?_) AllReadyH.nil
    rotate_left
    · (simp only [List.getElem?_toArray, List.getElem?_cons_zero, List.getElem?_cons_succ]; rfl)
    go_simp
    (with_reducible refine (HSM.out).mono ?_)
    (rintro e wd ⟨rfl, hb⟩; have HBd := Lib.hid (below_call HBc.out hb); have HRd := Lib.hid (HRc.out.below hb); have HXd := Lib.hid (HXc.out.below hb); have HVd := Lib.hid (HVc.out.below hb); have HC3d := Lib.hid (er_cell HC3c.out hb); have HC5d := Lib.hid (er_cell HC5c.out hb); have HC6d := Lib.hid (er_cell HC6c.out hb); have HKd := Lib.hid (held HRd.out HXd.out); clear hb HBc HRc HXc HVc HC3c HC5c HC6c HKc)
    go_wp2_with fail
    refine hK.out _ _ HKd.out (fun hHeld => ?_)
    clear hK K
    (try simp only [Act.put, List.setIfInBounds_toArray, List.set_cons_zero, List.set_cons_succ])
    refine wpAnyH_take (i := 19) (oi := ?_) (v := ?_) ?_ (by kernel_rfl) (by kernel_rfl) (by kernel_rfl) ?_ (Or.inl ⟨?_, ?_⟩) hHeld ?_
    rotate_left 2
    · (simp only [List.getElem?_toArray, List.getElem?_cons_zero, List.getElem?_cons_succ]; rfl)
    · exact (fun _ _ _ h => h)
    · rfl
    · (intro w hSw; (try dsimp only at hSw); go_simp; try with_reducible rfl)
    (try simp only [Act.put, List.setIfInBounds_toArray, List.set_cons_zero, List.set_cons_succ])
    refine wpAnyH_take (i := 20) (oi := ?_) (v := ?_) ?_ (by kernel_rfl) (by kernel_rfl) (by kernel_rfl) ?_ (Or.inl ⟨?_, ?_⟩) hHeld ?_
    rotate_left 2
    · (simp only [List.getElem?_toArray, List.getElem?_cons_zero, List.getElem?_cons_succ]; rfl)
    · exact (fun _ _ _ h => h)
    · rfl
    · (intro w hSw; (try dsimp only at hSw); go_simp; try with_reducible rfl)
    (try simp only [Act.put, List.setIfInBounds_toArray, List.set_cons_zero, List.set_cons_succ])
    refine wpAnyH_take (i := 21) (oi := ?_) (v := ?_) ?_ (by kernel_rfl) (by kernel_rfl) (by kernel_rfl) ?_ (Or.inl ⟨?_, ?_⟩) hHeld ?_
    rotate_left 2
    · (simp only [List.getElem?_toArray, List.getElem?_cons_zero, List.getElem?_cons_succ]; rfl)
    · exact (fun _ _ _ h => h)
    · rfl
    · (intro w hSw; (try dsimp only at hSw); go_simp; try with_reducible rfl)
    (try simp only [Act.put, List.setIfInBounds_toArray, List.set_cons_zero, List.set_cons_succ])
    refine wpAnyH_ready (rs := [22]) (by kernel_rfl) (by simp) ?_
    refine AllReadyH.cons (o := ?_) ?_ (fun K hK => ?_) AllReadyH.nil
    rotate_left
    · (simp only [List.getElem?_toArray, List.getElem?_cons_zero, List.getElem?_cons_succ]; rfl)
    go_simp
    (with_reducible refine (code_place _ 3 _ HC3d.out).mono ?_)
    (rintro e we ⟨rfl, rfl⟩)
    go_wp2_with fail
    refine hK.out _ _ HKd.out (fun hHeld => ?_)
    clear hK K
    (try simp only [Act.put, List.setIfInBounds_toArray, List.set_cons_zero, List.set_cons_succ])
    refine wpAnyH_take (i := 23) (oi := ?_) (v := ?_) ?_ (by kernel_rfl) (by kernel_rfl) (by kernel_rfl) ?_ (Or.inl ⟨?_, ?_⟩) hHeld ?_
    rotate_left 2
    · (simp only [List.getElem?_toArray, List.getElem?_cons_zero, List.getElem?_cons_succ]; rfl)
    · exact (fun _ _ _ h => h)
    · rfl
    · (intro w hSw; (try dsimp only at hSw); go_simp; try with_reducible rfl)
    (try simp only [Act.put, List.setIfInBounds_toArray, List.set_cons_zero, List.set_cons_succ])
    refine wpAnyH_take (i := 24) (oi := ?_) (v := ?_) ?_ (by kernel_rfl) (by kernel_rfl) (by kernel_rfl) ?_ (Or.inl ⟨?_, ?_⟩) hHeld ?_
    rotate_left 2
    · (simp only [List.getElem?_toArray, List.getElem?_cons_zero, List.getElem?_cons_succ]; rfl)
    · exact (fun _ _ _ h => h)
    · rfl
    · (intro w hSw; (try dsimp only at hSw); go_simp; try with_reducible rfl)
    (try simp only [Act.put, List.setIfInBounds_toArray, List.set_cons_zero, List.set_cons_succ])
    refine wpAnyH_take (i := 25) (oi := ?_) (v := ?_) ?_ (by kernel_rfl) (by kernel_rfl) (by kernel_rfl) ?_ (Or.inl ⟨?_, ?_⟩) hHeld ?_
    rotate_left 2
    · (simp only [List.getElem?_toArray, List.getElem?_cons_zero, List.getElem?_cons_succ]; rfl)
    · exact (fun _ _ _ h => h)
    · rfl
    · (intro w hSw; (try dsimp only at hSw); go_simp; try with_reducible rfl)
    (try simp only [Act.put, List.setIfInBounds_toArray, List.set_cons_zero, List.set_cons_succ])
    refine wpAnyH_take (i := 26) (oi := ?_) (v := ?_) ?_ (by kernel_rfl) (by kernel_rfl) (by kernel_rfl) ?_ (Or.inl ⟨?_, ?_⟩) hHeld ?_
    rotate_left 2
    · (simp only [List.getElem?_toArray, List.getElem?_cons_zero, List.getElem?_cons_succ]; rfl)
    · exact (fun _ _ _ h => h)
    · rfl
    · (intro w hSw; (try dsimp only at hSw); go_simp; try with_reducible rfl)
    (try simp only [Act.put, List.setIfInBounds_toArray, List.set_cons_zero, List.set_cons_succ])
    refine wpAnyH_ready (rs := [27]) (by kernel_rfl) (by simp) ?_
    refine AllReadyH.cons (o := ?_) ?_ (fun K hK => ?_) AllReadyH.nil
    rotate_left
    · (simp only [List.getElem?_toArray, List.getElem?_cons_zero, List.getElem?_cons_succ]; rfl)
    go_simp
    (with_reducible refine (code_place _ 2 _ HC5d.out).mono ?_)
    (rintro e we ⟨rfl, rfl⟩)
    go_wp2_with fail
    refine hK.out _ _ HKd.out (fun hHeld => ?_)
    clear hK K
    (try simp only [Act.put, List.setIfInBounds_toArray, List.set_cons_zero, List.set_cons_succ])
    refine wpAnyH_take (i := 28) (oi := ?_) (v := ?_) ?_ (by kernel_rfl) (by kernel_rfl) (by kernel_rfl) ?_ (Or.inl ⟨?_, ?_⟩) hHeld ?_
    rotate_left 2
    · (simp only [List.getElem?_toArray, List.getElem?_cons_zero, List.getElem?_cons_succ]; rfl)
    · exact (fun _ _ _ h => h)
    · rfl
    · (intro w hSw; (try dsimp only at hSw); go_simp; try with_reducible rfl)
    (try simp only [Act.put, List.setIfInBounds_toArray, List.set_cons_zero, List.set_cons_succ])
    refine wpAnyH_take (i := 29) (oi := ?_) (v := ?_) ?_ (by kernel_rfl) (by kernel_rfl) (by kernel_rfl) ?_ (Or.inl ⟨?_, ?_⟩) hHeld ?_
    rotate_left 2
    · (simp only [List.getElem?_toArray, List.getElem?_cons_zero, List.getElem?_cons_succ]; rfl)
    · exact (fun _ _ _ h => h)
    · rfl
    · (intro w hSw; (try dsimp only at hSw); go_simp; try with_reducible rfl)
    (try simp only [Act.put, List.setIfInBounds_toArray, List.set_cons_zero, List.set_cons_succ])
    refine wpAnyH_take (i := 30) (oi := ?_) (v := ?_) ?_ (by kernel_rfl) (by kernel_rfl) (by kernel_rfl) ?_ (Or.inl ⟨?_, ?_⟩) hHeld ?_
    rotate_left 2
    · (simp only [List.getElem?_toArray, List.getElem?_cons_zero, List.getElem?_cons_succ]; rfl)
    · exact (fun _ _ _ h => h)
    · rfl
    · (intro w hSw; (try dsimp only at hSw); go_simp; try with_reducible rfl)
    (try simp only [Act.put, List.setIfInBounds_toArray, List.set_cons_zero, List.set_cons_succ])
    refine wpAnyH_take (i := 31) (oi := ?_) (v := ?_) ?_ (by kernel_rfl) (by kernel_rfl) (by kernel_rfl) ?_ (Or.inl ⟨?_, ?_⟩) hHeld ?_
    rotate_left 2
    · (simp only [List.getElem?_toArray, List.getElem?_cons_zero, List.getElem?_cons_succ]; rfl)
    · exact (fun _ _ _ h => h)
    · rfl
    · (intro w hSw; (try dsimp only at hSw); go_simp; try with_reducible rfl)
    (try simp only [Act.put, List.setIfInBounds_toArray, List.set_cons_zero, List.set_cons_succ])
    refine wpAnyH_ready (rs := [32]) (by kernel_rfl) (by simp) ?_
    refine AllReadyH.cons (o := ?_) ?_ (fun K hK => ?_) AllReadyH.nil
    rotate_left
    · (simp only [List.getElem?_toArray, List.getElem?_cons_zero, List.getElem?_cons_succ]; rfl)
    go_simp
    (with_reducible refine (code_place _ 1 _ HC6d.out).mono ?_)
    (rintro e we ⟨rfl, rfl⟩)
    go_wp2_with fail
    refine hK.out _ _ HKd.out (fun hHeld => ?_)
    clear hK K
    (try simp only [Act.put, List.setIfInBounds_toArray, List.set_cons_zero, List.set_cons_succ])
    refine wpAnyH_take (i := 33) (oi := ?_) (v := ?_) ?_ (by kernel_rfl) (by kernel_rfl) (by kernel_rfl) ?_ (Or.inl ⟨?_, ?_⟩) hHeld ?_
    rotate_left 2
    · (simp only [List.getElem?_toArray, List.getElem?_cons_zero, List.getElem?_cons_succ]; rfl)
    · exact (fun _ _ _ h => h)
    · rfl
    · (intro w hSw; (try dsimp only at hSw); go_simp; try with_reducible rfl)
    (try simp only [Act.put, List.setIfInBounds_toArray, List.set_cons_zero, List.set_cons_succ])
    refine wpAnyH_take (i := 34) (oi := ?_) (v := ?_) ?_ (by kernel_rfl) (by kernel_rfl) (by kernel_rfl) ?_ (Or.inl ⟨?_, ?_⟩) hHeld ?_
    rotate_left 2
    · (simp only [List.getElem?_toArray, List.getElem?_cons_zero, List.getElem?_cons_succ]; rfl)
    · exact (fun _ _ _ h => h)
    · rfl
    · (intro w hSw; (try dsimp only at hSw); go_simp; try with_reducible rfl)
    (try simp only [Act.put, List.setIfInBounds_toArray, List.set_cons_zero, List.set_cons_succ])
    refine wpAnyH_take (i := 35) (oi := ?_) (v := ?_) ?_ (by kernel_rfl) (by kernel_rfl) (by kernel_rfl) ?_ (Or.inl ⟨?_, ?_⟩) hHeld ?_
    rotate_left 2
    · (simp only [List.getElem?_toArray, List.getElem?_cons_zero, List.getElem?_cons_succ]; rfl)
    · exact (fun _ _ _ h => h)
    · rfl
    · (intro w hSw; (try dsimp only at hSw); go_simp; try with_reducible rfl)
    (try simp only [Act.put, List.setIfInBounds_toArray, List.set_cons_zero])
    refine wpAnyH_done (by kernel_rfl) ?_ _
    go_wp2_with fail
    go_meet
    exact ⟨by simp, HBd.out⟩
  case rest =>
    obtain ⟨rfl, hb⟩ := hcut
    go_wp2_with fail
    go_ret
    exact ⟨rfl, hb⟩
end Go.Proofs.YtdgehinmkbhjlaaDoor

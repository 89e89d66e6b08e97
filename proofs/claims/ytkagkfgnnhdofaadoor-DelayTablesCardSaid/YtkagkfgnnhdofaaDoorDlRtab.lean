/-
  The document's Table and Bound by contract.
-/
import Derived.Test.YtkagkfgnnhdofaaDoorDlRof
import Derived.Test.YtkagkfgnnhdofaaDoorDlTrs
import Derived.Test.YtkagkfgnnhdofaaDoorDlTabs
import Derived.Test.YtkagkfgnnhdofaaDoorCfRchk
import Derived.Deep.RegionHeld3
namespace Go.Proofs.YtkagkfgnnhdofaaDoor
open Go.RowKit

theorem rtable_no (v : Value) (T : Nat → Int) (ls : List Ln) (hok : ¬ OkC T ls) (w : World) (hv : Els RLn 5 w v ls) (hl : ls.length ≤ 1000) :
    Calls Tryd.prog 18 #[.agg (cfc v T)] w fun e w' => e = .returned (.tuple #[.slice none 0 0, .int .i64 6]) ∧ Below w.heap.size w w' := by
  have HV := Lib.hid hv
  have HC := Lib.hid (fun w h => rcheck_any v T ls 6 (if_neg hok).symm w h hl)
  obtain ⟨av, cv, ev⟩ := hv.len
  subst ev
  clear hv hok hl
  have HB := Lib.hid (below_alloc (Below.refl _ w) (.cells (cfc (.slice av ls.length cv) T) 39))
  unfold cfc at HB HC ⊢
  go_enter Tryd.func18, Tryd.ntmps18
  go_wp2_with fail
  (with_reducible refine (HC.out _ (HV.out.below (fun _ _ _ h => h.below HB.out))).mono ?_)
  rintro e w1 ⟨rfl, hb⟩
  have HB1 := Lib.hid (below_call HB.out hb)
  clear hb HB HC HV
  go_wp2_with fail
  go_ret2
  exact ⟨rfl, HB1.out⟩

set_option maxHeartbeats 4000000 in
set_option maxRecDepth 10000 in
theorem rtable_yes (v : Value) (T : Nat → Int) (ls : List Ln) (hok : OkC T ls) (w : World) (hv : Els RLn 5 w v ls) (hl : ls.length ≤ 1000) :
    Calls Tryd.prog 18 #[.agg (cfc v T)] w fun e w' => ∃ a c, e = .returned (.tuple #[.slice a ls.length c, .int .i64 0]) ∧ Els R3 3 w' (.slice a ls.length c) (tab T ls) ∧ Below w.heap.size w w' := by
  have HV := Lib.hid hv
  have HC := Lib.hid (fun w h => rcheck_any v T ls 0 (if_pos hok).symm w h hl)
  have HOK := Lib.hid hok
  obtain ⟨av, cv, ev⟩ := hv.len
  obtain ⟨n, hn⟩ : ∃ n, n = ls.length := ⟨_, rfl⟩
  have HN := Lib.hid hn
  have hn8 : n ≤ 8 := by have := hok.1; omega
  rw [← hn] at ev ⊢
  subst ev
  clear hv hok hn hl
  have HB := Lib.hid (below_alloc (Below.refl _ w) (.cells (cfc (.slice av n cv) T) 39))
  have HX := Lib.hid (blk_new w (cfc (.slice av n cv) T) 39)
  unfold cfc at HB HC HX ⊢
  go_enter Tryd.func18, Tryd.ntmps18
  go_wp2_with fail
  (with_reducible refine (HC.out _ (HV.out.below (fun _ _ _ h => h.below HB.out))).mono ?_)
  rintro e w1 ⟨rfl, hb⟩
  have HB1 := Lib.hid (below_call HB.out hb)
  have HX1 := Lib.hid (HX.out.below hb)
  have HW1 := Lib.hid HX1.out.lt
  clear hb HB HC HX
  go_wp2_with fail
  go_loopw [5, 6] (fun o i wr => ∃ j : Nat, j ≤ n ∧ i = .int .i64 (j : Int) ∧ Hid (Below w.heap.size w wr) ∧ Hid (Blk wr w.heap.size #[.slice av n cv, .int .i64 (T 0), .int .i64 (T 1), .int .i64 (T 2), .int .i64 (T 3), .int .i64 (T 4), .int .i64 (T 5), .int .i64 (T 6), .int .i64 (T 7), .int .i64 (T 8), .int .i64 (T 9)] 39) ∧ ∃ a c, o = .slice a j c ∧ Hid (OwnT wr (w.heap.size + 1) (.slice a j c) (tab T (ls.take j)))) (fun _ i _ => n - (intOf i).toNat)
  case atStart => exact ⟨0, by omega, rfl, HB1, HX1, none, 0, rfl, Lib.hid (ownT_nil _ _)⟩
  case round =>
    obtain ⟨j, hj, rfl, HBr, HXr, ao, co, rfl, HO⟩ := hrel
    clear HB1 HX1
    have hc0 := HXr.out.cell 0 (u := .slice av n cv) rfl
    by_cases hlt : j < n
    · obtain ⟨l, hl⟩ : ∃ l, ls[j]? = some l := ⟨_, List.getElem?_eq_getElem (by rw [← HN.out]; exact hlt)⟩
      obtain ⟨g, o, ea, hr⟩ := HV.out.at_ hl
      subst ea
      have HR := Lib.hid hr
      have HTK := Lib.hid (show tab T (ls.take (j + 1)) = tab T (ls.take j) ++ [ofs l (T 9)] from by rw [List.take_add_one, hl]; simp [tab])
      have HF := Lib.hid (rof_any l (T 9) (okL_small (okC_line HOK.out hl)) (by have := okC_time HOK.out (i := 9) (by omega); omega))
      have HTL := Lib.hid (show j = (tab T (ls.take j)).length by rw [tab_length, List.length_take, ← HN.out]; omega)
      have hltI : (j : Int) < (n : Int) := by omega
      obtain ⟨lk, lg, la, lb, lc⟩ := l
      obtain ⟨fj, hfj⟩ : ∃ fj, fj = ofs ⟨lk, lg, la, lb, lc⟩ (T 9) := ⟨_, rfl⟩
      rw [← hfj] at HF HTK
      unfold RLn at HR
      dsimp only at HF HR
      have HSD := Lib.hid (below_call HBr.out (bel_drew wr))
      have HXD := Lib.hid (HXr.out.below (bel_drew wr))
      have HOD := Lib.hid (HO.out.below (bel_drew wr))
      have HSR := Lib.hid (show ∀ w' : World, Below w.heap.size w w' → w'.cell? ⟨g, o + j * 5, none⟩ = some (.int .i64 lk) ∧ w'.cell? ⟨g, o + j * 5 + 1, none⟩ = some (.int .i64 lg) ∧ w'.cell? ⟨g, o + j * 5 + 2, none⟩ = some (.int .i64 la) ∧ w'.cell? ⟨g, o + j * 5 + 3, none⟩ = some (.int .i64 lb) ∧ w'.cell? ⟨g, o + j * 5 + 4, none⟩ = some (.int .i64 lc) from fun w' hb => ⟨below_cell hb HR.out.1, below_cell hb HR.out.2.1, below_cell hb HR.out.2.2.1, below_cell hb HR.out.2.2.2.1, below_cell hb HR.out.2.2.2.2⟩)
      clear hl hr hfj HR HBr HXr HO
      go_wp2_with fail
      refine wp_region_held_drew (S := (fun w' => Below w.heap.size w w' ∧ Blk w' w.heap.size #[.slice (some ⟨g, o, none⟩) n cv, .int .i64 (T 0), .int .i64 (T 1), .int .i64 (T 2), .int .i64 (T 3), .int .i64 (T 4), .int .i64 (T 5), .int .i64 (T 6), .int .i64 (T 7), .int .i64 (T 8), .int .i64 (T 9)] 39)) (by kernel_rfl) ⟨HSD.out, HXD.out⟩ (fun hHeld => ?_)
      refine wpAnyH_take (i := 0) (oi := ?_) (v := ?_) ?_ (by kernel_rfl) (by kernel_rfl) (by kernel_rfl) ?_ (Or.inl ⟨?_, ?_⟩) hHeld ?_
      rotate_left 2
      · (simp only [List.getElem?_toArray, List.getElem?_cons_zero]; rfl)
      · exact (fun _ _ _ h => h)
      · rfl
      · (intro w hSw; (try dsimp only at hSw); go_simp; try with_reducible rfl)
      (try simp only [Act.put, List.setIfInBounds_toArray, List.set_cons_zero, List.set_cons_succ])
      refine wpAnyH_take (i := 1) (oi := ?_) (v := ?_) ?_ (by kernel_rfl) (by kernel_rfl) (by kernel_rfl) ?_ (Or.inl ⟨?_, ?_⟩) hHeld ?_
      rotate_left 2
      · (simp only [List.getElem?_toArray, List.getElem?_cons_zero, List.getElem?_cons_succ]; rfl)
      · exact (fun _ _ _ h => h)
      · rfl
      · (intro w hSw; (try dsimp only at hSw); go_simp; try with_reducible rfl)
      (try simp only [Act.put, List.setIfInBounds_toArray, List.set_cons_zero, List.set_cons_succ])
      refine wpAnyH_take (i := 2) (oi := ?_) (v := ?_) ?_ (by kernel_rfl) (by kernel_rfl) (by kernel_rfl) ?_ (Or.inl ⟨?_, ?_⟩) hHeld ?_
      rotate_left 2
      · (simp only [List.getElem?_toArray, List.getElem?_cons_zero, List.getElem?_cons_succ]; rfl)
      · exact (fun _ _ _ h => h)
      · rfl
      · (intro w hSw; (try dsimp only at hSw); have hq0 := hSw.2.cell 0 (u := .slice (some ⟨g, o, none⟩) n cv) rfl; go_simp; try with_reducible rfl)
      (try simp only [Act.put, List.setIfInBounds_toArray, List.set_cons_zero, List.set_cons_succ])
      refine wpAnyH_take (i := 3) (oi := ?_) (v := ?_) ?_ (by kernel_rfl) (by kernel_rfl) (by kernel_rfl) ?_ (Or.inl ⟨?_, ?_⟩) hHeld ?_
      rotate_left 2
      · (simp only [List.getElem?_toArray, List.getElem?_cons_zero, List.getElem?_cons_succ]; rfl)
      · exact (fun _ _ _ h => h)
      · rfl
      · (intro w hSw; (try dsimp only at hSw); go_simp; try with_reducible rfl)
      (try simp only [Act.put, List.setIfInBounds_toArray, List.set_cons_zero, List.set_cons_succ])
      refine wpAnyH_take (i := 4) (oi := ?_) (v := ?_) ?_ (by kernel_rfl) (by kernel_rfl) (by kernel_rfl) ?_ (Or.inl ⟨?_, ?_⟩) hHeld ?_
      rotate_left 2
      · (simp only [List.getElem?_toArray, List.getElem?_cons_zero, List.getElem?_cons_succ]; rfl)
      · exact (fun _ _ _ h => h)
      · rfl
      · (intro w hSw; (try dsimp only at hSw); go_simp; try with_reducible rfl)
      (try simp only [Act.put, List.setIfInBounds_toArray, List.set_cons_zero, List.set_cons_succ])
      refine wpAnyH_take (i := 5) (oi := ?_) (v := ?_) ?_ (by kernel_rfl) (by kernel_rfl) (by kernel_rfl) ?_ (Or.inl ⟨?_, ?_⟩) hHeld ?_
      rotate_left 2
      · (simp only [List.getElem?_toArray, List.getElem?_cons_zero, List.getElem?_cons_succ]; rfl)
      · exact (fun _ _ _ h => h)
      · rfl
      · (intro w hSw; (try dsimp only at hSw); obtain ⟨e0, e1, e2, e3, e4⟩ := HSR.out _ hSw.1; go_simp; try with_reducible rfl)
      (try simp only [Act.put, List.setIfInBounds_toArray, List.set_cons_zero, List.set_cons_succ])
      refine wpAnyH_take (i := 6) (oi := ?_) (v := ?_) ?_ (by kernel_rfl) (by kernel_rfl) (by kernel_rfl) ?_ (Or.inl ⟨?_, ?_⟩) hHeld ?_
      rotate_left 2
      · (simp only [List.getElem?_toArray, List.getElem?_cons_zero, List.getElem?_cons_succ]; rfl)
      · exact (fun _ _ _ h => h)
      · rfl
      · (intro w hSw; (try dsimp only at hSw); go_simp; try with_reducible rfl)
      (try simp only [Act.put, List.setIfInBounds_toArray, List.set_cons_zero, List.set_cons_succ])
      refine wpAnyH_take (i := 7) (oi := ?_) (v := ?_) ?_ (by kernel_rfl) (by kernel_rfl) (by kernel_rfl) ?_ (Or.inl ⟨?_, ?_⟩) hHeld ?_
      rotate_left 2
      · (simp only [List.getElem?_toArray, List.getElem?_cons_zero, List.getElem?_cons_succ]; rfl)
      · exact (fun _ _ _ h => h)
      · rfl
      · (intro w hSw; (try dsimp only at hSw); go_simp; try with_reducible rfl)
      (try simp only [Act.put, List.setIfInBounds_toArray, List.set_cons_zero, List.set_cons_succ])
      refine wpAnyH_take (i := 8) (oi := ?_) (v := ?_) ?_ (by kernel_rfl) (by kernel_rfl) (by kernel_rfl) ?_ (Or.inl ⟨?_, ?_⟩) hHeld ?_
      rotate_left 2
      · (simp only [List.getElem?_toArray, List.getElem?_cons_zero, List.getElem?_cons_succ]; rfl)
      · exact (fun _ _ _ h => h)
      · rfl
      · (intro w hSw; (try dsimp only at hSw); have hq10 := hSw.2.cell 10 (u := .int .i64 (T 9)) rfl; go_simp; try with_reducible rfl)
      (try simp only [Act.put, List.setIfInBounds_toArray, List.set_cons_zero, List.set_cons_succ])
      refine wpAnyH_ready (rs := [9]) (by kernel_rfl) (by simp) ?_
      refine AllReadyH.cons (o := ?_) ?_ (fun K hK => ?_) AllReadyH.nil
      rotate_left
      · (simp only [List.getElem?_toArray, List.getElem?_cons_zero, List.getElem?_cons_succ]; rfl)
      go_simp
      (with_reducible refine (HF.out _).mono ?_)
      rintro e w4 ⟨rfl, hb⟩
      have HB4 := Lib.hid (below_call HSD.out hb)
      have HX4 := Lib.hid (HXD.out.below hb)
      have HO4 := Lib.hid (HOD.out.below hb)
      have HK5 := Lib.hid (below_alloc (Below.refl _ w4) (.cells (tr3 fj) 32))
      have HB5 := Lib.hid (below_alloc HB4.out (.cells (tr3 fj) 32))
      have HX5 := Lib.hid (HX4.out.below HK5.out)
      have HO5 := Lib.hid (HO4.out.below HK5.out)
      have HE5 := Lib.hid (els3_one w4 fj 32)
      have hsz5 : w.heap.size + 1 ≤ (w4.alloc (.cells (tr3 fj) 32)).heap.size := by have := HX4.out.lt; simp; omega
      clear hb HSD HXD HOD
      unfold tr3 at HK5 HB5 HX5 HO5 HE5 hsz5 ⊢
      go_wp2_with fail
      refine hK.out _ _ ⟨HB4.out, HX4.out⟩ (fun hHeld => ?_)
      clear hK K
      (try simp only [Act.put, List.setIfInBounds_toArray, List.set_cons_zero, List.set_cons_succ])
      refine wpAnyH_ready (rs := [10]) (by kernel_rfl) (by simp) ?_
      refine AllReadyH.cons (o := ?_) ?_ (fun K hK => ?_) AllReadyH.nil
      rotate_left
      · (simp only [List.getElem?_toArray, List.getElem?_cons_zero, List.getElem?_cons_succ]; rfl)
      go_simp
      refine hK.out _ _ ⟨HB5.out, HX5.out⟩ (fun hHeld => ?_)
      clear hK K
      (try simp only [Act.put, List.setIfInBounds_toArray, List.set_cons_zero, List.set_cons_succ])
      refine wpAnyH_ready (rs := [11]) (by kernel_rfl) (by simp) ?_
      refine AllReadyH.cons (o := ?_) ?_ (fun K hK => ?_) AllReadyH.nil
      rotate_left
      · (simp only [List.getElem?_toArray, List.getElem?_cons_zero, List.getElem?_cons_succ]; rfl)
      refine step_appT rfl (.tmp 19) (.tmp 29) rfl (w.heap.size + 1) (.slice ao j co) j (tab T (ls.take j)) rfl HTL.out HO5.out w4.heap.size 0 1 1 [fj] rfl rfl HE5.out (by decide) (by omega) hsz5 ?_
      intro g5 cap5 w10 hown hb
      have HO11 := Lib.hid hown
      have HB11 := Lib.hid (HB5.out.trans (hb.mono (Nat.le_succ _)))
      have HX11 := Lib.hid (show Blk w10 w.heap.size #[.slice (some ⟨g, o, none⟩) n cv, .int .i64 (T 0), .int .i64 (T 1), .int .i64 (T 2), .int .i64 (T 3), .int .i64 (T 4), .int .i64 (T 5), .int .i64 (T 6), .int .i64 (T 7), .int .i64 (T 8), .int .i64 (T 9)] 39 from (hb.block _ (Nat.lt_succ_self _)).trans HX5.out)
      clear hown hb HB4 HX4 HO4 HK5 HB5 HX5 HO5 HE5 hsz5
      refine hK.out _ _ ⟨HB11.out, HX11.out⟩ (fun hHeld => ?_)
      clear hK K
      (try simp only [Act.put, List.setIfInBounds_toArray, List.set_cons_zero, List.set_cons_succ])
      refine wpAnyH_take (i := 12) (oi := ?_) (v := ?_) ?_ (by kernel_rfl) (by kernel_rfl) (by kernel_rfl) ?_ (Or.inl ⟨?_, ?_⟩) hHeld ?_
      rotate_left 2
      · (simp only [List.getElem?_toArray, List.getElem?_cons_zero, List.getElem?_cons_succ]; rfl)
      · exact (fun _ _ _ h => h)
      · rfl
      · (intro w hSw; (try dsimp only at hSw); go_simp; try with_reducible rfl)
      (try simp only [Act.put, List.setIfInBounds_toArray, List.set_cons_zero, List.set_cons_succ])
      refine wpAnyH_done (by kernel_rfl) ?_ _
      go_wp2_with fail
      go_roundw
      case rel => exact ⟨j + 1, by omega, by go_num, HB11, HX11, some ⟨g5, 0, none⟩, cap5, rfl, Lib.hid (by rw [HTK.out]; exact HO11.out)⟩
      case measure => simp [intOf]; omega
    · obtain rfl : j = n := by omega
      have hltI : ¬ (j : Int) < (j : Int) := by omega
      go_wp2_with fail
      go_ret2
      refine ⟨ao, co, rfl, ?_, HBr.out⟩
      have h := HO.out.els
      rw [List.take_of_length_le (by rw [HN.out]; exact Nat.le_refl _)] at h
      exact h
/-- All of it in one: the code, and the table. -/
theorem rtable_any (v : Value) (T : Nat → Int) (ls : List Ln) (code : Int) (hcode : code = if OkC T ls then 0 else 6) (ms : List (Nat → Int)) (hms : ms = if OkC T ls then tab T ls else []) (w : World) (hv : Els RLn 5 w v ls) (hl : ls.length ≤ 1000) :
    Calls Tryd.prog 18 #[.agg (cfc v T)] w fun e w' => ∃ a c, e = .returned (.tuple #[.slice a ms.length c, .int .i64 code]) ∧ Els R3 3 w' (.slice a ms.length c) ms ∧ Below w.heap.size w w' := by
  by_cases hok : OkC T ls
  · rw [if_pos hok] at hcode hms
    subst hcode hms
    rw [tab_length]
    exact rtable_yes v T ls hok w hv hl
  · rw [if_neg hok] at hcode hms
    subst hcode hms
    exact (rtable_no v T ls hok w hv hl).mono fun e w' ⟨he, hb⟩ => ⟨none, 0, he, ⟨none, 0, rfl, fun j y h => by cases h⟩, hb⟩
end Go.Proofs.YtkagkfgnnhdofaaDoor

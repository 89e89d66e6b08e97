/-
  delay's Table and Bound by contract.
-/
import Derived.Test.YtkagkfgnnhdofaaDoorDlOf
import Derived.Test.YtkagkfgnnhdofaaDoorDlTrs
import Derived.Test.YtkagkfgnnhdofaaDoorDlTabs
import Derived.Test.YtkagkfgnnhdofaaDoorCfCheck
import Derived.Test.YtkagkfgnnhdofaaDoorWrap
namespace Go.Proofs.YtkagkfgnnhdofaaDoor
open Go.RowKit

theorem table_no (v : Value) (T : Nat → Int) (ls : List Ln) (hok : ¬ OkC T ls) (w : World) (hv : Els RLn 5 w v ls) :
    Calls Tryd.prog 17 #[.agg (cfc v T)] w fun e w' => ∃ r, e = .returned (.tuple #[.slice none 0 0, r]) ∧ ErrV w' r 6 ∧ Below w.heap.size w w' := by
  have HV := Lib.hid hv
  have HC := Lib.hid (check_any v T ls 6 (if_neg hok).symm)
  obtain ⟨av, cv, ev⟩ := hv.len
  subst ev
  clear hv hok
  have HB := Lib.hid (below_alloc (Below.refl _ w) (.cells (cfc (.slice av ls.length cv) T) 39))
  unfold cfc at HB HC ⊢
  go_enter Tryd.func17, Tryd.ntmps17
  go_wp2_with fail
  (with_reducible refine (HC.out _ (HV.out.below (fun _ _ _ h => h.below HB.out))).mono ?_)
  rintro e w1 ⟨r, rfl, he, hb⟩
  obtain ⟨g, rfl, hg⟩ := he.not (by decide)
  have HB1 := Lib.hid (below_call HB.out hb)
  have HW := Lib.hid (fun s => wrap_place g 6 (by decide) s w1 hg)
  clear he hb hg HB HC HV
  go_wp2_with fail
  (with_reducible refine (HW.out _).mono ?_)
  rintro e w2 ⟨r, rfl, he, hb⟩
  have HE := Lib.hid he
  have HB2 := Lib.hid (below_call HB1.out hb)
  clear he hb
  go_wp2_with fail
  go_ret2
  exact ⟨_, rfl, HE.out, HB2.out⟩

set_option maxHeartbeats 4000000 in
set_option maxRecDepth 10000 in
theorem table_yes (v : Value) (T : Nat → Int) (ls : List Ln) (hok : OkC T ls) (w : World) (hv : Els RLn 5 w v ls) :
    Calls Tryd.prog 17 #[.agg (cfc v T)] w fun e w' => ∃ g, e = .returned (.tuple #[.slice (some ⟨g, 0, none⟩) ls.length ls.length, .nilIface]) ∧ Els R3 3 w' (.slice (some ⟨g, 0, none⟩) ls.length ls.length) (tab T ls) ∧ Below w.heap.size w w' := by
  have HV := Lib.hid hv
  have HC := Lib.hid (check_any v T ls 0 (if_pos hok).symm)
  have HOK := Lib.hid hok
  obtain ⟨av, cv, ev⟩ := hv.len
  obtain ⟨n, hn⟩ : ∃ n, n = ls.length := ⟨_, rfl⟩
  have HN := Lib.hid hn
  have hn8 : n ≤ 8 := by have := hok.1; omega
  rw [← hn] at ev ⊢
  subst ev
  clear hv hok hn
  have HB := Lib.hid (below_alloc (Below.refl _ w) (.cells (cfc (.slice av n cv) T) 39))
  have HX := Lib.hid (blk_new w (cfc (.slice av n cv) T) 39)
  unfold cfc at HB HC HX ⊢
  go_enter Tryd.func17, Tryd.ntmps17
  go_wp2_with fail
  (with_reducible refine (HC.out _ (HV.out.below (fun _ _ _ h => h.below HB.out))).mono ?_)
  rintro e w1 ⟨r, rfl, he, hb⟩
  obtain rfl := he.nil
  have HB1 := Lib.hid (below_call HB.out hb)
  have HX1 := Lib.hid (HX.out.below hb)
  have hc0 := HX1.out.cell 0 (u := .slice av n cv) rfl
  obtain ⟨M, hM, hmk⟩ := run_make_tabs n (by omega)
  obtain ⟨fs, hfs⟩ : ∃ fs : Nat → Nat → Int, fs = fun j => ofs (ls.getD j default) (T 9) := ⟨_, rfl⟩
  have HFS := Lib.hid (show ∀ j l, ls[j]? = some l → fs j = ofs l (T 9) from fun j l h => by rw [hfs]; show ofs (ls.getD j default) _ = _; rw [List.getD_eq_getElem?_getD, h]; rfl)
  have HB2 := Lib.hid (below_alloc HB1.out (.cells M 32))
  have HX2 := Lib.hid (HX1.out.below (below_alloc (Below.refl _ w1) (.cells M 32)))
  have HT2 := Lib.hid (trB_new w1 n M hM fs)
  have HW1 := Lib.hid (show w.heap.size ≤ w1.heap.size from HB1.out.size)
  have HW1' := Lib.hid HX1.out.lt
  have hc1 := HX2.out.cell 0 (u := .slice av n cv) rfl
  clear he hb HB HC HX hM hfs HB1 HX1
  go_wp2_with fail
  go_loopw [21] (fun i wr => ∃ j : Nat, j ≤ n ∧ i = .int .i64 (j : Int) ∧ Hid (Below w.heap.size w wr) ∧ Hid (Blk wr w.heap.size #[.slice av n cv, .int .i64 (T 0), .int .i64 (T 1), .int .i64 (T 2), .int .i64 (T 3), .int .i64 (T 4), .int .i64 (T 5), .int .i64 (T 6), .int .i64 (T 7), .int .i64 (T 8), .int .i64 (T 9)] 39) ∧ Hid (TrB wr w1.heap.size n j fs)) (fun i _ => n - (intOf i).toNat)
  case atStart => exact ⟨0, by omega, rfl, HB2, HX2, HT2⟩
  case round =>
    obtain ⟨j, hj, rfl, HBr, HXr, HTr⟩ := hrel
    clear HB2 HX2 HT2 hc0 hc1
    by_cases hlt : j < n
    · obtain ⟨l, hl⟩ : ∃ l, ls[j]? = some l := ⟨_, List.getElem?_eq_getElem (by rw [← HN.out]; exact hlt)⟩
      obtain ⟨g, o, ea, hr⟩ := HV.out.at_ hl
      obtain ⟨e0, e1, e2, e3, e4⟩ := hr.below HBr.out
      subst ea
      have HFJ := Lib.hid (HFS.out j l hl)
      have HL := Lib.hid hl
      have HO := Lib.hid (of_any l (T 9) (okL_small (okC_line HOK.out hl)) (by have := okC_time HOK.out (i := 9) (by omega); omega))
      have hltI : (j : Int) < (n : Int) := by omega
      have h10 := HXr.out.cell 10 (u := .int .i64 (T 9)) rfl
      obtain ⟨lk, lg, la, lb, lc⟩ := l
      obtain ⟨fj, hfj⟩ : ∃ fj, fj = ofs ⟨lk, lg, la, lb, lc⟩ (T 9) := ⟨_, rfl⟩
      rw [← hfj] at HFJ HO
      dsimp only at e0 e1 e2 e3 e4 HO
      have HK3 := Lib.hid (below_alloc (Below.refl _ wr) (.cells #[.int .i64 lk, .int .i64 lg, .int .i64 la, .int .i64 lb, .int .i64 lc] 34))
      have HB3 := Lib.hid (below_alloc HBr.out (.cells #[.int .i64 lk, .int .i64 lg, .int .i64 la, .int .i64 lb, .int .i64 lc] 34))
      have HX3 := Lib.hid (HXr.out.below HK3.out)
      have HT3 := Lib.hid (HTr.out.below HK3.out)
      have h10' := HX3.out.cell 10 (u := .int .i64 (T 9)) rfl
      clear hr hl hfj HK3 HBr HXr HTr
      go_wp2_with fail
      (with_reducible refine (HO.out _).mono ?_)
      rintro e w4 ⟨rfl, hb⟩
      have HB4 := Lib.hid (below_call HB3.out hb)
      have HX4 := Lib.hid (HX3.out.below hb)
      have HT4 := Lib.hid (HT3.out.below hb)
      obtain ⟨⟨u0, s0⟩, z0⟩ := HT4.out.spot hlt 0 (by decide)
      obtain ⟨⟨u1, s1⟩, z1⟩ := HT4.out.spot hlt 1 (by decide)
      obtain ⟨⟨u2, s2⟩, z2⟩ := HT4.out.spot hlt 2 (by decide)
      rw [Nat.add_zero] at s0 z0
      clear hb HB3 HX3 HT3 h10 h10' e0 e1 e2 e3 e4 HO
      unfold tr3
      go_wp2_with fail
      go_roundw
      case rel =>
        refine ⟨j + 1, by omega, by go_num, Lib.hid ?_, Lib.hid ?_, Lib.hid ?_⟩
        · exact bel_set (bel_set (bel_set HB4.out HW1.out _ _) HW1.out _ _) HW1.out _ _
        · have hne : w.heap.size ≠ w1.heap.size := by have := HW1'.out; omega
          exact ((HX4.out.far _ _ _ hne).far _ _ _ hne).far _ _ _ hne
        · exact HT4.out.store hlt fj HFJ.out.symm
      case measure => simp [intOf]; omega
    · obtain rfl : j = n := by omega
      have hltI : ¬ (j : Int) < (j : Int) := by omega
      go_wp2_with fail
      go_ret2
      refine ⟨_, rfl, ?_, HBr.out⟩
      refine HTr.out.els (tab T ls) (by rw [tab_length, HN.out]) (fun i hi => ?_)
      obtain ⟨l, hl⟩ : ∃ l, ls[i]? = some l := ⟨_, List.getElem?_eq_getElem (by rw [← HN.out]; exact hi)⟩
      rw [tab_at hl, HFS.out i l hl]
/-- All of it in one: the code, and the table. -/
theorem table_any (v : Value) (T : Nat → Int) (ls : List Ln) (code : Int) (hcode : code = if OkC T ls then 0 else 6) (ms : List (Nat → Int)) (hms : ms = if OkC T ls then tab T ls else []) (w : World) (hv : Els RLn 5 w v ls) :
    Calls Tryd.prog 17 #[.agg (cfc v T)] w fun e w' => ∃ a c r, e = .returned (.tuple #[.slice a ms.length c, r]) ∧ Els R3 3 w' (.slice a ms.length c) ms ∧ ErrV w' r code ∧ Below w.heap.size w w' := by
  by_cases hok : OkC T ls
  · rw [if_pos hok] at hcode hms
    subst hcode hms
    refine (table_yes v T ls hok w hv).mono fun e w' ⟨g, he, hE, hb⟩ => ⟨some ⟨g, 0, none⟩, ls.length, .nilIface, ?_, ?_, .inl ⟨rfl, rfl⟩, hb⟩
    · rw [tab_length]; exact he
    · rw [tab_length]; exact hE
  · rw [if_neg hok] at hcode hms
    subst hcode hms
    exact (table_no v T ls hok w hv).mono fun e w' ⟨r, he, hE, hb⟩ => ⟨none, 0, r, he, ⟨none, 0, rfl, fun j y h => by cases h⟩, hE, hb⟩

theorem bound_no (v : Value) (T : Nat → Int) (ls : List Ln) (hok : ¬ OkC T ls) (w : World) (hv : Els RLn 5 w v ls) :
    Calls Tryd.prog 19 #[.agg (cfc v T)] w fun e w' => ∃ r, e = .returned (.tuple #[.int .i64 0, r]) ∧ ErrV w' r 6 ∧ Below w.heap.size w w' := by
  have HV := Lib.hid hv
  have HC := Lib.hid (check_any v T ls 6 (if_neg hok).symm)
  obtain ⟨av, cv, ev⟩ := hv.len
  subst ev
  clear hv hok
  have HB := Lib.hid (below_alloc (Below.refl _ w) (.cells (cfc (.slice av ls.length cv) T) 39))
  unfold cfc at HB HC ⊢
  go_enter Tryd.func19, Tryd.ntmps19
  go_wp2_with fail
  (with_reducible refine (HC.out _ (HV.out.below (fun _ _ _ h => h.below HB.out))).mono ?_)
  rintro e w1 ⟨r, rfl, he, hb⟩
  obtain ⟨g, rfl, hg⟩ := he.not (by decide)
  have HB1 := Lib.hid (below_call HB.out hb)
  have HW := Lib.hid (fun s => wrap_place g 6 (by decide) s w1 hg)
  clear he hb hg HB HC HV
  go_wp2_with fail
  (with_reducible refine (HW.out _).mono ?_)
  rintro e w2 ⟨r, rfl, he, hb⟩
  have HE := Lib.hid he
  have HB2 := Lib.hid (below_call HB1.out hb)
  clear he hb
  go_wp2_with fail
  go_ret2
  exact ⟨_, rfl, HE.out, HB2.out⟩
set_option maxHeartbeats 2000000 in
theorem bound_yes (v : Value) (T : Nat → Int) (ls : List Ln) (hok : OkC T ls) (w : World) (hv : Els RLn 5 w v ls) :
    Calls Tryd.prog 19 #[.agg (cfc v T)] w fun e w' => e = .returned (.tuple #[.int .i64 (bnd T), .nilIface]) ∧ Below w.heap.size w w' := by
  have HV := Lib.hid hv
  have HC := Lib.hid (check_any v T ls 0 (if_pos hok).symm)
  obtain ⟨t8, t8'⟩ := okC_time hok (i := 8) (by omega)
  obtain ⟨t7, t7'⟩ := okC_time hok (i := 7) (by omega)
  obtain ⟨t3, t3'⟩ := okC_time hok (i := 3) (by omega)
  obtain ⟨av, cv, ev⟩ := hv.len
  subst ev
  clear hv hok
  have HB := Lib.hid (below_alloc (Below.refl _ w) (.cells (cfc (.slice av ls.length cv) T) 39))
  have HX := Lib.hid (blk_new w (cfc (.slice av ls.length cv) T) 39)
  unfold cfc at HB HC HX ⊢
  go_enter Tryd.func19, Tryd.ntmps19
  go_wp2_with fail
  (with_reducible refine (HC.out _ (HV.out.below (fun _ _ _ h => h.below HB.out))).mono ?_)
  rintro e w1 ⟨r, rfl, he, hb⟩
  obtain rfl := he.nil
  have HB1 := Lib.hid (below_call HB.out hb)
  have HX1 := Lib.hid (HX.out.below hb)
  obtain ⟨c0, c1, c2, c3, c4, c5, c6, c7, c8, c9, c10⟩ := Blk.eleven (v := .slice av ls.length cv) (T := T) HX1.out
  clear he hb HB HC HV HX
  go_wp2_with fail
  go_ret2
  exact ⟨rfl, below_alloc HB1.out _⟩
theorem bound_any (v : Value) (T : Nat → Int) (ls : List Ln) (code : Int) (hcode : code = if OkC T ls then 0 else 6) (n : Int) (hn : n = if OkC T ls then bnd T else 0) (w : World) (hv : Els RLn 5 w v ls) :
    Calls Tryd.prog 19 #[.agg (cfc v T)] w fun e w' => ∃ r, e = .returned (.tuple #[.int .i64 n, r]) ∧ ErrV w' r code ∧ Below w.heap.size w w' := by
  by_cases hok : OkC T ls
  · rw [if_pos hok] at hcode hn
    subst hcode hn
    exact (bound_yes v T ls hok w hv).mono fun e w' ⟨he, hb⟩ => ⟨_, he, .inl ⟨rfl, rfl⟩, hb⟩
  · rw [if_neg hok] at hcode hn
    subst hcode hn
    exact bound_no v T ls hok w hv
end Go.Proofs.YtkagkfgnnhdofaaDoor

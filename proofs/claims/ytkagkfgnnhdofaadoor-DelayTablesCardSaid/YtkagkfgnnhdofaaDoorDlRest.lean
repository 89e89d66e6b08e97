/-
  The document's Bound by contract; its Same, of two tables that are the same.
-/
import Derived.Test.YtkagkfgnnhdofaaDoorDlTrs
import Derived.Test.YtkagkfgnnhdofaaDoorDlTabs
import Derived.Test.YtkagkfgnnhdofaaDoorCfRchk
import Derived.Test.YtkagkfgnnhdofaaDoorArr3
namespace Go.Proofs.YtkagkfgnnhdofaaDoor
open Go.RowKit

theorem rbound_no (v : Value) (T : Nat → Int) (ls : List Ln) (hok : ¬ OkC T ls) (w : World) (hv : Els RLn 5 w v ls) (hl : ls.length ≤ 1000) :
    Calls Tryd.prog 20 #[.agg (cfc v T)] w fun e w' => e = .returned (.tuple #[.int .i64 0, .int .i64 6]) ∧ Below w.heap.size w w' := by
  have HV := Lib.hid hv
  have HC := Lib.hid (fun w h => rcheck_any v T ls 6 (if_neg hok).symm w h hl)
  obtain ⟨av, cv, ev⟩ := hv.len
  subst ev
  clear hv hok hl
  have HB := Lib.hid (below_alloc (Below.refl _ w) (.cells (cfc (.slice av ls.length cv) T) 39))
  unfold cfc at HB HC ⊢
  go_enter Tryd.func20, Tryd.ntmps20
  go_wp2_with fail
  (with_reducible refine (HC.out _ (HV.out.below (fun _ _ _ h => h.below HB.out))).mono ?_)
  rintro e w1 ⟨rfl, hb⟩
  have HB1 := Lib.hid (below_call HB.out hb)
  clear hb HB HC HV
  go_wp2_with fail
  go_ret2
  exact ⟨rfl, HB1.out⟩
set_option maxHeartbeats 2000000 in
theorem rbound_yes (v : Value) (T : Nat → Int) (ls : List Ln) (hok : OkC T ls) (w : World) (hv : Els RLn 5 w v ls) (hl : ls.length ≤ 1000) :
    Calls Tryd.prog 20 #[.agg (cfc v T)] w fun e w' => e = .returned (.tuple #[.int .i64 (bnd T), .int .i64 0]) ∧ Below w.heap.size w w' := by
  have HV := Lib.hid hv
  have HC := Lib.hid (fun w h => rcheck_any v T ls 0 (if_pos hok).symm w h hl)
  obtain ⟨t8, t8'⟩ := okC_time hok (i := 8) (by omega)
  obtain ⟨t7, t7'⟩ := okC_time hok (i := 7) (by omega)
  obtain ⟨t3, t3'⟩ := okC_time hok (i := 3) (by omega)
  obtain ⟨av, cv, ev⟩ := hv.len
  subst ev
  clear hv hok hl
  have HB := Lib.hid (below_alloc (Below.refl _ w) (.cells (cfc (.slice av ls.length cv) T) 39))
  have HX := Lib.hid (blk_new w (cfc (.slice av ls.length cv) T) 39)
  unfold cfc at HB HC HX ⊢
  go_enter Tryd.func20, Tryd.ntmps20
  go_wp2_with fail
  (with_reducible refine (HC.out _ (HV.out.below (fun _ _ _ h => h.below HB.out))).mono ?_)
  rintro e w1 ⟨rfl, hb⟩
  have HB1 := Lib.hid (below_call HB.out hb)
  have HX1 := Lib.hid (HX.out.below hb)
  obtain ⟨c0, c1, c2, c3, c4, c5, c6, c7, c8, c9, c10⟩ := Blk.eleven (v := .slice av ls.length cv) (T := T) HX1.out
  clear hb HB HC HV HX
  go_wp2_with fail
  go_ret2
  exact ⟨rfl, HB1.out⟩
theorem rbound_any (v : Value) (T : Nat → Int) (ls : List Ln) (code : Int) (hcode : code = if OkC T ls then 0 else 6) (n : Int) (hn : n = if OkC T ls then bnd T else 0) (w : World) (hv : Els RLn 5 w v ls) (hl : ls.length ≤ 1000) :
    Calls Tryd.prog 20 #[.agg (cfc v T)] w fun e w' => e = .returned (.tuple #[.int .i64 n, .int .i64 code]) ∧ Below w.heap.size w w' := by
  by_cases hok : OkC T ls
  · rw [if_pos hok] at hcode hn
    subst hcode hn
    exact rbound_yes v T ls hok w hv hl
  · rw [if_neg hok] at hcode hn
    subst hcode hn
    exact rbound_no v T ls hok w hv hl

set_option maxHeartbeats 1000000 in
theorem tsame_any (av av' : Option Addr) (n cv cv' : Nat) (ms : List (Nat → Int)) (hn : n = ms.length) (hn' : n ≤ 1000) (w : World) (hv : Els R3 3 w (.slice av n cv) ms) (hv' : Els R3 3 w (.slice av' n cv') ms) :
    Calls Tryd.prog 23 #[.slice av n cv, .slice av' n cv'] w fun e w' => e = .returned (.bool true) ∧ Below w.heap.size w w' := by
  have HV := Lib.hid hv
  have HV' := Lib.hid hv'
  have HN := Lib.hid hn
  have q1 : ((n : Int) != (n : Int)) = false := by simp
  clear hv hv' hn
  go_enter Tryd.func23, Tryd.ntmps23
  go_wp2_with fail
  go_loopw [5] (fun i wr => ∃ j : Nat, j ≤ n ∧ i = .int .i64 (j : Int) ∧ Hid (Below w.heap.size w wr)) (fun i _ => n - (intOf i).toNat)
  case atStart => exact ⟨0, by omega, rfl, Lib.hid (Below.refl _ w)⟩
  case round =>
    obtain ⟨j, hj, rfl, HBr⟩ := hrel
    by_cases hlt : j < n
    · have hltI : (j : Int) < (n : Int) := by omega
      obtain ⟨f, hf⟩ : ∃ f, ms[j]? = some f := ⟨_, List.getElem?_eq_getElem (by rw [← HN.out]; exact hlt)⟩
      obtain ⟨g, o, ea, hr⟩ := HV.out.at_ hf
      obtain ⟨g', o', ea', hr'⟩ := HV'.out.at_ hf
      obtain ⟨e0, e1, e2⟩ := hr.below HBr.out
      obtain ⟨e0', e1', e2'⟩ := hr'.below HBr.out
      subst ea ea'
      have hN := neq_arr3 (f 0) (f 1) (f 2) (f 0) (f 1) (f 2) false (by simp)
      clear hf hr hr'
      go_wp2_with fail
      go_big_region
      go_wp2_with fail
      go_roundw
      case rel => exact ⟨j + 1, by omega, by go_num, Lib.hid (below_call HBr.out (bel_drew _))⟩
      case measure => simp [intOf]; omega
    · have hltI : ¬ (j : Int) < (n : Int) := by omega
      go_wp2_with fail
      go_ret
      exact ⟨rfl, HBr.out⟩
end Go.Proofs.YtkagkfgnnhdofaaDoor

/-
  A crossing of so many lines that are alike, whose times are all one number: the statements' own Crossing, by contract.
-/
import Derived.Test.YtkagkfgnnhdofaaDoorCfLn
namespace Go.Proofs.YtkagkfgnnhdofaaDoor
open Go.RowKit

theorem keep_apart {b : Nat} {w w' : World} (h : Apart b w w') : Keep (fun g => g = b) w w' := ⟨h.os, h.tape, h.output, h.size, h.block⟩
/-- A crossing of n lines that are alike, whose times are all t. -/
def one8 : Ln := ⟨1000, 500, 10, 20, 40⟩
def ones (n : Nat) : List Ln := List.replicate n one8
theorem ones_length (n : Nat) : (ones n).length = n := List.length_replicate
abbrev cft (v : Value) (t : Int) : Array Value := #[v, .int .i64 t, .int .i64 t, .int .i64 t, .int .i64 t, .int .i64 t, .int .i64 t, .int .i64 t, .int .i64 t, .int .i64 t, .int .i64 t]
theorem cft_eq (v : Value) (t : Int) : cfc v (fun _ => t) = cft v t := rfl
theorem ones_ok {n : Nat} {t : Int} : OkC (fun _ => t) (ones n) ↔ (1 ≤ n ∧ n ≤ 8) ∧ 1 ≤ t ∧ t ≤ 6000 := by
  unfold OkC
  rw [ones_length]
  constructor
  · rintro ⟨h1, h2, h3⟩
    exact ⟨h1, h2 0 (by omega)⟩
  · rintro ⟨h1, h2⟩
    refine ⟨h1, fun i hi => h2, fun l hl => ?_⟩
    rw [List.eq_of_mem_replicate hl]
    decide

set_option maxHeartbeats 2000000 in
theorem crossing_any (n : Nat) (hn : n ≤ 20) (t : Int) (w : World) : Calls Tryd.prog 24 #[.int .i64 (n : Int), .int .i64 t] w fun e w' => ∃ a c, e = .returned (.agg (cft (.slice a n c) t)) ∧ Els RLn 5 w' (.slice a n c) (ones n) ∧ Below w.heap.size w w' := by
  obtain ⟨w0, hw0⟩ : ∃ w0, w0 = w.alloc (.cells (cft (.slice none 0 0) 0) 39) := ⟨_, rfl⟩
  have e1 : w0.heap.size = w.heap.size + 1 := by rw [hw0]; simp
  have HB0 := Lib.hid (show Below w.heap.size w w0 by rw [hw0]; exact below_alloc (Below.refl _ w) _)
  have HZ0 := Lib.hid (show Blk w0 w.heap.size (cft (.slice none 0 0) 0) 39 by rw [hw0]; exact blk_new w _ _)
  have HK := Lib.hid (below_alloc (Below.refl _ w0) (.cells (cft (.slice none 0 0) t) 39))
  have HC1 := Lib.hid (blk_new w0 (cft (.slice none 0 0) t) 39)
  have HB1 := Lib.hid (below_call HB0.out HK.out)
  have HZ1 := Lib.hid (HZ0.out.below HK.out)
  rw [e1] at HC1
  rw [hw0] at HC1 HB1 HZ1
  clear HK HB0 HZ0 e1 hw0
  go_enter Tryd.func24, Tryd.ntmps24
  go_wp2_with fail
  go_loopw [6] (fun i wr => ∃ m : Nat, m ≤ n ∧ i = .int .i64 (m : Int) ∧ Hid (Below w.heap.size w wr) ∧ Hid (Blk wr w.heap.size (cft (.slice none 0 0) 0) 39) ∧ ∃ a c, Hid (Blk wr (w.heap.size + 1) (cft (.slice a m c) t) 39) ∧ Hid (OwnL wr (w.heap.size + 2) (.slice a m c) (ones m))) (fun i _ => n - (intOf i).toNat)
  case atStart => exact ⟨0, by omega, rfl, HB1, HZ1, none, 0, HC1, Lib.hid (ownL_nil _ _)⟩
  case round =>
    obtain ⟨m, hm, rfl, HB, HZ, a, c, HC, HO⟩ := hrel
    clear HB1 HZ1 HC1
    by_cases hlt : m < n
    · have hltI : (m : Int) < (n : Int) := by omega
      have hc0 := HC.out.cell 0 (u := .slice a m c) rfl
      have hCw := HC.out.lt
      have HK9 := Lib.hid (below_alloc (Below.refl _ wr) (.cells #[.int .i64 1000, .int .i64 500, .int .i64 10, .int .i64 20, .int .i64 40] 34))
      have HU := Lib.hid (show Els RLn 5 (wr.alloc (.cells #[.int .i64 1000, .int .i64 500, .int .i64 10, .int .i64 20, .int .i64 40] 34)) (.slice (some ⟨wr.heap.size, 0, none⟩) 1 1) [one8] from els_one wr one8 _)
      have HO10 := Lib.hid (HO.out.below HK9.out)
      have hsz : w.heap.size + 2 ≤ (wr.alloc (.cells #[.int .i64 1000, .int .i64 500, .int .i64 10, .int .i64 20, .int .i64 40] 34)).heap.size := by simp; omega
      go_wp2_with (at_builtin; refine wpList_appL rfl _ _ rfl (w.heap.size + 2) (.slice a m c) m (ones m) rfl (ones_length m).symm HO10.out wr.heap.size 0 1 1 [one8] rfl rfl HU.out (by decide) (by omega) hsz ?_; intro g5 cap5 w10 hown hb; have HO11 := Lib.hid hown; have HB11 := Lib.hid ((HK9.out.mono (show w.heap.size + 2 ≤ wr.heap.size by omega)).trans hb); have HC11 := Lib.hid (show Blk w10 (w.heap.size + 1) (cft (.slice a m c) t) 39 from (HB11.out.block _ (Nat.lt_succ_self _)).trans HC.out); have hc11 := HC11.out.cell 0 (u := .slice a m c) rfl; have hz11 := HC11.out.frz 0; clear hown hb HO10 HU HK9 hsz hc0)
      go_roundw
      case rel =>
        refine ⟨m + 1, by omega, by go_num, Lib.hid ?_, Lib.hid ?_, some ⟨g5, 0, none⟩, cap5, Lib.hid ?_, Lib.hid ?_⟩
        · exact bel_set (HB.out.trans (HB11.out.mono (by omega))) (by omega) _ _
        · exact Blk.far ((HB11.out.block _ (by omega)).trans HZ.out) _ _ _ (by omega)
        · exact HC11.out.set_ 0 _
        · rw [show ones (m + 1) = ones m ++ [one8] from List.replicate_succ']
          exact HO11.out.keep (F := fun x => x = w.heap.size + 1) (Keep.set_ w10 _ 0 _ rfl) (fun g e => by rw [e]; omega)
      case measure => simp [intOf]; omega
    · have HMN := Lib.hid (show m = n by omega)
      have hltI : ¬ (m : Int) < (n : Int) := by omega
      obtain ⟨f0, f1, f2, f3, f4, f5, f6, f7, f8, f9, f10⟩ := HZ.out.frz11
      obtain ⟨c0, c1, c2, c3, c4, c5, c6, c7, c8, c9, c10⟩ := Blk.eleven (v := .slice none 0 0) (T := fun _ => 0) HZ.out
      obtain ⟨d0, d1, d2, d3, d4, d5, d6, d7, d8, d9, d10⟩ := Blk.eleven (v := .slice a m c) (T := fun _ => t) HC.out
      go_wp2_with fail
      (try simp only [Exit.inBlock, Exit.then])
      refine bodyPost_ret (v := .agg (cft (.slice a m c) t)) ?_ rfl ⟨a, c, by rw [HMN.out], ?_, bel11 HB.out (Nat.le_refl _) _ _ _ _ _ _ _ _ _ _ _⟩
      · rw [results_cell1 rfl]
        go_simp
      · rw [← HMN.out]
        exact (HO.out.keep (keep_apart (apart11 _ _ _ _ _ _ _ _ _ _ _ _ _)) (fun g e => by rw [e]; omega)).els
end Go.Proofs.YtkagkfgnnhdofaaDoor

/-
  A slot's list without one of its timers (the library's DeleteFunc, by the library's own contract).
-/
import Derived.Test.YtaonnkocopngaaaDoorArmed
import Derived.Test.YtaonnkocopngaaaDoorShelf
import Derived.Sort.OwnSortedInts
namespace Go.Proofs.YtaonnkocopngaaaDoor
open Go.RowKit Go.Lib Go.Sort

variable {w w' : World}
theorem gives_same (i x : Int) (B : Nat) (W : World) (hc : W.cell? ⟨B, 0, none⟩ = some (.int .i64 i)) :
    FnGives Tryd.prog 32 #[.pointer (some ⟨B, 0, none⟩)] #[.int .i64 x] (.bool (x == i)) W := by
  show Calls Tryd.prog 32 #[.int .i64 x, .pointer (some ⟨B, 0, none⟩)] W _
  go_enter Tryd.func32, Tryd.ntmps32
  go_wp2
  all_goals (go_ret; exact ⟨rfl, 0, rfl⟩)
theorem filter_cast (L : List Nat) (i : Nat) : (L.map fun x : Nat => (x : Int)).filter (fun x => !(x == (i : Int))) = (L.filter fun x => x != i).map fun x : Nat => (x : Int) := by
  rw [List.filter_map]
  congr 1
  apply List.filter_congr
  intro x _
  rw [Bool.eq_iff_iff]
  simp only [Function.comp, Bool.not_eq_true', beq_eq_false_iff_ne, bne_iff_ne]
  omega
set_option maxHeartbeats 1000000 in
theorem del_any {g cap B : Nat} {L : List Nat} {i : Nat} (h : Own nc w (.slice (some ⟨g, 0, none⟩) L.length cap) L) (hc : w.cell? ⟨B, 0, none⟩ = some (.int .i64 (i : Int))) (hne : B ≠ g) (hl : L.length ≤ 1000) :
    Calls Tryd.prog 31 #[.slice (some ⟨g, 0, none⟩) L.length cap, .func (.func 32) #[] #[.pointer (some ⟨B, 0, none⟩)]] w fun e w' =>
      e = .returned (.slice (some ⟨g, 0, none⟩) (L.filter fun x => x != i).length cap) ∧ Own nc w' (.slice (some ⟨g, 0, none⟩) (L.filter fun x => x != i).length cap) (L.filter fun x => x != i) ∧ Keep (fun x => x = g) w w' := by
  have hB : B < w.heap.size := lt_of_cell hc
  rcases h.2 with ⟨h1, _⟩ | ⟨g', cap', cur, e1, _, hg, hcap, hm, hs, ht⟩
  · cases h1
  · cases e1
    have eg : ∀ args w, (callFunc 32 args).run Tryd.prog w = .ok (.enter 32 args) w := enters_of Tryd.func32 (by kernel_rfl) rfl
    have hz : ∀ w, (zeroValue 3).run Tryd.prog w = .ok (Value.int .i64 0) w := Tryd.zeroValue3
    have hlen : (L.map fun x : Nat => (x : Int)).toArray.size = L.length := by simp
    have hH : Holds (Value.int .i64) w g 0 (L.map fun x : Nat => (x : Int)).toArray := holds_of_blockI hg (by
      rw [List.length_map, show L.length = L.length * 1 by omega, ht, List.map_map]
      rfl)
    have hp : PredAt Tryd.prog 32 #[.pointer (some ⟨B, 0, none⟩)] (Value.int .i64) (fun x => x == (i : Int)) w := fun W x hb => gives_same (i : Int) x B W ((hb.cell (p := ⟨B, 0, none⟩) hB).trans hc)
    have hpo : PredOver Tryd.prog 32 #[.pointer (some ⟨B, 0, none⟩)] (Value.int .i64) (fun x => x == (i : Int)) g 0 (L.map fun x : Nat => (x : Int)).toArray.size w := fun n os dk x _ => gives_same (i : Int) x B _ (by
      unfold sortWorld
      rw [cell?_grow _ _ _ (by show B < (putRow _ _ _ _ _).heap.size; rw [size_putRow]; exact hB), cell?_putRow_other _ _ g 0 _ _ (Or.inl hne)]
      exact hc)
    have hcon := Tryd.slices_DeleteFunc (Value.int .i64) (fun _ => rfl) (fun x => x == (i : Int)) 32 #[.pointer (some ⟨B, 0, none⟩)] eg 0 hz g 0 cap (L.map fun x : Nat => (x : Int)).toArray w hp hpo hH (by omega) (by omega)
    rw [hlen] at hcon
    refine hcon.mono ?_
    rintro e w2 ⟨rfl, q, rfl⟩
    have hfl : ((L.map fun x : Nat => (x : Int)).toArray.toList.filter fun x => !(x == (i : Int))) = (L.filter fun x => x != i).map fun x : Nat => (x : Int) := by
      rw [List.toList_toArray]; exact filter_cast L i
    rw [hfl]
    obtain ⟨F, hF⟩ : ∃ F, F = L.filter fun x => x != i := ⟨_, rfl⟩
    have hFL : F.length ≤ L.length := by rw [hF]; exact List.length_filter_le _ _
    rw [← hF, List.length_map]
    obtain ⟨ts, hts⟩ : ∃ ts, ts = (F.map fun x : Nat => (x : Int)) ++ List.replicate (L.length - F.length) (0 : Int) := ⟨_, rfl⟩
    rw [← hts]
    have htl : ts.length = L.length := by rw [hts]; simp; omega
    have hhp := heap_sortedI (w := w) (n := q) (os := #[]) ts.toArray hg
    have hgb := grownBy_sortedI (w := w) (g := g) (n := q) (os := #[]) ts.toArray
    rw [grow_empty] at hhp hgb
    refine ⟨rfl, ⟨by simp, .inr ⟨g, cap, _, rfl, Nat.zero_le _, hhp, by omega, hm, by simp [putCells, hs], ?_⟩⟩, Keep.grown hgb (fun x hx => by cases hx; rfl)⟩
    have h3 := take_putCellsI cur ts (by omega)
    rw [show F.length * 1 = F.length by omega, show F.length = min F.length ts.length by omega, ← List.take_take, h3, hts, List.map_append, List.take_append_of_le_length (by simp), List.take_of_length_le (by simp), List.map_map]
    rfl
end Go.Proofs.YtaonnkocopngaaaDoor

/-
  bank.next, by contract.
-/
import Derived.Test.YtecfobmmbdmdgaaBkRecord
import Derived.Deep.RegionHeld3
namespace Go.Proofs.Ytecfobmmbdmdgaa
open Go.RowKit

theorem bnxt_none {xs : List (BitVec 8)} {n : Nt} (h : bnxt xs n = none) : n.s = 4294967295 ∨ (n.s ≠ 4294967295 ∧ brec xs n.e = none) ∨ (n.s ≠ 4294967295 ∧ ∃ m, brec xs n.e = some m ∧ m.s ≠ n.s + 1) := by
  unfold bnxt at h
  split at h
  · exact .inl ‹_›
  · rename_i h0
    cases hr : brec xs n.e with
    | none => exact .inr (.inl ⟨h0, rfl⟩)
    | some m =>
      refine .inr (.inr ⟨h0, m, rfl, fun hs => ?_⟩)
      rw [hr] at h
      simp [hs] at h

theorem two_new (w : World) (C D : Array Value) (T : TypeId) : Blk ((w.alloc (.cells C T)).alloc (.cells D T)) w.heap.size C T ∧ Blk ((w.alloc (.cells C T)).alloc (.cells D T)) (w.heap.size + 1) D T := by
  refine ⟨(blk_new w C T).below (below_alloc (Below.refl _ _) _), ?_⟩
  have := blk_new (w.alloc (.cells C T)) D T
  simpa using this

theorem next_last (v ra : Value) (k c : Nat) (a : Option Addr) (e : Int) (w : World) (hra : ra = .slice a k c) :
    Calls Try.prog 31 #[v, .agg #[.int .u32 4294967295, ra, .int .i64 e]] w fun e w' => e = .returned (.tuple #[.agg #[.int .u32 0, .slice none 0 0, .int .i64 0], .bool false]) ∧ Below w.heap.size w w' := by
  subst hra
  have HB := Lib.hid (bel_two w (.cells #[.int .u32 4294967295, .slice a k c, .int .i64 e] 33) (.cells #[.int .u32 0, .slice none 0 0, .int .i64 0] 33))
  go_enter Try.func31, Try.ntmps31
  go_wp2_with fail
  (try simp only [Exit.inBlock, Exit.then])
  refine bodyPost_ret (v := .tuple #[.agg #[.int .u32 0, .slice none 0 0, .int .i64 0], .bool false]) ?_ rfl ⟨rfl, HB.out⟩
  rw [results_cell_tmp rfl]
  go_simp
theorem bel_drew_ {w0 w : World} (h : Below w0.heap.size w0 w) : Below w0.heap.size w0 w.drew := ⟨h.os, h.tape, h.output, h.size, h.block⟩
theorem own_drew {w : World} {B : Nat} {v : Value} {xs : List (BitVec 8)} (h : Own w B v xs) : Own w.drew B v xs := h

set_option maxHeartbeats 1000000 in
theorem next_gone (v : Value) (xs : List (BitVec 8)) (w : World) (hv : Byts w v xs) (hl : xs.length ≤ 100000) (n : Nt) (hs : n.s < 4294967295) (hn : n.e ≤ xs.length) (ra : Value) (k c : Nat) (a : Option Addr) (hra : ra = .slice a k c) (h : brec xs n.e = none) :
    Calls Try.prog 31 #[v, .agg #[.int .u32 (n.s : Int), ra, .int .i64 (n.e : Int)]] w fun e w' => e = .returned (.tuple #[.agg #[.int .u32 0, .slice none 0 0, .int .i64 0], .bool false]) ∧ Below w.heap.size w w' := by
  subst hra
  have HB := Lib.hid (bel_two w (.cells #[.int .u32 (n.s : Int), .slice a k c, .int .i64 (n.e : Int)] 33) (.cells #[.int .u32 0, .slice none 0 0, .int .i64 0] 33))
  have HN := Lib.hid (two_new w #[.int .u32 (n.s : Int), .slice a k c, .int .i64 (n.e : Int)] #[.int .u32 0, .slice none 0 0, .int .i64 0] 33)
  have HR := Lib.hid (record_no v xs _ (hv.below HB.out) hl n.e hn h)
  have b0 : ((n.s : Int) == 4294967295) = false := by simp; omega
  clear hn hs
  clear hv h
  go_enter Try.func31, Try.ntmps31
  go_wp2_with fail
  (with_reducible refine HR.out.mono ?_)
  rintro e w1 ⟨rfl, hb⟩
  have HB1 := Lib.hid (below_alloc (below_call HB.out hb) (.cells #[.int .u32 0, .slice none 0 0, .int .i64 0] 33))
  have HN1 := Lib.hid ((HN.out.1.below hb).below (below_alloc (Below.refl _ w1) (.cells #[.int .u32 0, .slice none 0 0, .int .i64 0] 33)))
  have HN2 := Lib.hid ((HN.out.2.below hb).below (below_alloc (Below.refl _ w1) (.cells #[.int .u32 0, .slice none 0 0, .int .i64 0] 33)))
  have HN3 := Lib.hid (blk_new w1 #[.int .u32 0, .slice none 0 0, .int .i64 0] 33)
  have HNE1 : Hid (¬ w.heap.size = w.heap.size + 1) := Lib.hid (by omega)
  have HNE3 : Hid (¬ w1.heap.size = w.heap.size + 1) := Lib.hid (by have := (HN.out.2.below hb).lt; omega)
  clear hb HB HN HR
  go_wp2_with fail
  generalize w1.alloc (.cells #[.int .u32 0, .slice none 0 0, .int .i64 0] 33) = w2 at *
  obtain ⟨c0, c1, c2⟩ := HN2.out.three
  have f0 := HN2.out.frz 0
  have f1 := HN2.out.frz 1
  have f2 := HN2.out.frz 2
  refine wp_region_held_drew (S := fun w' => Keep (fun g => g = w.heap.size + 1) w2 w') (by kernel_rfl) (Keep.of_below (bel_drew w2)) (fun hHeld => ?_)
  refine wpAnyH_take (i := 0) (oi := ?_) (v := ?_) ?_ (by kernel_rfl) (by kernel_rfl) (by kernel_rfl) ?_ (Or.inl ⟨?_, ?_⟩) hHeld ?_
  rotate_left 2
  · (simp only [List.getElem?_toArray, List.getElem?_cons_zero]; rfl)
  · exact (fun _ _ _ h => h)
  · rfl
  · (intro w hSw; (try dsimp only at hSw); obtain ⟨q0, q1, q2⟩ := (HN3.out.keep hSw HNE3.out).three; go_simp; try with_reducible rfl)
  (try simp only [Act.put, List.setIfInBounds_toArray, List.set_cons_zero, List.set_cons_succ])
  refine wpAnyH_take (i := 1) (oi := ?_) (v := ?_) ?_ (by kernel_rfl) (by kernel_rfl) (by kernel_rfl) ?_ (Or.inl ⟨?_, ?_⟩) hHeld ?_
  rotate_left 2
  · (simp only [List.getElem?_toArray, List.getElem?_cons_zero, List.getElem?_cons_succ]; rfl)
  · exact (fun _ _ _ h => h)
  · rfl
  · (intro w hSw; (try dsimp only at hSw); go_simp; try with_reducible rfl)
  (try simp only [Act.put, List.setIfInBounds_toArray, List.set_cons_zero, List.set_cons_succ])
  refine wpAnyH_take (i := 2) (oi := ?_) (v := ?_) ?_ (by kernel_rfl) (by kernel_rfl) (by kernel_rfl) ?_ (Or.inl ⟨?_, ?_⟩) hHeld ?_
  rotate_left 2
  · (simp only [List.getElem?_toArray, List.getElem?_cons_zero, List.getElem?_cons_succ]; rfl)
  · exact (fun _ _ _ h => h)
  · rfl
  · (intro w hSw; (try dsimp only at hSw); go_simp; try with_reducible rfl)
  (try simp only [Act.put, List.setIfInBounds_toArray, List.set_cons_zero, List.set_cons_succ])
  refine wpAnyH_take (i := 3) (oi := ?_) (v := undef) ?_ (by kernel_rfl) (by kernel_rfl) (by kernel_rfl) ?_ (Or.inr ⟨?_, rfl⟩) hHeld ?_
  rotate_left 1
  · (simp only [List.getElem?_toArray, List.getElem?_cons_zero, List.getElem?_cons_succ]; rfl)
  · exact (fun _ _ _ h => h)
  · rfl
  (try simp only [Act.put, List.setIfInBounds_toArray, List.set_cons_zero, List.set_cons_succ])
  refine wpAnyH_take (i := 4) (oi := ?_) (v := undef) ?_ (by kernel_rfl) (by kernel_rfl) (by kernel_rfl) ?_ (Or.inr ⟨?_, rfl⟩) hHeld ?_
  rotate_left 1
  · (simp only [List.getElem?_toArray, List.getElem?_cons_zero, List.getElem?_cons_succ]; rfl)
  · exact (fun _ _ _ h => h)
  · rfl
  (try simp only [Act.put, List.setIfInBounds_toArray, List.set_cons_zero, List.set_cons_succ])
  refine wpAnyH_take (i := 5) (oi := ?_) (v := undef) ?_ (by kernel_rfl) (by kernel_rfl) (by kernel_rfl) ?_ (Or.inr ⟨?_, rfl⟩) hHeld ?_
  rotate_left 1
  · (simp only [List.getElem?_toArray, List.getElem?_cons_zero, List.getElem?_cons_succ]; rfl)
  · exact (fun _ _ _ h => h)
  · rfl
  (try simp only [Act.put, List.setIfInBounds_toArray, List.set_cons_zero, List.set_cons_succ])
  refine wpAnyH_take (i := 6) (oi := ?_) (v := undef) ?_ (by kernel_rfl) (by kernel_rfl) (by kernel_rfl) ?_ (Or.inr ⟨?_, rfl⟩) hHeld ?_
  rotate_left 1
  · (simp only [List.getElem?_toArray, List.getElem?_cons_zero, List.getElem?_cons_succ]; rfl)
  · exact (fun _ _ _ h => h)
  · rfl
  (try simp only [Act.put, List.setIfInBounds_toArray, List.set_cons_zero, List.set_cons_succ])
  refine wpAnyH_take (i := 7) (oi := ?_) (v := undef) ?_ (by kernel_rfl) (by kernel_rfl) (by kernel_rfl) ?_ (Or.inr ⟨?_, rfl⟩) hHeld ?_
  rotate_left 1
  · (simp only [List.getElem?_toArray, List.getElem?_cons_zero, List.getElem?_cons_succ]; rfl)
  · exact (fun _ _ _ h => h)
  · rfl
  (try simp only [Act.put, List.setIfInBounds_toArray, List.set_cons_zero, List.set_cons_succ])
  refine wpAnyH_take (i := 8) (oi := ?_) (v := undef) ?_ (by kernel_rfl) (by kernel_rfl) (by kernel_rfl) ?_ (Or.inr ⟨?_, rfl⟩) hHeld ?_
  rotate_left 1
  · (simp only [List.getElem?_toArray, List.getElem?_cons_zero, List.getElem?_cons_succ]; rfl)
  · exact (fun _ _ _ h => h)
  · rfl
  (try simp only [Act.put, List.setIfInBounds_toArray, List.set_cons_zero, List.set_cons_succ])
  refine wpAnyH_take (i := 9) (oi := ?_) (v := ?_) ?_ (by kernel_rfl) (by kernel_rfl) (by kernel_rfl) ?_ (Or.inl ⟨?_, ?_⟩) hHeld ?_
  rotate_left 2
  · (simp only [List.getElem?_toArray, List.getElem?_cons_zero, List.getElem?_cons_succ]; rfl)
  · exact (fun _ _ _ h => h)
  · rfl
  · (intro w hSw; (try dsimp only at hSw); go_simp; try with_reducible rfl)
  (try simp only [Act.put, List.setIfInBounds_toArray, List.set_cons_zero, List.set_cons_succ])
  refine wpAnyH_ready (rs := [10]) (by kernel_rfl) (by simp) ?_
  refine AllReadyH.cons (o := ?_) ?_ (fun K hK => ?_) AllReadyH.nil
  rotate_left
  · (simp only [List.getElem?_toArray, List.getElem?_cons_zero, List.getElem?_cons_succ]; rfl)
  go_simp
  refine hK.out _ _ (((hHeld.store _ 0 _ rfl).store _ 1 _ rfl).store _ 2 _ rfl) (fun hHeld => ?_)
  clear hK K
  (try simp only [Act.put, List.setIfInBounds_toArray, List.set_cons_zero, List.set_cons_succ])
  refine wpAnyH_take (i := 11) (oi := ?_) (v := ?_) ?_ (by kernel_rfl) (by kernel_rfl) (by kernel_rfl) ?_ (Or.inl ⟨?_, ?_⟩) hHeld ?_
  rotate_left 2
  · (simp only [List.getElem?_toArray, List.getElem?_cons_zero, List.getElem?_cons_succ]; rfl)
  · exact (fun _ _ _ h => h)
  · rfl
  · (intro w hSw; (try dsimp only at hSw); go_simp; try with_reducible rfl)
  (try simp only [Act.put, List.setIfInBounds_toArray, List.set_cons_zero, List.set_cons_succ])
  refine wpAnyH_done (by kernel_rfl) ?_ _
  go_wp2_with fail
  (try simp only [Exit.inBlock, Exit.then])
  refine bodyPost_ret (v := .tuple #[.agg #[.int .u32 0, .slice none 0 0, .int .i64 0], .bool false]) ?_ rfl ⟨rfl, bel_set3 (bel_drew_ HB1.out) (by omega) _ _ _⟩
  rw [results_cell_tmp rfl]
  go_simp

set_option maxHeartbeats 1000000 in
theorem next_other (v : Value) (xs : List (BitVec 8)) (w : World) (hv : Byts w v xs) (hl : xs.length ≤ 100000) (n : Nt) (hs : n.s < 4294967295) (ra : Value) (k c : Nat) (a : Option Addr) (hra : ra = .slice a k c) (m : Nt) (h : brec xs n.e = some m) (hne : m.s ≠ n.s + 1) :
    Calls Try.prog 31 #[v, .agg #[.int .u32 (n.s : Int), ra, .int .i64 (n.e : Int)]] w fun e w' => ∃ am km cm, e = .returned (.tuple #[.agg #[.int .u32 (m.s : Int), .slice am km cm, .int .i64 (m.e : Int)], .bool false]) ∧ Below w.heap.size w w' := by
  subst hra
  have HB := Lib.hid (bel_two w (.cells #[.int .u32 (n.s : Int), .slice a k c, .int .i64 (n.e : Int)] 33) (.cells #[.int .u32 0, .slice none 0 0, .int .i64 0] 33))
  have HN := Lib.hid (two_new w #[.int .u32 (n.s : Int), .slice a k c, .int .i64 (n.e : Int)] #[.int .u32 0, .slice none 0 0, .int .i64 0] 33)
  have HR := Lib.hid (record_yes v xs _ (hv.below HB.out) hl n.e m h)
  have b0 : ((n.s : Int) == 4294967295) = false := by simp; omega
  have b1 : ((m.s : Int) == (n.s : Int) + 1) = false := by simp; omega
  have e1 : IntKind.u32.wrap ((n.s : Int) + 1) = (n.s : Int) + 1 := by simp [IntKind.wrap, IntKind.bits, IntKind.signed]; omega
  clear hne hs
  clear hv h
  go_enter Try.func31, Try.ntmps31
  go_wp2_with fail
  (with_reducible refine HR.out.mono ?_)
  rintro e w1 ⟨rm, rfl, hown, hb⟩
  obtain ⟨am, cm, em⟩ := hown.byts.len
  subst em
  have HO := Lib.hid ((hown.below (below_alloc (Below.refl _ w1) (.cells #[.int .u32 (m.s : Int), .slice am m.d.length cm, .int .i64 (m.e : Int)] 33))).mono (show w.heap.size + 2 ≤ _ by simp))
  clear hown
  have HB1 := Lib.hid (below_alloc (below_call HB.out hb) (.cells #[.int .u32 (m.s : Int), .slice am m.d.length cm, .int .i64 (m.e : Int)] 33))
  have HN1 := Lib.hid ((HN.out.1.below hb).below (below_alloc (Below.refl _ w1) (.cells #[.int .u32 (m.s : Int), .slice am m.d.length cm, .int .i64 (m.e : Int)] 33)))
  have HN2 := Lib.hid ((HN.out.2.below hb).below (below_alloc (Below.refl _ w1) (.cells #[.int .u32 (m.s : Int), .slice am m.d.length cm, .int .i64 (m.e : Int)] 33)))
  have HN3 := Lib.hid (blk_new w1 #[.int .u32 (m.s : Int), .slice am m.d.length cm, .int .i64 (m.e : Int)] 33)
  have HNE1 : Hid (¬ w.heap.size = w.heap.size + 1) := Lib.hid (by omega)
  have HNE3 : Hid (¬ w1.heap.size = w.heap.size + 1) := Lib.hid (by have := (HN.out.2.below hb).lt; omega)
  clear hb HB HN HR
  go_wp2_with fail
  generalize w1.alloc (.cells #[.int .u32 (m.s : Int), .slice am m.d.length cm, .int .i64 (m.e : Int)] 33) = w2 at *
  obtain ⟨c0, c1, c2⟩ := HN2.out.three
  have f0 := HN2.out.frz 0
  have f1 := HN2.out.frz 1
  have f2 := HN2.out.frz 2
  refine wp_region_held_drew (S := fun w' => Keep (fun g => g = w.heap.size + 1) w2 w') (by kernel_rfl) (Keep.of_below (bel_drew w2)) (fun hHeld => ?_)
  refine wpAnyH_take (i := 0) (oi := ?_) (v := ?_) ?_ (by kernel_rfl) (by kernel_rfl) (by kernel_rfl) ?_ (Or.inl ⟨?_, ?_⟩) hHeld ?_
  rotate_left 2
  · (simp only [List.getElem?_toArray, List.getElem?_cons_zero]; rfl)
  · exact (fun _ _ _ h => h)
  · rfl
  · (intro w hSw; (try dsimp only at hSw); obtain ⟨q0, q1, q2⟩ := (HN3.out.keep hSw HNE3.out).three; go_simp; try with_reducible rfl)
  (try simp only [Act.put, List.setIfInBounds_toArray, List.set_cons_zero, List.set_cons_succ])
  refine wpAnyH_take (i := 1) (oi := ?_) (v := ?_) ?_ (by kernel_rfl) (by kernel_rfl) (by kernel_rfl) ?_ (Or.inl ⟨?_, ?_⟩) hHeld ?_
  rotate_left 2
  · (simp only [List.getElem?_toArray, List.getElem?_cons_zero, List.getElem?_cons_succ]; rfl)
  · exact (fun _ _ _ h => h)
  · rfl
  · (intro w hSw; (try dsimp only at hSw); go_simp; try with_reducible rfl)
  (try simp only [Act.put, List.setIfInBounds_toArray, List.set_cons_zero, List.set_cons_succ])
  refine wpAnyH_take (i := 2) (oi := ?_) (v := ?_) ?_ (by kernel_rfl) (by kernel_rfl) (by kernel_rfl) ?_ (Or.inl ⟨?_, ?_⟩) hHeld ?_
  rotate_left 2
  · (simp only [List.getElem?_toArray, List.getElem?_cons_zero, List.getElem?_cons_succ]; rfl)
  · exact (fun _ _ _ h => h)
  · rfl
  · (intro w hSw; (try dsimp only at hSw); go_simp; try with_reducible rfl)
  (try simp only [Act.put, List.setIfInBounds_toArray, List.set_cons_zero, List.set_cons_succ])
  refine wpAnyH_take (i := 3) (oi := ?_) (v := ?_) ?_ (by kernel_rfl) (by kernel_rfl) (by kernel_rfl) ?_ (Or.inl ⟨?_, ?_⟩) hHeld ?_
  rotate_left 2
  · (simp only [List.getElem?_toArray, List.getElem?_cons_zero, List.getElem?_cons_succ]; rfl)
  · exact (fun _ _ _ h => h)
  · rfl
  · (intro w hSw; (try dsimp only at hSw); go_simp; try with_reducible rfl)
  (try simp only [Act.put, List.setIfInBounds_toArray, List.set_cons_zero, List.set_cons_succ])
  refine wpAnyH_take (i := 4) (oi := ?_) (v := ?_) ?_ (by kernel_rfl) (by kernel_rfl) (by kernel_rfl) ?_ (Or.inl ⟨?_, ?_⟩) hHeld ?_
  rotate_left 2
  · (simp only [List.getElem?_toArray, List.getElem?_cons_zero, List.getElem?_cons_succ]; rfl)
  · exact (fun _ _ _ h => h)
  · rfl
  · (intro w hSw; (try dsimp only at hSw); obtain ⟨q0, q1, q2⟩ := (HN3.out.keep hSw HNE3.out).three; go_simp; try with_reducible rfl)
  (try simp only [Act.put, List.setIfInBounds_toArray, List.set_cons_zero, List.set_cons_succ])
  refine wpAnyH_take (i := 5) (oi := ?_) (v := ?_) ?_ (by kernel_rfl) (by kernel_rfl) (by kernel_rfl) ?_ (Or.inl ⟨?_, ?_⟩) hHeld ?_
  rotate_left 2
  · (simp only [List.getElem?_toArray, List.getElem?_cons_zero, List.getElem?_cons_succ]; rfl)
  · exact (fun _ _ _ h => h)
  · rfl
  · (intro w hSw; (try dsimp only at hSw); go_simp; try with_reducible rfl)
  (try simp only [Act.put, List.setIfInBounds_toArray, List.set_cons_zero, List.set_cons_succ])
  refine wpAnyH_take (i := 6) (oi := ?_) (v := ?_) ?_ (by kernel_rfl) (by kernel_rfl) (by kernel_rfl) ?_ (Or.inl ⟨?_, ?_⟩) hHeld ?_
  rotate_left 2
  · (simp only [List.getElem?_toArray, List.getElem?_cons_zero, List.getElem?_cons_succ]; rfl)
  · exact (fun _ _ _ h => h)
  · rfl
  · (intro w hSw; (try dsimp only at hSw); obtain ⟨q0, q1, q2⟩ := (HN1.out.keep hSw HNE1.out).three; go_simp; try with_reducible rfl)
  (try simp only [Act.put, List.setIfInBounds_toArray, List.set_cons_zero, List.set_cons_succ])
  refine wpAnyH_take (i := 7) (oi := ?_) (v := ?_) ?_ (by kernel_rfl) (by kernel_rfl) (by kernel_rfl) ?_ (Or.inl ⟨?_, ?_⟩) hHeld ?_
  rotate_left 2
  · (simp only [List.getElem?_toArray, List.getElem?_cons_zero, List.getElem?_cons_succ]; rfl)
  · exact (fun _ _ _ h => h)
  · rfl
  · (intro w hSw; (try dsimp only at hSw); go_simp; try with_reducible rfl)
  (try simp only [Act.put, List.setIfInBounds_toArray, List.set_cons_zero, List.set_cons_succ])
  refine wpAnyH_take (i := 8) (oi := ?_) (v := ?_) ?_ (by kernel_rfl) (by kernel_rfl) (by kernel_rfl) ?_ (Or.inl ⟨?_, ?_⟩) hHeld ?_
  rotate_left 2
  · (simp only [List.getElem?_toArray, List.getElem?_cons_zero, List.getElem?_cons_succ]; rfl)
  · exact (fun _ _ _ h => h)
  · rfl
  · (intro w hSw; (try dsimp only at hSw); go_simp; try with_reducible rfl)
  (try simp only [Act.put, List.setIfInBounds_toArray, List.set_cons_zero, List.set_cons_succ])
  refine wpAnyH_take (i := 9) (oi := ?_) (v := ?_) ?_ (by kernel_rfl) (by kernel_rfl) (by kernel_rfl) ?_ (Or.inl ⟨?_, ?_⟩) hHeld ?_
  rotate_left 2
  · (simp only [List.getElem?_toArray, List.getElem?_cons_zero, List.getElem?_cons_succ]; rfl)
  · exact (fun _ _ _ h => h)
  · rfl
  · (intro w hSw; (try dsimp only at hSw); go_simp; try with_reducible rfl)
  (try simp only [Act.put, List.setIfInBounds_toArray, List.set_cons_zero, List.set_cons_succ])
  refine wpAnyH_ready (rs := [10]) (by kernel_rfl) (by simp) ?_
  refine AllReadyH.cons (o := ?_) ?_ (fun K hK => ?_) AllReadyH.nil
  rotate_left
  · (simp only [List.getElem?_toArray, List.getElem?_cons_zero, List.getElem?_cons_succ]; rfl)
  go_simp
  refine hK.out _ _ (((hHeld.store _ 0 _ rfl).store _ 1 _ rfl).store _ 2 _ rfl) (fun hHeld => ?_)
  clear hK K
  (try simp only [Act.put, List.setIfInBounds_toArray, List.set_cons_zero, List.set_cons_succ])
  refine wpAnyH_take (i := 11) (oi := ?_) (v := ?_) ?_ (by kernel_rfl) (by kernel_rfl) (by kernel_rfl) ?_ (Or.inl ⟨?_, ?_⟩) hHeld ?_
  rotate_left 2
  · (simp only [List.getElem?_toArray, List.getElem?_cons_zero, List.getElem?_cons_succ]; rfl)
  · exact (fun _ _ _ h => h)
  · rfl
  · (intro w hSw; (try dsimp only at hSw); go_simp; try with_reducible rfl)
  (try simp only [Act.put, List.setIfInBounds_toArray, List.set_cons_zero, List.set_cons_succ])
  refine wpAnyH_done (by kernel_rfl) ?_ _
  go_wp2_with fail
  (try simp only [Exit.inBlock, Exit.then])
  refine bodyPost_ret (v := .tuple #[.agg #[.int .u32 (m.s : Int), .slice am m.d.length cm, .int .i64 (m.e : Int)], .bool false]) ?_ rfl ⟨_, _, _, rfl, bel_set3 (bel_drew_ HB1.out) (by omega) _ _ _⟩
  rw [results_cell_tmp rfl]
  go_simp

set_option maxHeartbeats 1000000 in
theorem next_yes (v : Value) (xs : List (BitVec 8)) (w : World) (hv : Byts w v xs) (hl : xs.length ≤ 100000) (n : Nt) (hs : n.s < 4294967295) (ra : Value) (k c : Nat) (a : Option Addr) (hra : ra = .slice a k c) (m : Nt) (h : brec xs n.e = some m) (he : m.s = n.s + 1) :
    Calls Try.prog 31 #[v, .agg #[.int .u32 (n.s : Int), ra, .int .i64 (n.e : Int)]] w fun e w' => ∃ r, e = .returned (.tuple #[.agg #[.int .u32 (m.s : Int), r, .int .i64 (m.e : Int)], .bool true]) ∧ Own w' (w.heap.size + 2) r m.d ∧ Below w.heap.size w w' := by
  subst hra
  have HB := Lib.hid (bel_two w (.cells #[.int .u32 (n.s : Int), .slice a k c, .int .i64 (n.e : Int)] 33) (.cells #[.int .u32 0, .slice none 0 0, .int .i64 0] 33))
  have HN := Lib.hid (two_new w #[.int .u32 (n.s : Int), .slice a k c, .int .i64 (n.e : Int)] #[.int .u32 0, .slice none 0 0, .int .i64 0] 33)
  have HR := Lib.hid (record_yes v xs _ (hv.below HB.out) hl n.e m h)
  have b0 : ((n.s : Int) == 4294967295) = false := by simp; omega
  have b1 : ((m.s : Int) == (n.s : Int) + 1) = true := by simp; omega
  have e1 : IntKind.u32.wrap ((n.s : Int) + 1) = (n.s : Int) + 1 := by simp [IntKind.wrap, IntKind.bits, IntKind.signed]; omega
  clear he hs
  clear hv h
  go_enter Try.func31, Try.ntmps31
  go_wp2_with fail
  (with_reducible refine HR.out.mono ?_)
  rintro e w1 ⟨rm, rfl, hown, hb⟩
  obtain ⟨am, cm, em⟩ := hown.byts.len
  subst em
  have HO := Lib.hid ((hown.below (below_alloc (Below.refl _ w1) (.cells #[.int .u32 (m.s : Int), .slice am m.d.length cm, .int .i64 (m.e : Int)] 33))).mono (show w.heap.size + 2 ≤ _ by simp))
  clear hown
  have HB1 := Lib.hid (below_alloc (below_call HB.out hb) (.cells #[.int .u32 (m.s : Int), .slice am m.d.length cm, .int .i64 (m.e : Int)] 33))
  have HN1 := Lib.hid ((HN.out.1.below hb).below (below_alloc (Below.refl _ w1) (.cells #[.int .u32 (m.s : Int), .slice am m.d.length cm, .int .i64 (m.e : Int)] 33)))
  have HN2 := Lib.hid ((HN.out.2.below hb).below (below_alloc (Below.refl _ w1) (.cells #[.int .u32 (m.s : Int), .slice am m.d.length cm, .int .i64 (m.e : Int)] 33)))
  have HN3 := Lib.hid (blk_new w1 #[.int .u32 (m.s : Int), .slice am m.d.length cm, .int .i64 (m.e : Int)] 33)
  have HNE1 : Hid (¬ w.heap.size = w.heap.size + 1) := Lib.hid (by omega)
  have HNE3 : Hid (¬ w1.heap.size = w.heap.size + 1) := Lib.hid (by have := (HN.out.2.below hb).lt; omega)
  clear hb HB HN HR
  go_wp2_with fail
  generalize w1.alloc (.cells #[.int .u32 (m.s : Int), .slice am m.d.length cm, .int .i64 (m.e : Int)] 33) = w2 at *
  obtain ⟨c0, c1, c2⟩ := HN2.out.three
  have f0 := HN2.out.frz 0
  have f1 := HN2.out.frz 1
  have f2 := HN2.out.frz 2
  refine wp_region_held_drew (S := fun w' => Keep (fun g => g = w.heap.size + 1) w2 w') (by kernel_rfl) (Keep.of_below (bel_drew w2)) (fun hHeld => ?_)
  refine wpAnyH_take (i := 0) (oi := ?_) (v := ?_) ?_ (by kernel_rfl) (by kernel_rfl) (by kernel_rfl) ?_ (Or.inl ⟨?_, ?_⟩) hHeld ?_
  rotate_left 2
  · (simp only [List.getElem?_toArray, List.getElem?_cons_zero]; rfl)
  · exact (fun _ _ _ h => h)
  · rfl
  · (intro w hSw; (try dsimp only at hSw); obtain ⟨q0, q1, q2⟩ := (HN3.out.keep hSw HNE3.out).three; go_simp; try with_reducible rfl)
  (try simp only [Act.put, List.setIfInBounds_toArray, List.set_cons_zero, List.set_cons_succ])
  refine wpAnyH_take (i := 1) (oi := ?_) (v := ?_) ?_ (by kernel_rfl) (by kernel_rfl) (by kernel_rfl) ?_ (Or.inl ⟨?_, ?_⟩) hHeld ?_
  rotate_left 2
  · (simp only [List.getElem?_toArray, List.getElem?_cons_zero, List.getElem?_cons_succ]; rfl)
  · exact (fun _ _ _ h => h)
  · rfl
  · (intro w hSw; (try dsimp only at hSw); go_simp; try with_reducible rfl)
  (try simp only [Act.put, List.setIfInBounds_toArray, List.set_cons_zero, List.set_cons_succ])
  refine wpAnyH_take (i := 2) (oi := ?_) (v := ?_) ?_ (by kernel_rfl) (by kernel_rfl) (by kernel_rfl) ?_ (Or.inl ⟨?_, ?_⟩) hHeld ?_
  rotate_left 2
  · (simp only [List.getElem?_toArray, List.getElem?_cons_zero, List.getElem?_cons_succ]; rfl)
  · exact (fun _ _ _ h => h)
  · rfl
  · (intro w hSw; (try dsimp only at hSw); go_simp; try with_reducible rfl)
  (try simp only [Act.put, List.setIfInBounds_toArray, List.set_cons_zero, List.set_cons_succ])
  refine wpAnyH_take (i := 3) (oi := ?_) (v := ?_) ?_ (by kernel_rfl) (by kernel_rfl) (by kernel_rfl) ?_ (Or.inl ⟨?_, ?_⟩) hHeld ?_
  rotate_left 2
  · (simp only [List.getElem?_toArray, List.getElem?_cons_zero, List.getElem?_cons_succ]; rfl)
  · exact (fun _ _ _ h => h)
  · rfl
  · (intro w hSw; (try dsimp only at hSw); go_simp; try with_reducible rfl)
  (try simp only [Act.put, List.setIfInBounds_toArray, List.set_cons_zero, List.set_cons_succ])
  refine wpAnyH_take (i := 4) (oi := ?_) (v := ?_) ?_ (by kernel_rfl) (by kernel_rfl) (by kernel_rfl) ?_ (Or.inl ⟨?_, ?_⟩) hHeld ?_
  rotate_left 2
  · (simp only [List.getElem?_toArray, List.getElem?_cons_zero, List.getElem?_cons_succ]; rfl)
  · exact (fun _ _ _ h => h)
  · rfl
  · (intro w hSw; (try dsimp only at hSw); obtain ⟨q0, q1, q2⟩ := (HN3.out.keep hSw HNE3.out).three; go_simp; try with_reducible rfl)
  (try simp only [Act.put, List.setIfInBounds_toArray, List.set_cons_zero, List.set_cons_succ])
  refine wpAnyH_take (i := 5) (oi := ?_) (v := ?_) ?_ (by kernel_rfl) (by kernel_rfl) (by kernel_rfl) ?_ (Or.inl ⟨?_, ?_⟩) hHeld ?_
  rotate_left 2
  · (simp only [List.getElem?_toArray, List.getElem?_cons_zero, List.getElem?_cons_succ]; rfl)
  · exact (fun _ _ _ h => h)
  · rfl
  · (intro w hSw; (try dsimp only at hSw); go_simp; try with_reducible rfl)
  (try simp only [Act.put, List.setIfInBounds_toArray, List.set_cons_zero, List.set_cons_succ])
  refine wpAnyH_take (i := 6) (oi := ?_) (v := ?_) ?_ (by kernel_rfl) (by kernel_rfl) (by kernel_rfl) ?_ (Or.inl ⟨?_, ?_⟩) hHeld ?_
  rotate_left 2
  · (simp only [List.getElem?_toArray, List.getElem?_cons_zero, List.getElem?_cons_succ]; rfl)
  · exact (fun _ _ _ h => h)
  · rfl
  · (intro w hSw; (try dsimp only at hSw); obtain ⟨q0, q1, q2⟩ := (HN1.out.keep hSw HNE1.out).three; go_simp; try with_reducible rfl)
  (try simp only [Act.put, List.setIfInBounds_toArray, List.set_cons_zero, List.set_cons_succ])
  refine wpAnyH_take (i := 7) (oi := ?_) (v := ?_) ?_ (by kernel_rfl) (by kernel_rfl) (by kernel_rfl) ?_ (Or.inl ⟨?_, ?_⟩) hHeld ?_
  rotate_left 2
  · (simp only [List.getElem?_toArray, List.getElem?_cons_zero, List.getElem?_cons_succ]; rfl)
  · exact (fun _ _ _ h => h)
  · rfl
  · (intro w hSw; (try dsimp only at hSw); go_simp; try with_reducible rfl)
  (try simp only [Act.put, List.setIfInBounds_toArray, List.set_cons_zero, List.set_cons_succ])
  refine wpAnyH_take (i := 8) (oi := ?_) (v := ?_) ?_ (by kernel_rfl) (by kernel_rfl) (by kernel_rfl) ?_ (Or.inl ⟨?_, ?_⟩) hHeld ?_
  rotate_left 2
  · (simp only [List.getElem?_toArray, List.getElem?_cons_zero, List.getElem?_cons_succ]; rfl)
  · exact (fun _ _ _ h => h)
  · rfl
  · (intro w hSw; (try dsimp only at hSw); go_simp; try with_reducible rfl)
  (try simp only [Act.put, List.setIfInBounds_toArray, List.set_cons_zero, List.set_cons_succ])
  refine wpAnyH_take (i := 9) (oi := ?_) (v := ?_) ?_ (by kernel_rfl) (by kernel_rfl) (by kernel_rfl) ?_ (Or.inl ⟨?_, ?_⟩) hHeld ?_
  rotate_left 2
  · (simp only [List.getElem?_toArray, List.getElem?_cons_zero, List.getElem?_cons_succ]; rfl)
  · exact (fun _ _ _ h => h)
  · rfl
  · (intro w hSw; (try dsimp only at hSw); go_simp; try with_reducible rfl)
  (try simp only [Act.put, List.setIfInBounds_toArray, List.set_cons_zero, List.set_cons_succ])
  refine wpAnyH_ready (rs := [10]) (by kernel_rfl) (by simp) ?_
  refine AllReadyH.cons (o := ?_) ?_ (fun K hK => ?_) AllReadyH.nil
  rotate_left
  · (simp only [List.getElem?_toArray, List.getElem?_cons_zero, List.getElem?_cons_succ]; rfl)
  go_simp
  refine hK.out _ _ (((hHeld.store _ 0 _ rfl).store _ 1 _ rfl).store _ 2 _ rfl) (fun hHeld => ?_)
  clear hK K
  (try simp only [Act.put, List.setIfInBounds_toArray, List.set_cons_zero, List.set_cons_succ])
  refine wpAnyH_take (i := 11) (oi := ?_) (v := ?_) ?_ (by kernel_rfl) (by kernel_rfl) (by kernel_rfl) ?_ (Or.inl ⟨?_, ?_⟩) hHeld ?_
  rotate_left 2
  · (simp only [List.getElem?_toArray, List.getElem?_cons_zero, List.getElem?_cons_succ]; rfl)
  · exact (fun _ _ _ h => h)
  · rfl
  · (intro w hSw; (try dsimp only at hSw); go_simp; try with_reducible rfl)
  (try simp only [Act.put, List.setIfInBounds_toArray, List.set_cons_zero, List.set_cons_succ])
  refine wpAnyH_done (by kernel_rfl) ?_ _
  go_wp2_with fail
  (try simp only [Exit.inBlock, Exit.then])
  refine bodyPost_ret (v := .tuple #[.agg #[.int .u32 (m.s : Int), .slice am m.d.length cm, .int .i64 (m.e : Int)], .bool true]) ?_ rfl ⟨_, rfl, own_set3 (own_drew HO.out) (by omega) _ _ _, bel_set3 (bel_drew_ HB1.out) (by omega) _ _ _⟩
  rw [results_cell_tmp rfl]
  go_simp
end Go.Proofs.Ytecfobmmbdmdgaa

/-
  link's Take where the telegram is taken, by contracts (gen_lkc.py writes this).
-/
import Derived.Test.YtolfdfbhignniaaDoorLkAll

namespace Go.Proofs.YtolfdfbhignniaaDoor
open Go.RowKit

variable {w w' : World} {b F : Nat} {f : Nat → Ch} {v : Nat → Value} {D : Nat → Prop}
/-- The channels are f now; nothing older has changed but their block. -/
def LkAfter (w w' : World) (b F : Nat) (f : Nat → Ch) (D : Nat → Prop) : Prop := ∃ v D', Lk true w' 98 b F f v D' ∧ (∀ g, D' g → D g ∨ w.heap.size ≤ g) ∧ Keep (fun g => g = b) w w'
set_option maxHeartbeats 2000000 in
theorem take_fresh (h : Lk true w 98 b F f v D) (k : Nat) (hk : k < 16) (q : Int) (u : Value) (xs : List (BitVec 8)) (hu : Byts w u xs) (hq : 0 ≤ q ∧ q ≤ 255) (hl : xs.length ≤ 16) (hf : isF F (f k) = true) (hn : follows q (f k).seq = true) :
    Calls Tryd.prog 48 #[.pointer (some ⟨b, 0, none⟩), .agg #[.int .i64 (k : Int), .int .i64 q, u]] w fun e w' => e = .returned .nilIface ∧ LkAfter w w' b F (upd f k ⟨true, q, 0, xs⟩) D := by
  obtain ⟨ua, uc, eu⟩ := hu.len
  have HF := Lib.hid hf
  have HN := Lib.hid hn
  have HQ := Lib.hid hq
  have HL16 := Lib.hid hl
  have HLE := Lib.hid (show xs.length ≤ 1000000 by omega)
  have HP := Lib.hid (h.ok k hk).seq
  have HFit := Lib.hid (show Fit (k : Int) q xs.length by unfold Fit; omega)
  have HB := Lib.hid (below_alloc (Below.refl _ w) (.cells #[.int .i64 (k : Int), .int .i64 q, u] 84))
  have HX := Lib.hid (blk_new w #[.int .i64 (k : Int), .int .i64 q, u] 84)
  have HL := Lib.hid h
  have HU := Lib.hid hu
  have hblt := h.blt
  have hk0 : (0 : Int) ≤ (k : Int) := by omega
  have hk1 : (k : Int) < 16 := by omega
  obtain ⟨va, vn, vc, ev⟩ := h.sl k hk
  have HEV := Lib.hid ev
  clear hu h ev hf hq hl hn
  subst eu
  go_enter Tryd.func48, Tryd.ntmps48
  go_wp2_with fail
  (with_reducible refine (fits7_any (k : Int) q _ _ _ true (decide_eq_true HFit.out).symm _).mono ?_)
  rintro e w1 ⟨rfl, hb⟩
  have HB1 := Lib.hid (below_call HB.out hb)
  have HL1 := Lib.hid (HL.out.below HB1.out)
  have HX1 := Lib.hid (HX.out.below hb)
  obtain ⟨x0, x1, x2⟩ := HX1.out.three
  obtain ⟨c0, c1, c2, c3⟩ := HL1.out.at_ k hk
  rw [HEV.out] at c3
  clear hb HB HL HX
  go_wp2_with fail
  go_quiet (fail)
  have HBd := Lib.hid (bel_drewN w1 nq)
  have HB2 := Lib.hid (below_call HB1.out HBd.out)
  have HL2 := Lib.hid (HL1.out.below HBd.out)
  have HX2 := Lib.hid (HX1.out.below HBd.out)
  generalize w1.drewN nq = w2 at *
  clear x0 x1 x2 c0 c1 c2 c3 HB1 HL1 HX1 HBd
  obtain ⟨x0, x1, x2⟩ := HX2.out.three
  obtain ⟨c0, c1, c2, c3⟩ := HL2.out.at_ k hk
  rw [HEV.out] at c3
  obtain ⟨p, HPP⟩ : ∃ p, Hid (p = (f k).seq) := ⟨_, Lib.hid rfl⟩
  obtain ⟨a, HPA⟩ : ∃ a, Hid (a = (f k).age) := ⟨_, Lib.hid rfl⟩
  obtain ⟨hd, HPH⟩ : ∃ hd, Hid (hd = (f k).had) := ⟨_, Lib.hid rfl⟩
  rw [← HPH.out] at c0
  rw [← HPP.out] at c1 HP HN
  rw [← HPA.out] at c2
  have HAF := Lib.hid (show true = (hd && decide (a ≤ F)) by rw [HPA.out, HPH.out]; exact HF.out.symm)
  go_wp2_with fail
  go_region_held3 (fun w' => w'.cell? ⟨b, 1 + k * 4, none⟩ = some (.bool hd) ∧ w'.cell? ⟨b, 1 + k * 4 + 1, none⟩ = some (.int .i64 p) ∧ w'.cell? ⟨b, 1 + k * 4 + 2, none⟩ = some (.int .i64 (a : Int)) ∧ w'.cell? ⟨b, 1 + k * 4 + 3, none⟩ = some (.slice va vn vc) ∧ w'.cell? ⟨w.heap.size, 1, none⟩ = some (.int .i64 q))
    (first | exact ⟨c0, c1, c2, c3, x1⟩ | exact HK.out)
    (first
      | (go_at_call 58; (with_reducible refine (isFresh_any true _ 98 b F f v D HL2.out.drw hd p _ a rfl _ true HAF.out).mono ?_); rintro e w3 ⟨rfl, hb⟩; have HB3 := Lib.hid hb; have HK := Lib.hid (show w3.cell? ⟨b, 1 + k * 4, none⟩ = some (.bool hd) ∧ w3.cell? ⟨b, 1 + k * 4 + 1, none⟩ = some (.int .i64 p) ∧ w3.cell? ⟨b, 1 + k * 4 + 2, none⟩ = some (.int .i64 (a : Int)) ∧ w3.cell? ⟨b, 1 + k * 4 + 3, none⟩ = some (.slice va vn vc) ∧ w3.cell? ⟨w.heap.size, 1, none⟩ = some (.int .i64 q) from ⟨below_cell hb (show w2.drew.cell? _ = _ from c0), below_cell hb (show w2.drew.cell? _ = _ from c1), below_cell hb (show w2.drew.cell? _ = _ from c2), below_cell hb (show w2.drew.cell? _ = _ from c3), below_cell hb (show w2.drew.cell? _ = _ from x1)⟩); clear hb)
      | (go_at_call 69; (with_reducible refine (follows_any q p true HN.out.symm _ HQ.out HP.out).mono ?_); rintro e w4 ⟨rfl, rfl⟩))
  have HB4 := Lib.hid (below_call (bel_drew w2) HB3.out)
  have HB5 := Lib.hid (below_call HB2.out HB4.out)
  have HL4 := Lib.hid (HL2.out.below HB4.out)
  have HX4 := Lib.hid (HX2.out.below HB4.out)
  have HU4 := Lib.hid ((HU.out.below HB5.out).below (bel_drew w3))
  clear x0 x1 x2 c0 c1 c2 c3 HK HL2 HX2 HB2 HB3 HU HB4
  obtain ⟨x0, x1, x2⟩ := HX4.out.three
  go_wp2_with fail
  go_region_held3 (fun w' => w'.cell? ⟨w.heap.size, 1, none⟩ = some (.int .i64 q) ∧ w'.cell? ⟨w.heap.size, 2, none⟩ = some (.slice ua xs.length uc))
    (first | exact ⟨x1, x2⟩ | exact HK.out | exact HKS.out)
    (first
      | (go_at_call 70; (with_reducible refine (clone_any _ xs _ HU4.out HLE.out).mono ?_); rintro e w5 ⟨r, rfl, ho, hb⟩
         have HB6 := Lib.hid (below_call (bel_drew w3) hb); have HL6 := Lib.hid (HL4.out.below HB6.out); have HX6 := HX4.out.below HB6.out; have HK := Lib.hid (show w5.cell? ⟨w.heap.size, 1, none⟩ = some (.int .i64 q) ∧ w5.cell? ⟨w.heap.size, 2, none⟩ = some (.slice ua xs.length uc) from ⟨HX6.three.2.1, HX6.three.2.2⟩)
         obtain ⟨c0, c1, c2, c3⟩ := HL6.out.at_ k hk; have z0 := HL6.out.frz (1 + k * 4); have z1 := HL6.out.frz (1 + k * 4 + 1); have z2 := HL6.out.frz (1 + k * 4 + 2); have z3 := HL6.out.frz (1 + k * 4 + 3)
         obtain ⟨ra, rc, er⟩ := ho.byts.len; have HO := Lib.hid ho; have HX7 := Lib.hid HX6
         have HKS := Lib.hid (show ((((w5.setCell ⟨b, 1 + k * 4, none⟩ (.bool true)).setCell ⟨b, 1 + k * 4 + 1, none⟩ (.int .i64 q)).setCell ⟨b, 1 + k * 4 + 2, none⟩ (.int .i64 0)).setCell ⟨b, 1 + k * 4 + 3, none⟩ (.slice ra xs.length rc)).cell? ⟨w.heap.size, 1, none⟩ = some (.int .i64 q) ∧ ((((w5.setCell ⟨b, 1 + k * 4, none⟩ (.bool true)).setCell ⟨b, 1 + k * 4 + 1, none⟩ (.int .i64 q)).setCell ⟨b, 1 + k * 4 + 2, none⟩ (.int .i64 0)).setCell ⟨b, 1 + k * 4 + 3, none⟩ (.slice ra xs.length rc)).cell? ⟨w.heap.size, 2, none⟩ = some (.slice ua xs.length uc) from
           ⟨(((((HX6.far b _ _ (by omega)).far b _ _ (by omega)).far b _ _ (by omega)).far b _ _ (by omega)).three).2.1, (((((HX6.far b _ _ (by omega)).far b _ _ (by omega)).far b _ _ (by omega)).far b _ _ (by omega)).three).2.2⟩)
         clear hb ho HX6; have HER := Lib.hid er; subst er))
  go_wp2_with fail
  go_ret
  refine ⟨rfl, upd v k (.slice ra xs.length rc), fun g => D g ∨ (Value.slice ra xs.length rc).ownBlock = some g, ?_, ?_, ?_⟩
  · have hm := HL6.out.mono (D' := fun g => D g ∨ (Value.slice ra xs.length rc).ownBlock = some g) (fun g hg => .inl hg) (fun g hg => by
      rcases hg with hg | hg
      · exact HL6.out.lt g hg
      · have h1 := World.ownsRow.lt HO.out g hg
        have h2 : w3.heap.size ≤ g := h1.1
        have h3 := HB5.out.size
        exact ⟨h1.2, by omega⟩)
    exact hm.put k hk ⟨true, q, 0, xs⟩ _ (ok_taken HQ.out.1 HQ.out.2 HL16.out) HO.out.byts (fun a n cp e => by
      right; right
      rw [e]; rfl)
  · intro g hg
    rcases hg with hg | hg
    · exact .inl hg
    · right
      have h1 := (World.ownsRow.lt HO.out g hg).1
      have h2 : w3.heap.size ≤ g := h1
      have h3 := HB5.out.size
      omega
  · exact (Keep.of_below (below_call HB5.out HB6.out)).trans (keep_put _ b _ _ _ _ _) (fun g h => .inl h)
set_option maxHeartbeats 2000000 in
theorem take_stale (h : Lk true w 98 b F f v D) (k : Nat) (hk : k < 16) (q : Int) (u : Value) (xs : List (BitVec 8)) (hu : Byts w u xs) (hq : 0 ≤ q ∧ q ≤ 255) (hl : xs.length ≤ 16) (hf : isF F (f k) = false) :
    Calls Tryd.prog 48 #[.pointer (some ⟨b, 0, none⟩), .agg #[.int .i64 (k : Int), .int .i64 q, u]] w fun e w' => e = .returned .nilIface ∧ LkAfter w w' b F (upd f k ⟨true, q, 0, xs⟩) D := by
  obtain ⟨ua, uc, eu⟩ := hu.len
  have HF := Lib.hid hf
  have HQ := Lib.hid hq
  have HL16 := Lib.hid hl
  have HLE := Lib.hid (show xs.length ≤ 1000000 by omega)
  have HP := Lib.hid (h.ok k hk).seq
  have HFit := Lib.hid (show Fit (k : Int) q xs.length by unfold Fit; omega)
  have HB := Lib.hid (below_alloc (Below.refl _ w) (.cells #[.int .i64 (k : Int), .int .i64 q, u] 84))
  have HX := Lib.hid (blk_new w #[.int .i64 (k : Int), .int .i64 q, u] 84)
  have HL := Lib.hid h
  have HU := Lib.hid hu
  have hblt := h.blt
  have hk0 : (0 : Int) ≤ (k : Int) := by omega
  have hk1 : (k : Int) < 16 := by omega
  obtain ⟨va, vn, vc, ev⟩ := h.sl k hk
  have HEV := Lib.hid ev
  clear hu h ev hf hq hl 
  subst eu
  go_enter Tryd.func48, Tryd.ntmps48
  go_wp2_with fail
  (with_reducible refine (fits7_any (k : Int) q _ _ _ true (decide_eq_true HFit.out).symm _).mono ?_)
  rintro e w1 ⟨rfl, hb⟩
  have HB1 := Lib.hid (below_call HB.out hb)
  have HL1 := Lib.hid (HL.out.below HB1.out)
  have HX1 := Lib.hid (HX.out.below hb)
  obtain ⟨x0, x1, x2⟩ := HX1.out.three
  obtain ⟨c0, c1, c2, c3⟩ := HL1.out.at_ k hk
  rw [HEV.out] at c3
  clear hb HB HL HX
  go_wp2_with fail
  go_quiet (fail)
  have HBd := Lib.hid (bel_drewN w1 nq)
  have HB2 := Lib.hid (below_call HB1.out HBd.out)
  have HL2 := Lib.hid (HL1.out.below HBd.out)
  have HX2 := Lib.hid (HX1.out.below HBd.out)
  generalize w1.drewN nq = w2 at *
  clear x0 x1 x2 c0 c1 c2 c3 HB1 HL1 HX1 HBd
  obtain ⟨x0, x1, x2⟩ := HX2.out.three
  obtain ⟨c0, c1, c2, c3⟩ := HL2.out.at_ k hk
  rw [HEV.out] at c3
  obtain ⟨p, HPP⟩ : ∃ p, Hid (p = (f k).seq) := ⟨_, Lib.hid rfl⟩
  obtain ⟨a, HPA⟩ : ∃ a, Hid (a = (f k).age) := ⟨_, Lib.hid rfl⟩
  obtain ⟨hd, HPH⟩ : ∃ hd, Hid (hd = (f k).had) := ⟨_, Lib.hid rfl⟩
  rw [← HPH.out] at c0
  rw [← HPP.out] at c1 HP
  rw [← HPA.out] at c2
  have HAF := Lib.hid (show false = (hd && decide (a ≤ F)) by rw [HPA.out, HPH.out]; exact HF.out.symm)
  go_wp2_with fail
  refine wp_region_held_drew (S := (fun w' => w'.cell? ⟨b, 1 + k * 4, none⟩ = some (.bool hd) ∧ w'.cell? ⟨b, 1 + k * 4 + 1, none⟩ = some (.int .i64 p) ∧ w'.cell? ⟨b, 1 + k * 4 + 2, none⟩ = some (.int .i64 (a : Int)) ∧ w'.cell? ⟨b, 1 + k * 4 + 3, none⟩ = some (.slice va vn vc) ∧ w'.cell? ⟨w.heap.size, 1, none⟩ = some (.int .i64 q))) (by kernel_rfl) ⟨c0, c1, c2, c3, x1⟩ (fun hHeld => ?_)
  refine wpAnyH_take (i := 0) (oi := ?_) (v := ?_) ?_ (by kernel_rfl) (by kernel_rfl) (by kernel_rfl) ?_ (Or.inl ⟨?_, ?_⟩) hHeld ?_
  rotate_left 2
  · (simp only [List.getElem?_toArray, List.getElem?_cons_zero]; rfl)
  · exact (fun _ _ _ h => h)
  · rfl
  · (intro w hSw; (try dsimp only at hSw); go_simp; try with_reducible rfl)
  (try simp only [Act.put, List.setIfInBounds_toArray, List.set_cons_zero, List.set_cons_succ])
  refine wpAnyH_take (i := 1) (oi := ?_) (v := ?_) ?_ (by kernel_rfl) (by kernel_rfl) (by kernel_rfl) ?_ (Or.inl ⟨?_, ?_⟩) hHeld ?_
  rotate_left 2
  · (simp only [List.getElem?_toArray, List.getElem?_cons_zero, List.getElem?_cons_succ]; rfl)
  · exact (fun _ _ _ h => h)
  · rfl
  · (intro w hSw; (try dsimp only at hSw); go_simp; try with_reducible rfl)
  (try simp only [Act.put, List.setIfInBounds_toArray, List.set_cons_zero, List.set_cons_succ])
  refine wpAnyH_take (i := 2) (oi := ?_) (v := ?_) ?_ (by kernel_rfl) (by kernel_rfl) (by kernel_rfl) ?_ (Or.inl ⟨?_, ?_⟩) hHeld ?_
  rotate_left 2
  · (simp only [List.getElem?_toArray, List.getElem?_cons_zero, List.getElem?_cons_succ]; rfl)
  · exact (fun _ _ _ h => h)
  · rfl
  · (intro w hSw; (try dsimp only at hSw); go_simp; try with_reducible rfl)
  (try simp only [Act.put, List.setIfInBounds_toArray, List.set_cons_zero, List.set_cons_succ])
  refine wpAnyH_take (i := 3) (oi := ?_) (v := ?_) ?_ (by kernel_rfl) (by kernel_rfl) (by kernel_rfl) ?_ (Or.inl ⟨?_, ?_⟩) hHeld ?_
  rotate_left 2
  · (simp only [List.getElem?_toArray, List.getElem?_cons_zero, List.getElem?_cons_succ]; rfl)
  · exact (fun _ _ _ h => h)
  · rfl
  · (intro w hSw; (try dsimp only at hSw); go_simp; try with_reducible rfl)
  (try simp only [Act.put, List.setIfInBounds_toArray, List.set_cons_zero, List.set_cons_succ])
  refine wpAnyH_ready (rs := [4]) (by kernel_rfl) (by simp) ?_
  refine AllReadyH.cons (o := ?_) ?_ (fun K hK => ?_) AllReadyH.nil
  rotate_left
  · (simp only [List.getElem?_toArray, List.getElem?_cons_zero, List.getElem?_cons_succ]; rfl)
  go_simp
  (with_reducible refine (isFresh_any true _ 98 b F f v D HL2.out.drw hd p _ a rfl _ false HAF.out).mono ?_)
  rintro e w3 ⟨rfl, hb⟩; have HB3 := Lib.hid hb; have HK := Lib.hid (show w3.cell? ⟨b, 1 + k * 4, none⟩ = some (.bool hd) ∧ w3.cell? ⟨b, 1 + k * 4 + 1, none⟩ = some (.int .i64 p) ∧ w3.cell? ⟨b, 1 + k * 4 + 2, none⟩ = some (.int .i64 (a : Int)) ∧ w3.cell? ⟨b, 1 + k * 4 + 3, none⟩ = some (.slice va vn vc) ∧ w3.cell? ⟨w.heap.size, 1, none⟩ = some (.int .i64 q) from ⟨below_cell hb (show w2.drew.cell? _ = _ from c0), below_cell hb (show w2.drew.cell? _ = _ from c1), below_cell hb (show w2.drew.cell? _ = _ from c2), below_cell hb (show w2.drew.cell? _ = _ from c3), below_cell hb (show w2.drew.cell? _ = _ from x1)⟩); clear hb
  go_wp2_with fail
  refine hK.out _ _ HK.out (fun hHeld => ?_)
  clear hK K
  (try simp only [Act.put, List.setIfInBounds_toArray, List.set_cons_zero, List.set_cons_succ])
  refine wpAnyH_take (i := 5) (oi := ?_) (v := ?_) ?_ (by kernel_rfl) (by kernel_rfl) (by kernel_rfl) ?_ (Or.inl ⟨?_, ?_⟩) hHeld ?_
  rotate_left 2
  · (simp only [List.getElem?_toArray, List.getElem?_cons_zero, List.getElem?_cons_succ]; rfl)
  · exact (fun _ _ _ h => h)
  · rfl
  · (intro w hSw; (try dsimp only at hSw); go_simp; try with_reducible rfl)
  (try simp only [Act.put, List.setIfInBounds_toArray, List.set_cons_zero, List.set_cons_succ])
  refine wpAnyH_take (i := 6) (oi := ?_) (v := undef) ?_ (by kernel_rfl) (by kernel_rfl) (by kernel_rfl) ?_ (Or.inr ⟨?_, rfl⟩) hHeld ?_
  rotate_left 1
  · (simp only [List.getElem?_toArray, List.getElem?_cons_zero, List.getElem?_cons_succ]; rfl)
  · exact (fun _ _ _ h => h)
  · rfl
  (try simp only [Act.put, List.setIfInBounds_toArray, List.set_cons_zero, List.set_cons_succ])
  refine wpAnyH_take (i := 7) (oi := ?_) (v := undef) ?_ (by kernel_rfl) (by kernel_rfl) (by kernel_rfl) ?_ (Or.inr ⟨?_, rfl⟩) hHeld ?_
  rotate_left 1
  · (simp only [List.getElem?_toArray, List.getElem?_cons_zero, List.getElem?_cons_succ]; rfl)
  · exact (fun _ _ _ h => h)
  · rfl
  (try simp only [Act.put, List.setIfInBounds_toArray, List.set_cons_zero, List.set_cons_succ])
  refine wpAnyH_take (i := 8) (oi := ?_) (v := undef) ?_ (by kernel_rfl) (by kernel_rfl) (by kernel_rfl) ?_ (Or.inr ⟨?_, rfl⟩) hHeld ?_
  rotate_left 1
  · (simp only [List.getElem?_toArray, List.getElem?_cons_zero, List.getElem?_cons_succ]; rfl)
  · exact (fun _ _ _ h => h)
  · rfl
  (try simp only [Act.put, List.setIfInBounds_toArray, List.set_cons_zero, List.set_cons_succ])
  refine wpAnyH_take (i := 9) (oi := ?_) (v := undef) ?_ (by kernel_rfl) (by kernel_rfl) (by kernel_rfl) ?_ (Or.inr ⟨?_, rfl⟩) hHeld ?_
  rotate_left 1
  · (simp only [List.getElem?_toArray, List.getElem?_cons_zero, List.getElem?_cons_succ]; rfl)
  · exact (fun _ _ _ h => h)
  · rfl
  (try simp only [Act.put, List.setIfInBounds_toArray, List.set_cons_zero, List.set_cons_succ])
  refine wpAnyH_take (i := 10) (oi := ?_) (v := undef) ?_ (by kernel_rfl) (by kernel_rfl) (by kernel_rfl) ?_ (Or.inr ⟨?_, rfl⟩) hHeld ?_
  rotate_left 1
  · (simp only [List.getElem?_toArray, List.getElem?_cons_zero, List.getElem?_cons_succ]; rfl)
  · exact (fun _ _ _ h => h)
  · rfl
  (try simp only [Act.put, List.setIfInBounds_toArray, List.set_cons_zero, List.set_cons_succ])
  refine wpAnyH_take (i := 11) (oi := ?_) (v := undef) ?_ (by kernel_rfl) (by kernel_rfl) (by kernel_rfl) ?_ (Or.inr ⟨?_, rfl⟩) hHeld ?_
  rotate_left 1
  · (simp only [List.getElem?_toArray, List.getElem?_cons_zero, List.getElem?_cons_succ]; rfl)
  · exact (fun _ _ _ h => h)
  · rfl
  (try simp only [Act.put, List.setIfInBounds_toArray, List.set_cons_zero, List.set_cons_succ])
  refine wpAnyH_take (i := 12) (oi := ?_) (v := undef) ?_ (by kernel_rfl) (by kernel_rfl) (by kernel_rfl) ?_ (Or.inr ⟨?_, rfl⟩) hHeld ?_
  rotate_left 1
  · (simp only [List.getElem?_toArray, List.getElem?_cons_zero, List.getElem?_cons_succ]; rfl)
  · exact (fun _ _ _ h => h)
  · rfl
  (try simp only [Act.put, List.setIfInBounds_toArray, List.set_cons_zero, List.set_cons_succ])
  refine wpAnyH_take (i := 13) (oi := ?_) (v := undef) ?_ (by kernel_rfl) (by kernel_rfl) (by kernel_rfl) ?_ (Or.inr ⟨?_, rfl⟩) hHeld ?_
  rotate_left 1
  · (simp only [List.getElem?_toArray, List.getElem?_cons_zero, List.getElem?_cons_succ]; rfl)
  · exact (fun _ _ _ h => h)
  · rfl
  (try simp only [Act.put, List.setIfInBounds_toArray, List.set_cons_zero, List.set_cons_succ])
  refine wpAnyH_take (i := 14) (oi := ?_) (v := ?_) ?_ (by kernel_rfl) (by kernel_rfl) (by kernel_rfl) ?_ (Or.inl ⟨?_, ?_⟩) hHeld ?_
  rotate_left 2
  · (simp only [List.getElem?_toArray, List.getElem?_cons_zero, List.getElem?_cons_succ]; rfl)
  · exact (fun _ _ _ h => h)
  · rfl
  · (intro w hSw; (try dsimp only at hSw); go_simp; try with_reducible rfl)
  (try simp only [Act.put, List.setIfInBounds_toArray, List.set_cons_zero, List.set_cons_succ])
  refine wpAnyH_done (by kernel_rfl) ?_ _
  have HB4 := Lib.hid (below_call (bel_drew w2) HB3.out)
  have HB5 := Lib.hid (below_call HB2.out HB4.out)
  have HL4 := Lib.hid (HL2.out.below HB4.out)
  have HX4 := Lib.hid (HX2.out.below HB4.out)
  have HU4 := Lib.hid ((HU.out.below HB5.out).below (bel_drew w3))
  clear x0 x1 x2 c0 c1 c2 c3 HK HL2 HX2 HB2 HB3 HU HB4
  obtain ⟨x0, x1, x2⟩ := HX4.out.three
  go_wp2_with fail
  go_region_held3 (fun w' => w'.cell? ⟨w.heap.size, 1, none⟩ = some (.int .i64 q) ∧ w'.cell? ⟨w.heap.size, 2, none⟩ = some (.slice ua xs.length uc))
    (first | exact ⟨x1, x2⟩ | exact HK.out | exact HKS.out)
    (first
      | (go_at_call 70; (with_reducible refine (clone_any _ xs _ HU4.out HLE.out).mono ?_); rintro e w5 ⟨r, rfl, ho, hb⟩
         have HB6 := Lib.hid (below_call (bel_drew w3) hb); have HL6 := Lib.hid (HL4.out.below HB6.out); have HX6 := HX4.out.below HB6.out; have HK := Lib.hid (show w5.cell? ⟨w.heap.size, 1, none⟩ = some (.int .i64 q) ∧ w5.cell? ⟨w.heap.size, 2, none⟩ = some (.slice ua xs.length uc) from ⟨HX6.three.2.1, HX6.three.2.2⟩)
         obtain ⟨c0, c1, c2, c3⟩ := HL6.out.at_ k hk; have z0 := HL6.out.frz (1 + k * 4); have z1 := HL6.out.frz (1 + k * 4 + 1); have z2 := HL6.out.frz (1 + k * 4 + 2); have z3 := HL6.out.frz (1 + k * 4 + 3)
         obtain ⟨ra, rc, er⟩ := ho.byts.len; have HO := Lib.hid ho; have HX7 := Lib.hid HX6
         have HKS := Lib.hid (show ((((w5.setCell ⟨b, 1 + k * 4, none⟩ (.bool true)).setCell ⟨b, 1 + k * 4 + 1, none⟩ (.int .i64 q)).setCell ⟨b, 1 + k * 4 + 2, none⟩ (.int .i64 0)).setCell ⟨b, 1 + k * 4 + 3, none⟩ (.slice ra xs.length rc)).cell? ⟨w.heap.size, 1, none⟩ = some (.int .i64 q) ∧ ((((w5.setCell ⟨b, 1 + k * 4, none⟩ (.bool true)).setCell ⟨b, 1 + k * 4 + 1, none⟩ (.int .i64 q)).setCell ⟨b, 1 + k * 4 + 2, none⟩ (.int .i64 0)).setCell ⟨b, 1 + k * 4 + 3, none⟩ (.slice ra xs.length rc)).cell? ⟨w.heap.size, 2, none⟩ = some (.slice ua xs.length uc) from
           ⟨(((((HX6.far b _ _ (by omega)).far b _ _ (by omega)).far b _ _ (by omega)).far b _ _ (by omega)).three).2.1, (((((HX6.far b _ _ (by omega)).far b _ _ (by omega)).far b _ _ (by omega)).far b _ _ (by omega)).three).2.2⟩)
         clear hb ho HX6; have HER := Lib.hid er; subst er))
  go_wp2_with fail
  go_ret
  refine ⟨rfl, upd v k (.slice ra xs.length rc), fun g => D g ∨ (Value.slice ra xs.length rc).ownBlock = some g, ?_, ?_, ?_⟩
  · have hm := HL6.out.mono (D' := fun g => D g ∨ (Value.slice ra xs.length rc).ownBlock = some g) (fun g hg => .inl hg) (fun g hg => by
      rcases hg with hg | hg
      · exact HL6.out.lt g hg
      · have h1 := World.ownsRow.lt HO.out g hg
        have h2 : w3.heap.size ≤ g := h1.1
        have h3 := HB5.out.size
        exact ⟨h1.2, by omega⟩)
    exact hm.put k hk ⟨true, q, 0, xs⟩ _ (ok_taken HQ.out.1 HQ.out.2 HL16.out) HO.out.byts (fun a n cp e => by
      right; right
      rw [e]; rfl)
  · intro g hg
    rcases hg with hg | hg
    · exact .inl hg
    · right
      have h1 := (World.ownsRow.lt HO.out g hg).1
      have h2 : w3.heap.size ≤ g := h1
      have h3 := HB5.out.size
      omega
  · exact (Keep.of_below (below_call HB5.out HB6.out)).trans (keep_put _ b _ _ _ _ _) (fun g h => .inl h)
end Go.Proofs.YtolfdfbhignniaaDoor

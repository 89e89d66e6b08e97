/-
  config's read by contract.
-/
import Derived.Test.YthjpacdhaeoecaaDoorCfMake
import Derived.Test.YthjpacdhaeoecaaDoorPrefix
import Derived.Test.YthjpacdhaeoecaaDoorWrap
import Derived.Test.YthjpacdhaeoecaaDoorMark
import Derived.Deep.RegionHeld3
namespace Go.Proofs.YthjpacdhaeoecaaDoor
open Go.RowKit

theorem mark_lit (w : World) : Byts (w.alloc (.cells #[.int .u8 88, .int .u8 66, .int .u8 49] 5 (3, 4))) (.slice (some ⟨w.heap.size, 0, none⟩) 3 3) mark := lit_byts w #[.int .u8 88, .int .u8 66, .int .u8 49] 3 (3, 4) mark rfl rfl
def zcf : Array Value := cfc (.slice none 0 0) (fun _ => 0)
theorem Blk.past5 {w : World} {g : Nat} {C : Array Value} {T : TypeId} (h : Blk w g C T) (j : Nat) {u : Value} (hu : C[j]? = some u) (b : Nat) (hne : g ≠ b) (p : Nat) (o0 o1 o2 o3 o4 : Value) :
    (((((w.setCell ⟨b, p, none⟩ o0).setCell ⟨b, p + 1, none⟩ o1).setCell ⟨b, p + 2, none⟩ o2).setCell ⟨b, p + 3, none⟩ o3).setCell ⟨b, p + 4, none⟩ o4).cell? ⟨g, j, none⟩ = some u :=
  (((((h.far b _ o0 hne).far b _ o1 hne).far b _ o2 hne).far b _ o3 hne).far b _ o4 hne).cell j hu
/-- Does it begin with the mark? -/
abbrev Pre (xs : List (BitVec 8)) : Prop := mark.length ≤ xs.length ∧ xs.take mark.length = mark

theorem ErrV.aside {w w' : World} {v : Value} {k : Int} {b : Nat} (h : ErrV w v k) (h0 : w.cell? ⟨b, 1, none⟩ = some (.int .i64 0)) (ha : Apart b w w') : ErrV w' v k := by
  rcases h with h | ⟨g, hk, e, hc⟩
  · exact .inl h
  · refine .inr ⟨g, hk, e, ha.cell hc ?_⟩
    rintro rfl
    rw [h0] at hc
    injection hc with hc
    injection hc with _ hc
    exact hk hc.symm
theorem full_if {ys : List (BitVec 8)} {n m : Nat} (hn : n = rdN ys) (hm : m = n) : (if Full ys then (0 : Int) else 2) = if ys.length = 21 + 14 * m then 0 else 2 := by
  subst hm hn
  rfl

set_option maxHeartbeats 2000000 in
theorem read_no (v : Value) (xs : List (BitVec 8)) (hp : ¬ Pre xs) (w : World) (hv : Byts w v xs) :
    Calls Tryd.prog 28 #[v] w fun e w' => ∃ r, e = .returned (.tuple #[.agg zcf, r]) ∧ ErrV w' r 2 ∧ Below w.heap.size w w' := by
  have HV := Lib.hid hv
  have HP := Lib.hid hp
  clear hv hp
  obtain ⟨w0, hw0⟩ : ∃ w0, w0 = w.alloc (.cells zcf 26) := ⟨_, rfl⟩
  have HB0 := Lib.hid (show Below w.heap.size w w0 by rw [hw0]; exact below_alloc (Below.refl _ w) _)
  have HZ := Lib.hid (show Blk w0 w.heap.size zcf 26 by rw [hw0]; exact blk_new w _ _)
  have e1 : w0.heap.size = w.heap.size + 1 := by rw [hw0]; simp
  have HB1 := Lib.hid (below_alloc HB0.out (.cells #[.int .u8 88, .int .u8 66, .int .u8 49] 5 (3, 4)))
  have HM := Lib.hid (mark_lit w0)
  have HZ1 := Lib.hid (HZ.out.below (below_alloc (Below.refl _ w0) (.cells #[.int .u8 88, .int .u8 66, .int .u8 49] 5 (3, 4))))
  have hcv := conv_mark w0 #[.int .u8 88, .int .u8 66, .int .u8 49] 3
  rw [e1] at HM hcv
  have HCP := Lib.hid (cutPrefix_no v _ xs mark HP.out _ (HV.out.below HB1.out) HM.out)
  rw [hw0] at HB1 HM HZ1 hcv HCP
  clear hw0 e1 HB0 HZ
  unfold zcf cfc at *
  go_enter Tryd.func28, Tryd.ntmps28
  go_wp2_with fail
  (with_reducible refine HCP.out.mono ?_)
  rintro e w1 ⟨rfl, rfl⟩
  clear HCP hcv HM
  go_wp2_with fail
  (with_reducible refine (new_form 2 (by decide) _ _).mono ?_)
  rintro e w2 ⟨x, hx, rfl, hc, hb⟩
  have HX := Lib.hid hc
  have HB2 := Lib.hid (below_call HB1.out hb)
  have HZ2 := Lib.hid (HZ1.out.below hb)
  have hne : x ≠ w.heap.size := by have := HZ1.out.lt; omega
  obtain ⟨f0, f1, f2, f3, f4, f5, f6, f7, f8, f9, f10⟩ := HZ2.out.frz11
  obtain ⟨c0, c1, c2, c3, c4, c5, c6, c7, c8, c9, c10⟩ := Blk.eleven (T := fun _ => 0) HZ2.out
  clear hx hc hb HB1 HZ1
  go_wp2_with fail
  (try simp only [Exit.inBlock, Exit.then])
  refine bodyPost_ret (v := .tuple #[.agg (cfc (.slice none 0 0) (fun _ => 0)), .iface 71 (.pointer (some ⟨x, 0, none⟩))]) ?_ rfl ⟨_, rfl, .inr ⟨x, by decide, rfl, ?_⟩, bel11 HB2.out (Nat.le_refl _) _ _ _ _ _ _ _ _ _ _ _⟩
  · rw [results_cell_tmp rfl]
    go_simp
    rfl
  · exact (apart11 _ _ _ _ _ _ _ _ _ _ _ _ _).cell HX.out hne

set_option maxHeartbeats 8000000 in
set_option maxRecDepth 10000 in
theorem read_yes (v : Value) (xs ys : List (BitVec 8)) (n : Nat) (code : Int) (T : Nat → Int) (hT : T = rdT ys) (ls : Nat → Ln) (hls : ls = fun i => rdL ys (21 + 14 * i)) (hp : Pre xs) (hy : ys = xs.drop 3) (hn : n = rdN ys) (hcode : code = if Full ys then 0 else 2) (hl : xs.length ≤ 1000) (w : World) (hv : Byts w v xs) :
    Calls Tryd.prog 28 #[v] w fun e w' => ∃ g r, e = .returned (.tuple #[.agg (cfc (.slice (some ⟨g, 0, none⟩) n n) T), r]) ∧ Els RLn 5 w' (.slice (some ⟨g, 0, none⟩) n n) (rdLs ys n) ∧ ErrV w' r code ∧ Below w.heap.size w w' := by
  have HV := Lib.hid hv
  have HP := Lib.hid hp
  have HY := Lib.hid hy
  have HN := Lib.hid hn
  have HT := Lib.hid hT
  have HLS := Lib.hid hls
  have HCODE := Lib.hid hcode
  have HYL := Lib.hid (show ys.length ≤ 1000 by rw [hy, List.length_drop]; omega)
  have hn256 : n < 256 := by rw [hn]; exact rdN_lt ys
  clear hv hp hy hn hcode hl hT hls
  obtain ⟨M, hM, hmk⟩ := run_make_lines n (by omega)
  have HMS := Lib.hid hM
  clear hM
  obtain ⟨w0, hw0⟩ : ∃ w0, w0 = w.alloc (.cells zcf 26) := ⟨_, rfl⟩
  have HB0 := Lib.hid (show Below w.heap.size w w0 by rw [hw0]; exact below_alloc (Below.refl _ w) _)
  have HZ := Lib.hid (show Blk w0 w.heap.size zcf 26 by rw [hw0]; exact blk_new w _ _)
  have e1 : w0.heap.size = w.heap.size + 1 := by rw [hw0]; simp
  have HB1 := Lib.hid (below_alloc HB0.out (.cells #[.int .u8 88, .int .u8 66, .int .u8 49] 5 (3, 4)))
  have HM := Lib.hid (mark_lit w0)
  have HZ1 := Lib.hid (HZ.out.below (below_alloc (Below.refl _ w0) (.cells #[.int .u8 88, .int .u8 66, .int .u8 49] 5 (3, 4))))
  have hcv := conv_mark w0 #[.int .u8 88, .int .u8 66, .int .u8 49] 3
  rw [e1] at HM hcv
  have HCP := Lib.hid (cutPrefix_yes v _ xs mark HP.out _ (HV.out.below HB1.out) HM.out)
  rw [hw0] at HB1 HM HZ1 hcv HCP
  clear hw0 e1 HB0 HZ
  unfold zcf cfc at *
  go_enter Tryd.func28, Tryd.ntmps28
  go_wp2_with fail
  (with_reducible refine HCP.out.mono ?_)
  rintro e w1 ⟨r1, rfl, hb1, rfl⟩
  have HR1 := Lib.hid (show Byts _ r1 ys by rw [HY.out]; exact hb1)
  clear HCP hcv HM hb1
  go_wp2_with fail
  (with_reducible refine (over_any r1 ys _ HR1.out (by have := HYL.out; omega)).mono ?_)
  rintro e w2 ⟨b, rfl, hr, hbs, hb⟩
  have hbw : w.heap.size < b := by have := HZ1.out.lt; omega
  have hb2 := hr.lt
  have HB2 := Lib.hid (below_call HB1.out hb)
  have HZ2 := Lib.hid (HZ1.out.below hb)
  obtain ⟨lo, hr⟩ : ∃ lo, RdAt w2 b lo b ys 0 := ⟨_, by simpa [RdAt] using hr⟩
  have HR2 := Lib.hid hr
  clear hr hbs hb HB1 HZ1 HR1
  go_wp2_with fail
  (with_reducible refine (at_u8 HR2.out).mono ?_)
  rintro e w3 ⟨rfl, hr, ha⟩
  rw [show val 1 (ys.drop 0) = n by rw [HN.out]; rfl]
  have HR3 := Lib.hid hr
  have HB3 := Lib.hid (below_apart HB2.out ha (by omega))
  have HZ3 := Lib.hid (HZ2.out.apart ha (by omega))
  have hb3 := hr.lt
  have hw3 : w.heap.size < w3.heap.size := by omega
  clear hr ha HR2 HB2 HZ2
  obtain ⟨w4, hw4⟩ : ∃ w4, w4 = w3.alloc (.cells M 48) := ⟨_, rfl⟩
  have e4 : w4.heap.size = w3.heap.size + 1 := by rw [hw4]; simp
  have HB4 := Lib.hid (show Below w3.heap.size w3 w4 by rw [hw4]; exact below_alloc (Below.refl _ w3) _)
  have HL4 := Lib.hid (show LnB w4 w3.heap.size n 0 ls from ⟨M, by rw [hw4]; exact blk_new w3 _ _, HMS.out, fun i hi => by omega⟩)
  obtain ⟨w5, hw5⟩ : ∃ w5, w5 = w4.alloc (.cells (cfc (.slice (some ⟨w3.heap.size, 0, none⟩) n n) (fun _ => 0)) 26) := ⟨_, rfl⟩
  have HB5 := Lib.hid (show Below w4.heap.size w4 w5 by rw [hw5]; exact below_alloc (Below.refl _ w4) _)
  have HX5 := Lib.hid (show Blk w5 (w3.heap.size + 1) (cfc (.slice (some ⟨w3.heap.size, 0, none⟩) n n) (fun _ => 0)) 26 by rw [hw5, ← e4]; exact blk_new w4 _ _)
  have HL5 := Lib.hid (HL4.out.below HB5.out)
  have HZ5 := Lib.hid ((HZ3.out.below HB4.out).below HB5.out)
  have HR5 := Lib.hid ((HR3.out.below HB4.out).below HB5.out)
  have HBB5 := Lib.hid (below_call (below_call HB3.out HB4.out) HB5.out)
  rw [hw5, hw4] at HX5 HL5 HZ5 HR5 HBB5
  clear e4 hw4 hw5 HB4 HL4 HB5 HR3 HB3 HZ3
  unfold cfc at HX5 HL5 HZ5 HR5 HBB5
  go_wp2_with fail
  (with_reducible refine (times_any _ _).mono ?_)
  rintro e w6 ⟨rfl, hb⟩
  have HX6 := Lib.hid (HX5.out.below hb)
  have HL6 := Lib.hid (HL5.out.below hb)
  have HZ6 := Lib.hid (HZ5.out.below hb)
  have HR6 := Lib.hid (HR5.out.below hb)
  have HB6 := Lib.hid (below_call HBB5.out hb)
  clear hb HX5 HL5 HZ5 HR5 HBB5 hmk
  go_wp2_with fail
  go_loopw [30] (fun i wr => ∃ j : Nat, j ≤ 10 ∧ i = .int .i64 (j : Int) ∧ Hid (RdAt wr b lo b ys (1 + 2 * j)) ∧ Hid (Below w.heap.size w wr) ∧ Hid (Blk wr w.heap.size zcf 26) ∧ Hid (LnB wr w3.heap.size n 0 ls) ∧
    Hid (Blk wr (w3.heap.size + 1) (cfc (.slice (some ⟨w3.heap.size, 0, none⟩) n n) (upto T j)) 26)) (fun i _ => 10 - (intOf i).toNat)
  case atStart => exact ⟨0, by omega, rfl, HR6, HB6, HZ6, HL6, Lib.hid (by rw [cfc_none]; exact HX6.out)⟩
  case round =>
    obtain ⟨j, hj, rfl, HR, HB, HZ, HL, HX⟩ := hrel
    clear HR6 HB6 HZ6 HL6 HX6
    by_cases hlt : j < 10
    · have hix := ptrs_index (w3.heap.size + 1) j hlt
      have vx := val2_lt (ys.drop (1 + 2 * j))
      have HFJ := Lib.hid (show (val 2 (ys.drop (1 + 2 * j)) : Int) = T j by rw [HT.out]; rfl)
      go_wp2_with fail
      (with_reducible refine (at_u16 HR.out).mono ?_)
      rintro e w7 ⟨rfl, hr, ha⟩
      generalize val 2 (ys.drop (1 + 2 * j)) = x at *
      have HR7 := Lib.hid hr
      have HB7 := Lib.hid (below_apart HB.out ha (by omega))
      have HZ7 := Lib.hid (HZ.out.apart ha (by omega))
      have HL7 := Lib.hid (HL.out.apart ha (by omega))
      have HX7 := Lib.hid (HX.out.apart ha (by omega))
      have hc := HX7.out.cell (j + 1) (cfc_at (.slice (some ⟨w3.heap.size, 0, none⟩) n n) (upto T j) j hlt)
      have hz := HX7.out.frz (j + 1)
      clear hr ha HR HB HZ HL HX
      go_wp2_with fail
      go_roundw
      case rel =>
        exact ⟨j + 1, by omega, by go_num, Lib.hid (HR7.out.far _ _ _ (by omega)), Lib.hid (bel_set HB7.out (by omega) _ _), Lib.hid (HZ7.out.far _ _ _ (by omega)), Lib.hid (HL7.out.far _ _ _ (by omega)), Lib.hid (by rw [← cfc_set _ _ j hlt _ HFJ.out]; exact HX7.out.set_ _ _)⟩
      case measure => simp [intOf]; omega
    · have HJ := Lib.hid (show j = 10 by omega)
      have hR := HR.out
      have hX := HX.out
      rw [HJ.out] at hR hX
      rw [cfc_all] at hX
      have HRr := Lib.hid hR
      have HXr := Lib.hid hX
      have hc0 := hX.cell 0 (u := (.slice (some ⟨w3.heap.size, 0, none⟩) n n)) rfl
      clear hR hX HR HX
      go_wp2_with fail
      clear hc0
      go_loopw [42] (fun i wr => ∃ m : Nat, m ≤ n ∧ i = .int .i64 (m : Int) ∧ Hid (RdAt wr b lo b ys (21 + 14 * m)) ∧ Hid (Below w.heap.size w wr) ∧ Hid (Blk wr w.heap.size zcf 26) ∧ Hid (LnB wr w3.heap.size n m ls) ∧
        Hid (Blk wr (w3.heap.size + 1) (cfc (.slice (some ⟨w3.heap.size, 0, none⟩) n n) T) 26)) (fun i _ => n - (intOf i).toNat)
      case atStart => exact ⟨0, by omega, rfl, HRr, HB, HZ, HL, HXr⟩
      case round =>
        obtain ⟨m, hm, rfl, HR, HBm, HZm, HLm, HXm⟩ := hrel
        clear HRr HB HZ HL HXr
        by_cases hltm : m < n
        · have hltI : (m : Int) < (n : Int) := by omega
          have hR := HR.out
          obtain ⟨l, hl⟩ : ∃ l, l = rdL ys (21 + 14 * m) := ⟨_, rfl⟩
          have HC := Lib.hid (readLine_any (hR.below (bel_drew _)))
          rw [← hl] at HC
          have HLS2 := Lib.hid (show l = ls m by rw [HLS.out, hl])
          have hs0 := HXm.out.cell 0 (u := (.slice (some ⟨w3.heap.size, 0, none⟩) n n)) rfl
          have HS0 := Lib.hid hs0
          clear hR hl hs0 HR
          go_wp2_with fail
          -- GEN
          refine wp_region_held_drew (S := (fun w' => w'.cell? ⟨w3.heap.size + 1, 0, none⟩ = some (.slice (some ⟨w3.heap.size, 0, none⟩) n n))) (by kernel_rfl) HS0.out (fun hHeld => ?_)
          refine wpAnyH_take (i := 0) (oi := ?_) (v := ?_) ?_ (by kernel_rfl) (by kernel_rfl) (by kernel_rfl) ?_ (Or.inl ⟨?_, ?_⟩) hHeld ?_
          rotate_left 2
          · (simp only [List.getElem?_toArray, List.getElem?_cons_zero]; rfl)
          · exact (fun _ _ _ h => h)
          · rfl
          · (intro w hSw; (try dsimp only at hSw); go_simp; try with_reducible rfl)
          (try simp only [Act.put, List.setIfInBounds_toArray, List.set_cons_zero, List.set_cons_succ])
          refine wpAnyH_take (i := 1) (oi := ?_) (v := ?_) ?_ (by kernel_rfl) (by kernel_rfl) (by kernel_rfl) ?_ (Or.inl ⟨?_, ?_⟩) hHeld ?_
          rotate_left 2
          · (simp only [List.getElem?_toArray, List.getElem?_cons_zero, List.getElem?_cons_succ]; rfl)
          · exact (fun _ _ _ h => h)
          · rfl
          · (intro w hSw; (try dsimp only at hSw); go_simp; try with_reducible rfl)
          (try simp only [Act.put, List.setIfInBounds_toArray, List.set_cons_zero, List.set_cons_succ])
          refine wpAnyH_take (i := 2) (oi := ?_) (v := ?_) ?_ (by kernel_rfl) (by kernel_rfl) (by kernel_rfl) ?_ (Or.inl ⟨?_, ?_⟩) hHeld ?_
          rotate_left 2
          · (simp only [List.getElem?_toArray, List.getElem?_cons_zero, List.getElem?_cons_succ]; rfl)
          · exact (fun _ _ _ h => h)
          · rfl
          · (intro w hSw; (try dsimp only at hSw); go_simp; try with_reducible rfl)
          (try simp only [Act.put, List.setIfInBounds_toArray, List.set_cons_zero, List.set_cons_succ])
          refine wpAnyH_take (i := 3) (oi := ?_) (v := ?_) ?_ (by kernel_rfl) (by kernel_rfl) (by kernel_rfl) ?_ (Or.inl ⟨?_, ?_⟩) hHeld ?_
          rotate_left 2
          · (simp only [List.getElem?_toArray, List.getElem?_cons_zero, List.getElem?_cons_succ]; rfl)
          · exact (fun _ _ _ h => h)
          · rfl
          · (intro w hSw; (try dsimp only at hSw); go_simp; try with_reducible rfl)
          (try simp only [Act.put, List.setIfInBounds_toArray, List.set_cons_zero, List.set_cons_succ])
          refine wpAnyH_ready (rs := [4]) (by kernel_rfl) (by simp) ?_
          refine AllReadyH.cons (o := ?_) ?_ (fun K hK => ?_) AllReadyH.nil
          rotate_left
          · (simp only [List.getElem?_toArray, List.getElem?_cons_zero, List.getElem?_cons_succ]; rfl)
          go_simp
          (with_reducible refine (HC.out).mono ?_)
          rintro e w8 ⟨rfl, hr, ha⟩
          have HR8 := Lib.hid hr
          have HB8 := Lib.hid (below_apart (below_call HBm.out (bel_drew _)) ha (by omega))
          have HZ8 := Lib.hid ((HZm.out.below (bel_drew _)).apart ha (by omega))
          have HL8 := Lib.hid ((HLm.out.below (bel_drew _)).apart ha (by omega))
          have HX8 := Lib.hid ((HXm.out.below (bel_drew _)).apart ha (by omega))
          obtain ⟨⟨u0, y0⟩, z0⟩ := HL8.out.spot hltm 0 (by omega)
          obtain ⟨⟨u1, y1⟩, z1⟩ := HL8.out.spot hltm 1 (by omega)
          obtain ⟨⟨u2, y2⟩, z2⟩ := HL8.out.spot hltm 2 (by omega)
          obtain ⟨⟨u3, y3⟩, z3⟩ := HL8.out.spot hltm 3 (by omega)
          obtain ⟨⟨u4, y4⟩, z4⟩ := HL8.out.spot hltm 4 (by omega)
          rw [Nat.add_zero] at y0 z0
          have HS1 := Lib.hid (HX8.out.cell 0 (u := (.slice (some ⟨w3.heap.size, 0, none⟩) n n)) rfl)
          clear hr ha
          go_wp2_with fail
          refine hK.out _ _ HS1.out (fun hHeld => ?_)
          clear hK K
          (try simp only [Act.put, List.setIfInBounds_toArray, List.set_cons_zero, List.set_cons_succ])
          refine wpAnyH_take (i := 5) (oi := ?_) (v := ?_) ?_ (by kernel_rfl) (by kernel_rfl) (by kernel_rfl) ?_ (Or.inl ⟨?_, ?_⟩) hHeld ?_
          rotate_left 2
          · (simp only [List.getElem?_toArray, List.getElem?_cons_zero, List.getElem?_cons_succ]; rfl)
          · exact (fun _ _ _ h => h)
          · rfl
          · (intro w hSw; (try dsimp only at hSw); go_simp; try with_reducible rfl)
          (try simp only [Act.put, List.setIfInBounds_toArray, List.set_cons_zero, List.set_cons_succ])
          refine wpAnyH_ready (rs := [6]) (by kernel_rfl) (by simp) ?_
          refine AllReadyH.cons (o := ?_) ?_ (fun K hK => ?_) AllReadyH.nil
          rotate_left
          · (simp only [List.getElem?_toArray, List.getElem?_cons_zero, List.getElem?_cons_succ]; rfl)
          go_simp
          refine hK.out _ _ (HX8.out.past5 0 (u := (.slice (some ⟨w3.heap.size, 0, none⟩) n n)) rfl w3.heap.size (by omega) (m * 5) _ _ _ _ _) (fun hHeld => ?_)
          clear hK K
          (try simp only [Act.put, List.setIfInBounds_toArray, List.set_cons_zero, List.set_cons_succ])
          refine wpAnyH_done (by kernel_rfl) ?_ _
          go_wp2_with fail
          go_roundw
          case rel =>
            have hf : b < w3.heap.size := hb3
            refine ⟨m + 1, by omega, by go_num, Lib.hid ?_, Lib.hid ?_, Lib.hid ?_, Lib.hid ?_, Lib.hid ?_⟩
            · exact (((((HR8.out.far _ _ _ hf).far _ _ _ hf).far _ _ _ hf).far _ _ _ hf).far _ _ _ hf)
            · exact bel_set (bel_set (bel_set (bel_set (bel_set HB8.out (by omega) _ _) (by omega) _ _) (by omega) _ _) (by omega) _ _) (by omega) _ _
            · exact (((((HZ8.out.far _ _ _ (by omega)).far _ _ _ (by omega)).far _ _ _ (by omega)).far _ _ _ (by omega)).far _ _ _ (by omega))
            · have := HL8.out.store hltm
              rw [← HLS2.out] at this
              exact this
            · exact (((((HX8.out.far _ _ _ (by omega)).far _ _ _ (by omega)).far _ _ _ (by omega)).far _ _ _ (by omega)).far _ _ _ (by omega))
          case measure => simp [intOf]; omega
        · have hltI : ¬ (m : Int) < (n : Int) := by omega
          have HM2 := Lib.hid (show m = n by omega)
          have hR := HR.out
          have HEND := Lib.hid (End_any (hR.below (bel_drew _)) code (HCODE.out.trans (full_if HN.out HM2.out)))
          have hsz := HBm.out.size
          clear hR HR
          go_wp2_with fail
          refine wp_region_held_drew (S := (fun w' => Blk w' (w3.heap.size + 1) (cfc (.slice (some ⟨w3.heap.size, 0, none⟩) n n) T) 26)) (by kernel_rfl) HXm.out (fun hHeld => ?_)
          refine wpAnyH_take (i := 0) (oi := ?_) (v := ?_) ?_ (by kernel_rfl) (by kernel_rfl) (by kernel_rfl) ?_ (Or.inl ⟨?_, ?_⟩) hHeld ?_
          rotate_left 2
          · (simp only [List.getElem?_toArray, List.getElem?_cons_zero]; rfl)
          · exact (fun _ _ _ h => h)
          · rfl
          · (intro w hSw; (try dsimp only at hSw); obtain ⟨c0, c1, c2, c3, c4, c5, c6, c7, c8, c9, c10⟩ := Blk.eleven hSw; go_simp; try with_reducible rfl)
          (try simp only [Act.put, List.setIfInBounds_toArray, List.set_cons_zero, List.set_cons_succ])
          refine wpAnyH_take (i := 1) (oi := ?_) (v := ?_) ?_ (by kernel_rfl) (by kernel_rfl) (by kernel_rfl) ?_ (Or.inl ⟨?_, ?_⟩) hHeld ?_
          rotate_left 2
          · (simp only [List.getElem?_toArray, List.getElem?_cons_zero, List.getElem?_cons_succ]; rfl)
          · exact (fun _ _ _ h => h)
          · rfl
          · (intro w hSw; (try dsimp only at hSw); go_simp; try with_reducible rfl)
          (try simp only [Act.put, List.setIfInBounds_toArray, List.set_cons_zero, List.set_cons_succ])
          refine wpAnyH_ready (rs := [2]) (by kernel_rfl) (by simp) ?_
          refine AllReadyH.cons (o := ?_) ?_ (fun K hK => ?_) AllReadyH.nil
          rotate_left
          · (simp only [List.getElem?_toArray, List.getElem?_cons_zero, List.getElem?_cons_succ]; rfl)
          go_simp
          (with_reducible refine (HEND.out).mono ?_)
          rintro e w8 ⟨r8, rfl, he, hb⟩
          have HE8 := Lib.hid he
          have HB8 := Lib.hid (below_call (below_call HBm.out (bel_drew _)) hb)
          have HZ8 := Lib.hid ((HZm.out.below (bel_drew _)).below hb)
          have HL8 := Lib.hid ((HLm.out.below (bel_drew _)).below hb)
          have HX8 := Lib.hid ((HXm.out.below (bel_drew _)).below hb)
          clear he hb
          go_wp2_with fail
          refine hK.out _ _ HX8.out (fun hHeld => ?_)
          clear hK K
          (try simp only [Act.put, List.setIfInBounds_toArray, List.set_cons_zero, List.set_cons_succ])
          refine wpAnyH_ready (rs := [3]) (by kernel_rfl) (by simp) ?_
          refine AllReadyH.cons (o := ?_) ?_ (fun K hK => ?_) AllReadyH.nil
          rotate_left
          · (simp only [List.getElem?_toArray, List.getElem?_cons_zero, List.getElem?_cons_succ]; rfl)
          go_simp
          (with_reducible refine (wrap_any HE8.out _).mono ?_)
          rintro e w9 ⟨r9, rfl, he, hb⟩
          have HE9 := Lib.hid he
          have HB9 := Lib.hid (below_call HB8.out hb)
          have HZ9 := Lib.hid (HZ8.out.below hb)
          have HL9 := Lib.hid (HL8.out.below hb)
          have HX9 := Lib.hid (HX8.out.below hb)
          obtain ⟨f0, f1, f2, f3, f4, f5, f6, f7, f8, f9, f10⟩ := HZ9.out.frz11
          obtain ⟨c0, c1, c2, c3, c4, c5, c6, c7, c8, c9, c10⟩ := Blk.eleven (v := .slice none 0 0) (T := fun _ => 0) HZ9.out
          clear he hb HE8 HB8 HZ8 HL8 HX8
          go_wp2_with fail
          refine hK.out _ _ HX9.out (fun hHeld => ?_)
          clear hK K
          (try simp only [Act.put, List.setIfInBounds_toArray, List.set_cons_zero, List.set_cons_succ])
          refine wpAnyH_ready (rs := [4]) (by kernel_rfl) (by simp) ?_
          refine AllReadyH.cons (o := ?_) ?_ (fun K hK => ?_) AllReadyH.nil
          rotate_left
          · (simp only [List.getElem?_toArray, List.getElem?_cons_zero, List.getElem?_cons_succ]; rfl)
          go_simp
          refine hK.out _ _ (HX9.out.apart (apart11 _ _ _ _ _ _ _ _ _ _ _ _ _) (by omega)) (fun hHeld => ?_)
          clear hK K
          (try simp only [Act.put, List.setIfInBounds_toArray, List.set_cons_zero, List.set_cons_succ])
          refine wpAnyH_take (i := 5) (oi := ?_) (v := ?_) ?_ (by kernel_rfl) (by kernel_rfl) (by kernel_rfl) ?_ (Or.inl ⟨?_, ?_⟩) hHeld ?_
          rotate_left 2
          · (simp only [List.getElem?_toArray, List.getElem?_cons_zero, List.getElem?_cons_succ]; rfl)
          · exact (fun _ _ _ h => h)
          · rfl
          · (intro w hSw; (try dsimp only at hSw); go_simp; try with_reducible rfl)
          (try simp only [Act.put, List.setIfInBounds_toArray, List.set_cons_zero, List.set_cons_succ])
          refine wpAnyH_done (by kernel_rfl) ?_ _
          go_wp2_with fail
          (try simp only [Exit.inBlock, Exit.then])
          refine bodyPost_ret (v := .tuple #[.agg (cfc (.slice (some ⟨w3.heap.size, 0, none⟩) n n) T), r9]) ?_ rfl ⟨w3.heap.size, r9, rfl, ?_, ?_, bel11 HB9.out (Nat.le_refl _) _ _ _ _ _ _ _ _ _ _ _⟩
          · rw [results_cell_tmp rfl]
            go_simp
            rfl
          · refine LnB.els (ls := ls) ?_ _ (rdLs_length _ _) (fun i hi => ?_)
            · have hl := HL9.out
              rw [HM2.out] at hl
              exact hl.apart (apart11 _ _ _ _ _ _ _ _ _ _ _ _ _) (by omega)
            · rw [HLS.out]
              exact rdLs_at _ _ _ hi
          · exact HE9.out.aside (HZ9.out.cell 1 (u := .int .i64 0) rfl) (apart11 _ _ _ _ _ _ _ _ _ _ _ _ _)
end Go.Proofs.YthjpacdhaeoecaaDoor

/-
  The document's Encode, by contract.
-/
import Derived.Test.YthjpacdhaeoecaaDoorCfRchk
import Derived.Test.YthjpacdhaeoecaaDoorCfEnc
import Derived.Test.YthjpacdhaeoecaaDoorCrcRseal
namespace Go.Proofs.YthjpacdhaeoecaaDoor
open Go.RowKit

theorem rput2 (v : Value) (s : BitVec 16) (xs : List (BitVec 8)) (w : World) (hv : Byts w v xs) (hl : xs.length ≤ 1000000) :
    Calls Tryd.prog 25 #[v, .int .u32 (s.toNat : Int), .int .i64 2] w fun e w' => ∃ r, e = .returned r ∧ Byts w' r (xs ++ lay2 s) ∧ Below w.heap.size w w' := by
  have h := rput_any v s.toNat 2 xs w hv hl (by have := s.isLt; omega) (by decide)
  rw [tops_two] at h
  exact h.mono fun e w' ⟨r, he, ho, hb⟩ => ⟨r, he, ho.byts, hb⟩
theorem rput4 (v : Value) (s : BitVec 32) (xs : List (BitVec 8)) (w : World) (hv : Byts w v xs) (hl : xs.length ≤ 1000000) :
    Calls Tryd.prog 25 #[v, .int .u32 (s.toNat : Int), .int .i64 4] w fun e w' => ∃ r, e = .returned r ∧ Byts w' r (xs ++ lay4 s) ∧ Below w.heap.size w w' := by
  have h := rput_any v s.toNat 4 xs w hv hl (by have := s.isLt; omega) (by decide)
  rw [tops_four] at h
  exact h.mono fun e w' ⟨r, he, ho, hb⟩ => ⟨r, he, ho.byts, hb⟩
theorem headB (w : World) (n : Nat) (h : n < 256) : Byts (w.alloc (.cells #[.int .u8 88, .int .u8 66, .int .u8 49, .int .u8 (n : Int)] 5)) (.slice (some ⟨w.heap.size, 0, none⟩) 4 4) (mark ++ [BitVec.ofNat 8 n]) := by
  refine lit_byts w _ 4 (0, 0) _ ?_ rfl
  simp [cel, mark]
  omega
/-- A line's numbers that fit into their bytes. -/
theorem RLn.speed {w : World} {g o : Nat} {K G : BitVec 32} {A B C : BitVec 16} (h : RLn w g o ⟨(K.toNat : Int), (G.toNat : Int), (A.toNat : Int), (B.toNat : Int), (C.toNat : Int)⟩) (k : Nat) (hk : k < 3) : w.cell? ⟨g, o + 2 + k, none⟩ = some (.int .i64 ((sB A B C k).toNat : Int)) := by
  obtain ⟨_, _, h2, h3, h4⟩ := h
  match k, hk with
  | 0, _ => exact h2
  | 1, _ => exact h3
  | 2, _ => exact h4
  | n + 3, h => omega

theorem renc_no (v : Value) (T : Nat → Int) (ls : List Ln) (hok : ¬ OkC T ls) (w : World) (hv : Els RLn 5 w v ls) (hl : ls.length ≤ 1000) :
    Calls Tryd.prog 11 #[.agg (cfc v T)] w fun e w' => e = .returned (.tuple #[.slice none 0 0, .int .i64 6]) ∧ Below w.heap.size w w' := by
  have HV := Lib.hid hv
  have HC := Lib.hid (rcheck_any v T ls 6 (if_neg hok).symm)
  have HL := Lib.hid hl
  obtain ⟨av, cv, ev⟩ := hv.len
  subst ev
  clear hv hok hl
  have HB := Lib.hid (below_alloc (Below.refl _ w) (.cells (cfc (.slice av ls.length cv) T) 26))
  unfold cfc at HB HC ⊢
  go_enter Tryd.func11, Tryd.ntmps11
  go_wp2_with fail
  (with_reducible refine (HC.out _ (HV.out.below (fun _ _ _ h => h.below HB.out)) HL.out).mono ?_)
  rintro e w1 ⟨rfl, hb⟩
  have HB1 := Lib.hid (below_call HB.out hb)
  clear hb HB HC HV
  go_wp2_with fail
  go_ret2
  exact ⟨rfl, HB1.out⟩

set_option maxHeartbeats 4000000 in
set_option maxRecDepth 10000 in
theorem renc_yes (v : Value) (T : Nat → Int) (ls : List Ln) (hok : OkC T ls) (w : World) (hv : Els RLn 5 w v ls) :
    Calls Tryd.prog 11 #[.agg (cfc v T)] w fun e w' => ∃ r, e = .returned (.tuple #[r, .int .i64 0]) ∧ Byts w' r (sealed (cbytes T ls)) ∧ Below w.heap.size w w' := by
  have HV := Lib.hid hv
  have HC := Lib.hid (rcheck_any v T ls 0 (if_pos hok).symm)
  have HOK := Lib.hid hok
  have HLL := Lib.hid (show ls.length ≤ 1000 by have := hok.1; omega)
  obtain ⟨av, cv, ev⟩ := hv.len
  obtain ⟨n, hn⟩ : ∃ n, n = ls.length := ⟨_, rfl⟩
  have HN := Lib.hid hn
  have hn8 : n ≤ 8 := by have := hok.1; omega
  have HT := Lib.hid (rtimes_any T)
  rw [← hn] at ev
  subst ev
  clear hv hok hn
  have HB := Lib.hid (below_alloc (Below.refl _ w) (.cells (cfc (.slice av n cv) T) 26))
  have HX := Lib.hid (blk_new w (cfc (.slice av n cv) T) 26)
  unfold cfc at HB HC HX ⊢
  unfold ta at HT
  go_enter Tryd.func11, Tryd.ntmps11
  go_wp2_with fail
  (with_reducible refine (HC.out _ (HV.out.below (fun _ _ _ h => h.below HB.out)) HLL.out).mono ?_)
  rintro e w1 ⟨rfl, hb⟩
  have HB1 := Lib.hid (below_call HB.out hb)
  have HX1 := Lib.hid (HX.out.below hb)
  have HO2 := Lib.hid (headB w1 n (by omega))
  have HK := Lib.hid (below_alloc (Below.refl _ w1) (.cells #[.int .u8 88, .int .u8 66, .int .u8 49, .int .u8 (n : Int)] 5))
  have HB2 := Lib.hid (below_call HB1.out HK.out)
  have HX2 := Lib.hid (HX1.out.below HK.out)
  have d0 := HX1.out.cell 0 (u := .slice av n cv) rfl
  obtain ⟨c0, c1, c2, c3, c4, c5, c6, c7, c8, c9, c10⟩ := Blk.eleven (v := .slice av n cv) (T := T) HX2.out
  clear hb HB HX HC HK
  go_wp2_with fail
  (with_reducible refine (HT.out _).mono ?_)
  rintro e w2 ⟨rfl, hb⟩
  have HB3 := Lib.hid (below_call HB2.out hb)
  have HX3 := Lib.hid (HX2.out.below hb)
  have HO3 := Lib.hid (HO2.out.below hb)
  have HQ := Lib.hid (below_alloc (Below.refl _ w2) (.cells (ta T) 60))
  have HA4 := Lib.hid (blk_new w2 (ta T) 60)
  have HB4 := Lib.hid (below_call HB3.out HQ.out)
  have HX4 := Lib.hid (HX3.out.below HQ.out)
  have HO4 := Lib.hid (HO3.out.below HQ.out)
  clear hb HB1 HX1 HB2 HX2 HO2 HB3 HX3 HO3 HQ HT d0 c0 c1 c2 c3 c4 c5 c6 c7 c8 c9 c10
  go_wp2_with fail
  go_loopw [5, 7] (fun o i wr => ∃ j : Nat, j ≤ 10 ∧ i = .int .i64 (j : Int) ∧ Hid (Byts wr o (mark ++ [BitVec.ofNat 8 n] ++ layT T j)) ∧ Hid (Below w.heap.size w wr) ∧ Hid (Blk wr w.heap.size (cfc (.slice av n cv) T) 26) ∧ Hid (Blk wr w2.heap.size (ta T) 60)) (fun _ i _ => 10 - (intOf i).toNat)
  case atStart => exact ⟨0, by omega, rfl, Lib.hid (by simpa [layT] using HO4.out), HB4, HX4, HA4⟩
  case round =>
    obtain ⟨j, hj, rfl, HO, HBr, HXr, HAr⟩ := hrel
    clear HB4 HX4 HO4 HA4
    by_cases hlt : j < 10
    · have hok := HOK.out.2.1 j hlt
      obtain ⟨s, hs⟩ := as16 (n := T j) (by omega) (by omega)
      have hcell := HAr.out.cell j (ta_at T j hlt)
      rw [hs] at hcell
      have HS := Lib.hid hs
      have hsl := s.isLt
      clear hs hok
      go_wp2_with fail
      (with_reducible refine (rput2 _ s _ _ HO.out (by simp [mark, layT_length]; omega)).mono ?_)
      rintro e w4 ⟨r4, rfl, ho, hb⟩
      have HO4 := Lib.hid ho
      have HB4 := Lib.hid (below_call HBr.out hb)
      have HX4 := Lib.hid (HXr.out.below hb)
      have HA4 := Lib.hid (HAr.out.below hb)
      clear ho hb HO HBr HXr HAr hcell
      go_wp2_with fail
      go_roundw
      case rel => exact ⟨j + 1, by omega, by go_num, Lib.hid (by rw [body_next HS.out]; exact HO4.out), HB4, HX4, HA4⟩
      case measure => simp [intOf]; omega
    · have HJ := Lib.hid (show j = 10 by omega)
      go_wp2_with fail
      go_loopw [5, 8] (fun o i wr => ∃ m : Nat, m ≤ n ∧ i = .int .i64 (m : Int) ∧ Hid (Byts wr o (mark ++ [BitVec.ofNat 8 n] ++ layT T 10 ++ layLs (ls.take m))) ∧ Hid (Below w.heap.size w wr) ∧ Hid (Blk wr w.heap.size (cfc (.slice av n cv) T) 26)) (fun _ i _ => n - (intOf i).toNat)
      case atStart => exact ⟨0, by omega, rfl, Lib.hid (by rw [← HJ.out]; simpa [layLs] using HO.out), HBr, HXr⟩
      case round =>
        obtain ⟨m, hm, rfl, HOr, HBs, HXs⟩ := hrel
        clear HBr HXr HO HAr
        have hc0 := HXs.out.cell 0 (u := .slice av n cv) rfl
        by_cases hltm : m < n
        · obtain ⟨l, hl⟩ : ∃ l, ls[m]? = some l := ⟨_, List.getElem?_eq_getElem (by rw [← HN.out]; exact hltm)⟩
          have hltI : (m : Int) < (n : Int) := by omega
          have HL := Lib.hid hl
          obtain ⟨g, o, ea, hr⟩ := HV.out.at_ hl
          have HR := Lib.hid (hr.below HBs.out)
          subst ea
          have hok := HOK.out.2.2 l (List.mem_of_getElem? hl)
          clear hl hr
          obtain ⟨k, g', a, b, c⟩ := l
          obtain ⟨h1, h2, h3, h4, h5, h6, h7, h8, h9⟩ := hok
          dsimp only at h1 h2 h3 h4 h5 h6 h7 h8 h9
          obtain ⟨K, rfl⟩ := as32 (n := k) (by omega) (by omega)
          obtain ⟨G, rfl⟩ := as32 (n := g') (by omega) (by omega)
          obtain ⟨A, rfl⟩ := as16 (n := a) (by omega) (by omega)
          obtain ⟨B, rfl⟩ := as16 (n := b) (by omega) (by omega)
          obtain ⟨C, rfl⟩ := as16 (n := c) (by omega) (by omega)
          clear h1 h2 h3 h4 h5 h6 h7 h8 h9
          have HLY := Lib.hid (show layL ⟨(K.toNat : Int), (G.toNat : Int), (A.toNat : Int), (B.toNat : Int), (C.toNat : Int)⟩ = lay4 K ++ lay4 G ++ ly A B C 3 by
            simp [layL, four_of, two_of, ly, sB])
          have hKl := K.isLt
          have hGl := G.isLt
          have e0 := HR.out.1
          dsimp only at e0
          obtain ⟨P, hP⟩ : ∃ P, P = mark ++ [BitVec.ofNat 8 n] ++ layT T 10 ++ layLs (ls.take m) := ⟨_, rfl⟩
          have HPL := Lib.hid (show P.length ≤ 1000 by rw [hP]; simp [mark, layT_length, layLs_length]; omega)
          rw [← hP] at HOr
          have HP := Lib.hid hP
          clear hP
          go_wp2_with fail
          (with_reducible refine (rput4 _ K _ _ HOr.out (by have := HPL.out; omega)).mono ?_)
          rintro e w6 ⟨r6, rfl, ho, hb⟩
          have HO6 := Lib.hid ho
          have HB6 := Lib.hid (below_call HBs.out hb)
          have HX6 := Lib.hid (HXs.out.below hb)
          have HR6 := Lib.hid (HR.out.below hb)
          clear ho hb HOr HBs HXs HR e0 hc0
          have e1 := HR6.out.2.1
          dsimp only at e1
          have hc0 := HX6.out.cell 0 (u := .slice (some ⟨g, o, none⟩) n cv) rfl
          go_wp2_with fail
          (with_reducible refine (rput4 _ G _ _ HO6.out (by have := HPL.out; simp [lay4]; omega)).mono ?_)
          rintro e w7 ⟨r7, rfl, ho, hb⟩
          have HO7 := Lib.hid ho
          have HB7 := Lib.hid (below_call HB6.out hb)
          have HX7 := Lib.hid (HX6.out.below hb)
          have HR7 := Lib.hid (HR6.out.below hb)
          clear ho hb HO6 HB6 HX6 HR6 e1 hc0
          go_wp2_with fail
          go_loopw [5, 9] (fun o' i wr => ∃ k : Nat, k ≤ 3 ∧ i = .int .i64 (k : Int) ∧ Hid (Byts wr o' (P ++ lay4 K ++ lay4 G ++ ly A B C k)) ∧ Hid (Below w.heap.size w wr) ∧ Hid (Blk wr w.heap.size (cfc (.slice (some ⟨g, o, none⟩) n cv) T) 26) ∧
            Hid (RLn wr g (o + m * 5) ⟨(K.toNat : Int), (G.toNat : Int), (A.toNat : Int), (B.toNat : Int), (C.toNat : Int)⟩)) (fun _ i _ => 3 - (intOf i).toNat)
          case atStart => exact ⟨0, by omega, rfl, Lib.hid (by simpa [ly] using HO7.out), HB7, HX7, HR7⟩
          case round =>
            obtain ⟨k, hk, rfl, HOt, HBt, HXt, HRt⟩ := hrel
            clear HO7 HB7 HX7 HR7
            by_cases hlt3 : k < 3
            · have hcell := HRt.out.speed k hlt3
              have hc0 := HXt.out.cell 0 (u := .slice (some ⟨g, o, none⟩) n cv) rfl
              have HS := Lib.hid (show ly A B C (k + 1) = ly A B C k ++ lay2 (sB A B C k) from rfl)
              have hs := (sB A B C k).isLt
              generalize sB A B C k = s at *
              go_wp2_with fail
              (with_reducible refine (rput2 _ s _ _ HOt.out (by have := HPL.out; simp [lay4, ly_length]; omega)).mono ?_)
              rintro e w8 ⟨r8, rfl, ho, hb⟩
              have HO8 := Lib.hid ho
              have HB8 := Lib.hid (below_call HBt.out hb)
              have HX8 := Lib.hid (HXt.out.below hb)
              have HR8 := Lib.hid (HRt.out.below hb)
              clear ho hb HOt HBt HXt HRt hcell hc0
              go_wp2_with fail
              go_roundw
              case rel => exact ⟨k + 1, by omega, by go_num, Lib.hid (by rw [HS.out, ← List.append_assoc]; exact HO8.out), HB8, HX8, HR8⟩
              case measure => simp [intOf]; omega
            · have HK3 := Lib.hid (show k = 3 by omega)
              go_wp2_with fail
              go_roundw
              case rel =>
                refine ⟨m + 1, by omega, by go_num, Lib.hid ?_, HBt, HXt⟩
                have h := HOt.out
                rw [HK3.out, HP.out] at h
                rw [layLs_next _ _ _ HL.out, HLY.out]
                simpa using h
              case measure => simp [intOf]; omega
        · have hltI : ¬ (m : Int) < (n : Int) := by omega
          have HMN := Lib.hid (show m = ls.length by rw [← HN.out]; omega)
          have HE := Lib.hid (show mark ++ [BitVec.ofNat 8 n] ++ layT T 10 ++ layLs (ls.take m) = cbytes T ls by
            rw [HMN.out, List.take_length, HN.out]; simp [cbytes, body])
          rw [HE.out] at HOr
          go_wp2_with fail
          (with_reducible refine (rseal_any _ _ _ HOr.out (by rw [cbytes_length, ← HN.out]; omega)).mono ?_)
          rintro e w6 ⟨r6, rfl, hown, hb⟩
          have HO6 := Lib.hid hown.byts
          have HB6 := Lib.hid (below_call HBs.out hb)
          clear hown hb HBs HOr
          go_wp2_with fail
          go_ret2
          exact ⟨_, rfl, HO6.out, HB6.out⟩
end Go.Proofs.YthjpacdhaeoecaaDoor

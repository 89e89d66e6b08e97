/-
  config's layLine and Encode by contract.
-/
import Derived.Test.YthjpacdhaeoecaaDoorCfCheck
import Derived.Test.YthjpacdhaeoecaaDoorOcPut
import Derived.Test.YthjpacdhaeoecaaDoorCrcSeal
import Derived.Test.YthjpacdhaeoecaaDoorMark
namespace Go.Proofs.YthjpacdhaeoecaaDoor
open Go.RowKit

theorem four_of (K : BitVec 32) : four (K.toNat : Int) = lay4 K := by unfold four; rw [BitVec.ofInt_natCast, BitVec.ofNat_toNat, BitVec.setWidth_eq]
theorem two_of (K : BitVec 16) : two (K.toNat : Int) = lay2 K := by unfold two; rw [BitVec.ofInt_natCast, BitVec.ofNat_toNat, BitVec.setWidth_eq]
theorem as32 {n : Int} (h0 : 0 ≤ n) (h : n < 4294967296) : ∃ K : BitVec 32, n = (K.toNat : Int) := ⟨BitVec.ofInt 32 n, (ofInt32_val h0 h).symm⟩
theorem as16 {n : Int} (h0 : 0 ≤ n) (h : n < 65536) : ∃ K : BitVec 16, n = (K.toNat : Int) := ⟨BitVec.ofInt 16 n, (ofInt16_val h0 h).symm⟩
def sB (A B C : BitVec 16) (j : Nat) : BitVec 16 := if j = 0 then A else if j = 1 then B else C
def ly (A B C : BitVec 16) : Nat → List (BitVec 8)
  | 0 => []
  | j + 1 => ly A B C j ++ lay2 (sB A B C j)
theorem ly_length (A B C : BitVec 16) (j : Nat) : (ly A B C j).length = 2 * j := by
  induction j with
  | zero => rfl
  | succ j ih => simp [ly, ih, lay2]; omega
theorem sB_index (A B C : BitVec 16) (j : Nat) (h : j < 3) (w : World) : (Instr.index 46 (.agg #[.int .i64 (A.toNat : Int), .int .i64 (B.toNat : Int), .int .i64 (C.toNat : Int)]) (.int .i64 (j : Int))).run Tryd.prog w = .ok (.int .i64 ((sB A B C j).toNat : Int)) w := by
  have := spd_index ⟨0, 0, (A.toNat : Int), (B.toNat : Int), (C.toNat : Int)⟩ j h w
  rw [show spd ⟨0, 0, (A.toNat : Int), (B.toNat : Int), (C.toNat : Int)⟩ j = ((sB A B C j).toNat : Int) by
    unfold spd sB
    split
    · rfl
    · split <;> rfl] at this
  exact this

set_option maxHeartbeats 2000000 in
theorem layLine_bits (v : Value) (xs : List (BitVec 8)) (K G : BitVec 32) (A B C : BitVec 16) (w : World) (hv : Byts w v xs) (hl : xs.length ≤ 900000) :
    Calls Tryd.prog 22 #[v, .agg #[.int .i64 (K.toNat : Int), .int .i64 (G.toNat : Int), .int .i64 (A.toNat : Int), .int .i64 (B.toNat : Int), .int .i64 (C.toNat : Int)]] w
      fun e w' => ∃ r, e = .returned r ∧ Byts w' r (xs ++ lay4 K ++ lay4 G ++ ly A B C 3) ∧ Below w.heap.size w w' := by
  have HV := Lib.hid hv
  have hK := K.isLt
  have hG := G.isLt
  have HL := Lib.hid hl
  clear hv hl
  have HB := Lib.hid (below_alloc (Below.refl _ w) (.cells #[.int .i64 (K.toNat : Int), .int .i64 (G.toNat : Int), .int .i64 (A.toNat : Int), .int .i64 (B.toNat : Int), .int .i64 (C.toNat : Int)] 48))
  have HX := Lib.hid (blk_new w #[.int .i64 (K.toNat : Int), .int .i64 (G.toNat : Int), .int .i64 (A.toNat : Int), .int .i64 (B.toNat : Int), .int .i64 (C.toNat : Int)] 48)
  go_enter Tryd.func22, Tryd.ntmps22
  go_wp2_with fail
  (with_reducible refine (put32_any _ K xs _ (HV.out.below HB.out) (by have := HL.out; omega)).mono ?_)
  rintro e w1 ⟨r1, rfl, hown, hb⟩
  have HO1 := Lib.hid hown.byts
  have HB1 := Lib.hid (below_call HB.out hb)
  have HX1 := Lib.hid (HX.out.below hb)
  clear hown hb HB HX HV
  have hc1 := HX1.out.cell 1 rfl
  go_wp2_with fail
  (with_reducible refine (put32_any _ G _ _ HO1.out (by have := HL.out; simp [lay4]; omega)).mono ?_)
  rintro e w2 ⟨r2, rfl, hown, hb⟩
  have HO2 := Lib.hid hown.byts
  have HB2 := Lib.hid (below_call HB1.out hb)
  have HX2 := Lib.hid (HX1.out.below hb)
  clear hown hb HB1 HX1 HO1 hc1
  have hc2 := HX2.out.cell 2 rfl
  have hc3 := HX2.out.cell 3 rfl
  have hc4 := HX2.out.cell 4 rfl
  go_wp2_with fail
  clear hc2 hc3 hc4
  go_loopw [0, 19] (fun o i wr => ∃ j : Nat, j ≤ 3 ∧ i = .int .i64 (j : Int) ∧ Hid (Byts wr o (xs ++ lay4 K ++ lay4 G ++ ly A B C j)) ∧ Hid (Below w.heap.size w wr)) (fun _ i _ => 3 - (intOf i).toNat)
  case atStart => exact ⟨0, by omega, rfl, Lib.hid (by simpa [ly] using HO2.out), HB2⟩
  case round =>
    obtain ⟨j, hj, rfl, HO, HBr⟩ := hrel
    clear HB2 HO2
    by_cases hlt : j < 3
    · have hix := sB_index A B C j hlt
      have HS := Lib.hid (show ly A B C (j + 1) = ly A B C j ++ lay2 (sB A B C j) from rfl)
      have hs := (sB A B C j).isLt
      generalize sB A B C j = s at *
      go_wp2_with fail
      (with_reducible refine (put16_any _ s _ _ HO.out (by have := HL.out; simp [lay4, ly_length]; omega)).mono ?_)
      rintro e w3 ⟨r3, rfl, hown, hb⟩
      have HO3 := Lib.hid hown.byts
      have HB3 := Lib.hid (below_call HBr.out hb)
      clear hown hb HO HBr
      go_wp2_with fail
      go_roundw
      case rel => exact ⟨j + 1, by omega, by go_num, Lib.hid (by rw [HS.out, ← List.append_assoc]; exact HO3.out), HB3⟩
      case measure => simp [intOf]; omega
    · have HJ := Lib.hid (show j = 3 by omega)
      go_wp2_with fail
      go_ret
      exact ⟨_, rfl, by rw [← HJ.out]; exact HO.out, HBr.out⟩
theorem layLine_any (v : Value) (xs : List (BitVec 8)) (l : Ln) (hok : OkL l) (w : World) (hv : Byts w v xs) (hl : xs.length ≤ 900000) :
    Calls Tryd.prog 22 #[v, .agg #[.int .i64 l.k, .int .i64 l.g, .int .i64 l.a, .int .i64 l.b, .int .i64 l.c]] w
      fun e w' => ∃ r, e = .returned r ∧ Byts w' r (xs ++ layL l) ∧ Below w.heap.size w w' := by
  obtain ⟨k, g, a, b, c⟩ := l
  obtain ⟨h1, h2, h3, h4, h5, h6, h7, h8, h9⟩ := hok
  dsimp only at h1 h2 h3 h4 h5 h6 h7 h8 h9 ⊢
  obtain ⟨K, rfl⟩ := as32 (n := k) (by omega) (by omega)
  obtain ⟨G, rfl⟩ := as32 (n := g) (by omega) (by omega)
  obtain ⟨A, rfl⟩ := as16 (n := a) (by omega) (by omega)
  obtain ⟨B, rfl⟩ := as16 (n := b) (by omega) (by omega)
  obtain ⟨C, rfl⟩ := as16 (n := c) (by omega) (by omega)
  have e : layL ⟨(K.toNat : Int), (G.toNat : Int), (A.toNat : Int), (B.toNat : Int), (C.toNat : Int)⟩ = lay4 K ++ lay4 G ++ ly A B C 3 := by
    simp [layL, four_of, two_of, ly, sB]
  rw [e, ← List.append_assoc, ← List.append_assoc]
  exact layLine_bits v xs K G A B C w hv hl

theorem body_next {T : Nat → Int} {j : Nat} {s : BitVec 16} (h : T j = (s.toNat : Int)) (xs : List (BitVec 8)) : xs ++ layT T (j + 1) = (xs ++ layT T j) ++ lay2 s := by
  rw [show layT T (j + 1) = layT T j ++ two (T j) from rfl, h, two_of, List.append_assoc]
theorem one_u8 (w : World) (n : Nat) (h : n < 256) : Byts (w.alloc (.cells #[.int .u8 (n : Int)] 5)) (.slice (some ⟨w.heap.size, 0, none⟩) 1 1) [BitVec.ofNat 8 n] := by
  refine lit_byts w _ 1 (0, 0) _ ?_ rfl
  simp [cel]
  omega
theorem ErrV.cases0 {w : World} {v : Value} (h : ErrV w v 6) : ∃ g, v = .iface 71 (.pointer (some ⟨g, 0, none⟩)) ∧ w.cell? ⟨g, 1, none⟩ = some (.int .i64 6) := h.not (by decide)

theorem enc_no (v : Value) (T : Nat → Int) (ls : List Ln) (hok : ¬ OkC T ls) (w : World) (hv : Els RLn 5 w v ls) :
    Calls Tryd.prog 10 #[.agg (cfc v T)] w fun e w' => ∃ r, e = .returned (.tuple #[.slice none 0 0, r]) ∧ ErrV w' r 6 ∧ Below w.heap.size w w' := by
  have HV := Lib.hid hv
  have HC := Lib.hid (check_any v T ls 6 (if_neg hok).symm)
  obtain ⟨av, cv, ev⟩ := hv.len
  subst ev
  clear hv hok
  have HB := Lib.hid (below_alloc (Below.refl _ w) (.cells (cfc (.slice av ls.length cv) T) 26))
  unfold cfc at HB HC ⊢
  go_enter Tryd.func10, Tryd.ntmps10
  go_wp2_with fail
  (with_reducible refine (HC.out _ (HV.out.below (fun _ _ _ h => h.below HB.out))).mono ?_)
  rintro e w1 ⟨r, rfl, he, hb⟩
  obtain ⟨g, rfl, hg⟩ := he.cases0
  have HB1 := Lib.hid (below_call HB.out hb)
  have HG := Lib.hid hg
  clear he hb hg HB HC HV
  go_wp2_with fail
  go_ret2
  exact ⟨_, rfl, .inr ⟨g, by decide, rfl, HG.out⟩, HB1.out⟩

set_option maxHeartbeats 4000000 in
set_option maxRecDepth 10000 in
theorem enc_yes (v : Value) (T : Nat → Int) (ls : List Ln) (hok : OkC T ls) (w : World) (hv : Els RLn 5 w v ls) :
    Calls Tryd.prog 10 #[.agg (cfc v T)] w fun e w' => ∃ r, e = .returned (.tuple #[r, .nilIface]) ∧ Own w' w.heap.size r (sealed (cbytes T ls)) ∧ Below w.heap.size w w' := by
  have HV := Lib.hid hv
  have HC := Lib.hid (check_any v T ls 0 (if_pos hok).symm)
  have HOK := Lib.hid hok
  obtain ⟨av, cv, ev⟩ := hv.len
  obtain ⟨n, hn⟩ : ∃ n, n = ls.length := ⟨_, rfl⟩
  have HN := Lib.hid hn
  have hn8 : n ≤ 8 := by have := hok.1; omega
  rw [← hn] at ev
  subst ev
  clear hv hok hn
  have HB := Lib.hid (below_alloc (Below.refl _ w) (.cells (cfc (.slice av n cv) T) 26))
  have HX := Lib.hid (blk_new w (cfc (.slice av n cv) T) 26)
  unfold cfc at HB HC HX ⊢
  go_enter Tryd.func10, Tryd.ntmps10
  go_wp2_with fail
  (with_reducible refine (HC.out _ (HV.out.below (fun _ _ _ h => h.below HB.out))).mono ?_)
  rintro e w1 ⟨r, rfl, he, hb⟩
  obtain rfl := he.nil
  have HB1 := Lib.hid (below_call HB.out hb)
  have HX1 := Lib.hid (HX.out.below hb)
  have hc0 := HX1.out.cell 0 (u := .slice av n cv) rfl
  have hcv := conv_mark w1 #[.int .u8 88, .int .u8 66, .int .u8 49] 3
  have hc1 := below_cell (below_alloc (Below.refl _ w1) (.cells #[.int .u8 88, .int .u8 66, .int .u8 49] 5 (3, 4))) hc0
  have HM := Lib.hid ((lit_byts w1 #[.int .u8 88, .int .u8 66, .int .u8 49] 3 (3, 4) mark rfl rfl).below (below_alloc (Below.refl _ _) (.cells #[.int .u8 (n : Int)] 5)))
  have HU := Lib.hid (one_u8 (w1.alloc (.cells #[.int .u8 88, .int .u8 66, .int .u8 49] 5 (3, 4))) n (by omega))
  have HBM := Lib.hid (below_alloc (below_alloc (Below.refl _ w1) (.cells #[.int .u8 88, .int .u8 66, .int .u8 49] 5 (3, 4))) (.cells #[.int .u8 (n : Int)] 5))
  clear he hb HB HX HC hc0
  go_wp2_with (at_builtin; refine wpList_appG rfl _ _ rfl ⟨w1.heap.size, 0, none⟩ 3 mark rfl rfl HM.out ⟨w1.heap.size + 1, 0, none⟩ 1 1 [BitVec.ofNat 8 n] rfl rfl (by simpa using HU.out) (by decide) ?_; intro v2 w2 hown2 hg2; have HO2 := Lib.hid hown2.byts; have hb2 := below_call HBM.out hg2; have HB2 := Lib.hid (below_call HB1.out hb2); have HX2 := Lib.hid (HX1.out.below hb2); clear hb2 hown2 hg2 HM HU HBM hc1 HB1 HX1 hcv)
  (with_reducible refine (times_any _ _).mono ?_)
  rintro e w3 ⟨rfl, hb⟩
  have HB3 := Lib.hid (below_call HB2.out hb)
  have HX3 := Lib.hid (HX2.out.below hb)
  have HO3 := Lib.hid (HO2.out.below hb)
  clear hb HB2 HX2 HO2
  go_wp2_with fail
  go_loopw [5, 25] (fun o i wr => ∃ j : Nat, j ≤ 10 ∧ i = .int .i64 (j : Int) ∧ Hid (Byts wr o (mark ++ [BitVec.ofNat 8 n] ++ layT T j)) ∧ Hid (Below w.heap.size w wr) ∧ Hid (Blk wr w.heap.size (cfc (.slice av n cv) T) 26)) (fun _ i _ => 10 - (intOf i).toNat)
  case atStart => exact ⟨0, by omega, rfl, Lib.hid (by simpa [layT] using HO3.out), HB3, HX3⟩
  case round =>
    obtain ⟨j, hj, rfl, HO, HBr, HXr⟩ := hrel
    clear HB3 HX3 HO3
    by_cases hlt : j < 10
    · have hix := ptrs_index w.heap.size j hlt
      have hok := HOK.out.2.1 j hlt
      obtain ⟨s, hs⟩ := as16 (n := T j) (by omega) (by omega)
      have hcell := HXr.out.cell (j + 1) (cfc_at (.slice av n cv) T j hlt)
      rw [hs] at hcell
      have HS := Lib.hid hs
      have hsl := s.isLt
      clear hs hok
      go_wp2_with fail
      (with_reducible refine (put16_any _ s _ _ HO.out (by simp [mark, layT_length]; omega)).mono ?_)
      rintro e w4 ⟨r4, rfl, hown, hb⟩
      have HO4 := Lib.hid hown.byts
      have HB4 := Lib.hid (below_call HBr.out hb)
      have HX4 := Lib.hid (HXr.out.below hb)
      clear hown hb HO HBr HXr hcell
      go_wp2_with fail
      go_roundw
      case rel => exact ⟨j + 1, by omega, by go_num, Lib.hid (by rw [body_next HS.out]; exact HO4.out), HB4, HX4⟩
      case measure => simp [intOf]; omega
    · have HJ := Lib.hid (show j = 10 by omega)
      have hc0 := HXr.out.cell 0 (u := .slice av n cv) rfl
      go_wp2_with fail
      clear hc0
      go_loopw [5, 38] (fun o i wr => ∃ m : Nat, m ≤ n ∧ i = .int .i64 (m : Int) ∧ Hid (Byts wr o (mark ++ [BitVec.ofNat 8 n] ++ layT T 10 ++ layLs (ls.take m))) ∧ Hid (Below w.heap.size w wr)) (fun _ i _ => n - (intOf i).toNat)
      case atStart => exact ⟨0, by omega, rfl, Lib.hid (by rw [← HJ.out]; simpa [layLs] using HO.out), HBr⟩
      case round =>
        obtain ⟨m, hm, rfl, HOr, HBs⟩ := hrel
        clear HBr HXr HO
        by_cases hltm : m < n
        · obtain ⟨l, hl⟩ : ∃ l, ls[m]? = some l := ⟨_, List.getElem?_eq_getElem (by rw [← HN.out]; exact hltm)⟩
          have HL := Lib.hid hl
          obtain ⟨g, o, ea, hr⟩ := HV.out.at_ hl
          obtain ⟨e0, e1, e2, e3, e4⟩ := hr.below HBs.out
          subst ea
          have HOKL := Lib.hid (HOK.out.2.2 l (List.mem_of_getElem? hl))
          clear hl hr
          have HB5 := Lib.hid (below_alloc HBs.out (.cells #[.int .i64 l.k, .int .i64 l.g, .int .i64 l.a, .int .i64 l.b, .int .i64 l.c] 48))
          have HO5 := Lib.hid (HOr.out.below (below_alloc (Below.refl _ _) (.cells #[.int .i64 l.k, .int .i64 l.g, .int .i64 l.a, .int .i64 l.b, .int .i64 l.c] 48)))
          have HLL := Lib.hid (fun v xs w => layLine_any v xs l HOKL.out w)
          obtain ⟨lk, lg, la, lb, lc⟩ := l
          dsimp only at e0 e1 e2 e3 e4 HB5 HO5 HLL
          go_wp2_with fail
          (with_reducible refine (HLL.out _ _ _ HO5.out (by simp [mark, layT_length, layLs_length]; omega)).mono ?_)
          rintro e w6 ⟨r6, rfl, ho, hb⟩
          have HO6 := Lib.hid ho
          have HB6 := Lib.hid (below_call HB5.out hb)
          clear ho hb HB5 HO5 HLL HOr HBs e0 e1 e2 e3 e4
          go_wp2_with fail
          go_roundw
          case rel => exact ⟨m + 1, by omega, by go_num, Lib.hid (by rw [layLs_next _ _ _ HL.out, ← List.append_assoc]; exact HO6.out), HB6⟩
          case measure => simp [intOf]; omega
        · have HMN := Lib.hid (show m = ls.length by rw [← HN.out]; omega)
          have HE := Lib.hid (show mark ++ [BitVec.ofNat 8 n] ++ layT T 10 ++ layLs (ls.take m) = cbytes T ls by
            rw [HMN.out, List.take_length, HN.out]; simp [cbytes, body])
          rw [HE.out] at HOr
          go_wp2_with fail
          (with_reducible refine (seal_any _ _ _ HOr.out (by rw [cbytes_length, ← HN.out]; omega)).mono ?_)
          rintro e w6 ⟨r6, rfl, hown, hb⟩
          have HO6 := Lib.hid (hown.mono HBs.out.size)
          have HB6 := Lib.hid (below_call HBs.out hb)
          clear hown hb HBs HOr
          go_wp2_with fail
          go_ret2
          exact ⟨_, rfl, HO6.out, HB6.out⟩
end Go.Proofs.YthjpacdhaeoecaaDoor

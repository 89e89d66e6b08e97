/-
  The walk of crossbucklaw06.FrameBursts: true, whatever it is given.
-/
import Derived.Test.YtdgehinmkbhjlaaDoorAny
import Derived.Test.YtdgehinmkbhjlaaDoorFlips
namespace Go.Proofs.YtdgehinmkbhjlaaDoor
open Go.RowKit

set_option maxHeartbeats 4000000 in
set_option maxRecDepth 10000 in
theorem bursts_long (c q p : Int) (u : Value) (xs : List (BitVec 8)) (m : BitVec 16) (w : World) (hu : Byts w u xs) (hl : 300 < xs.length ∨ m = 0#16) :
    Calls Tryd.prog 5 #[.agg #[.int .i64 c, .int .i64 q, u], .int .i64 p, .int .u16 (m.toNat : Int)] w fun e w' => e = .returned (.bool true) ∧ Below w.heap.size w w' := by
  have HLL := Lib.hid hl
  obtain ⟨au, cu, rfl⟩ := hu.len
  have hmlt := m.isLt
  clear hu hl
  have HB := Lib.hid (below_alloc (Below.refl _ w) (.cells #[.int .i64 c, .int .i64 q, .slice au xs.length cu] 24))
  have HX := Lib.hid (box_new w c q (.slice au xs.length cu))
  go_enter Tryd.func5, Tryd.ntmps5
  go_wp2_with fail
  (with_reducible refine (small_true _).mono ?_)
  rintro e w1 ⟨rfl, hb⟩
  obtain ⟨e0, e1, e2⟩ := (HX.out.below hb).cells
  have HB1 := Lib.hid (below_call HB.out hb)
  clear hb HX HB
  by_cases h1 : 300 < xs.length
  · have q0 : decide ((300 : Int) < (xs.length : Int)) = true := decide_eq_true (by omega)
    clear h1
    go_wp2_with fail
    go_ret
    exact ⟨rfl, HB1.out⟩
  · have q0 : decide ((300 : Int) < (xs.length : Int)) = false := decide_eq_false (by omega)
    have h2 : m = 0#16 := by have := HLL.out; rcases this with h | h; exact absurd h h1; exact h
    have q1 : ((m.toNat : Int) == 0) = true := by rw [h2]; rfl
    clear h1 h2
    go_wp2_with fail
    go_ret
    exact ⟨rfl, HB1.out⟩

set_option maxHeartbeats 4000000 in
set_option maxRecDepth 10000 in
theorem bursts_nf (c q p : Int) (u : Value) (xs : List (BitVec 8)) (m : BitVec 16) (w : World) (hu : Byts w u xs) (hxl : xs.length ≤ 300) (hm : m ≠ 0#16) (hf : ¬ Fit c q xs.length) :
    Calls Tryd.prog 5 #[.agg #[.int .i64 c, .int .i64 q, u], .int .i64 p, .int .u16 (m.toNat : Int)] w fun e w' => e = .returned (.bool true) ∧ Below w.heap.size w w' := by
  have q0 : decide ((300 : Int) < (xs.length : Int)) = false := decide_eq_false (by omega)
  have q1 := nzero16 hm
  have HF := Lib.hid hf
  have HU := Lib.hid hu
  obtain ⟨au, cu, rfl⟩ := hu.len
  have hmlt := m.isLt
  clear hu hxl hm hf
  have HB := Lib.hid (below_alloc (Below.refl _ w) (.cells #[.int .i64 c, .int .i64 q, .slice au xs.length cu] 24))
  have HX := Lib.hid (box_new w c q (.slice au xs.length cu))
  go_enter Tryd.func5, Tryd.ntmps5
  go_wp2_with fail
  (with_reducible refine (small_true _).mono ?_)
  rintro e w1 ⟨rfl, hb⟩
  obtain ⟨e0, e1, e2⟩ := (HX.out.below hb).cells
  have HB1 := Lib.hid (below_call HB.out hb)
  have HU1 := Lib.hid (HU.out.below HB1.out)
  clear hb HX HB
  go_wp2_with fail
  (with_reducible refine (enc_no _ _ _ _ _ HU1.out HF.out).mono ?_)
  rintro e w2 ⟨g, _, rfl, _, hb⟩
  have HB2 := Lib.hid (below_call HB1.out hb)
  clear hb e0 e1 e2 HU1 HB1
  go_wp2_with fail
  go_ret
  exact ⟨rfl, HB2.out⟩

set_option maxHeartbeats 4000000 in
set_option maxRecDepth 10000 in
theorem bursts_out (x y : BitVec 8) (p : Int) (u : Value) (xs : List (BitVec 8)) (m : BitVec 16) (w : World) (hu : Byts w u xs) (hx : x.toNat ≤ 15) (hxl : xs.length ≤ 16) (hm : m ≠ 0#16) (hp : p < 0 ∨ 8 * ((xs.length : Int) + 5) - 16 < p) :
    Calls Tryd.prog 5 #[.agg #[.int .i64 (x.toNat : Int), .int .i64 (y.toNat : Int), u], .int .i64 p, .int .u16 (m.toNat : Int)] w fun e w' => e = .returned (.bool true) ∧ Below w.heap.size w w' := by
  have q0 : decide ((300 : Int) < (xs.length : Int)) = false := decide_eq_false (by omega)
  have q1 := nzero16 hm
  have HF1 := Lib.hid hx
  have HF2 := Lib.hid hxl
  obtain ⟨n, hn⟩ : ∃ n, n = xs.length + 5 := ⟨_, rfl⟩
  have HN := Lib.hid ((length_sealed x y xs).trans hn.symm)
  have q2 : decide ((n : Int) < 2) = false := decide_eq_false (by omega)
  have hn40 : (n : Int) ≤ 40 := by omega
  have HP := Lib.hid (show p < 0 ∨ 8 * (n : Int) - 16 < p by omega)
  have HU := Lib.hid hu
  obtain ⟨au, cu, rfl⟩ := hu.len
  have hmlt := m.isLt
  clear hu hxl hx hm hp hn
  have HB := Lib.hid (below_alloc (Below.refl _ w) (.cells #[.int .i64 (x.toNat : Int), .int .i64 (y.toNat : Int), .slice au xs.length cu] 24))
  have HX := Lib.hid (box_new w (x.toNat : Int) (y.toNat : Int) (.slice au xs.length cu))
  go_enter Tryd.func5, Tryd.ntmps5
  go_wp2_with fail
  (with_reducible refine (small_true _).mono ?_)
  rintro e w1 ⟨rfl, hb⟩
  obtain ⟨e0, e1, e2⟩ := (HX.out.below hb).cells
  have HB1 := Lib.hid (below_call HB.out hb)
  have HU1 := Lib.hid (HU.out.below HB1.out)
  clear hb HX HB
  go_wp2_with fail
  (with_reducible refine (enc_yes _ _ _ _ _ HU1.out HF1.out HF2.out).mono ?_)
  rintro e w2 ⟨r, rfl, hown, hb⟩
  obtain ⟨ar, cr, rfl⟩ := hown.byts.len
  rw [HN.out]
  have HB2 := Lib.hid (below_call HB1.out hb)
  clear hb hown e0 e1 e2 HU1 HB1
  by_cases h : p < 0
  · have q3 : decide (p < 0) = true := decide_eq_true h
    clear h
    go_wp2_with fail
    go_ret
    exact ⟨rfl, HB2.out⟩
  · have q3 : decide (p < 0) = false := decide_eq_false h
    have q4 : decide (8 * (n : Int) - 16 < p) = true := decide_eq_true (by have := HP.out; omega)
    clear h
    go_wp2_with fail
    go_ret
    exact ⟨rfl, HB2.out⟩

set_option maxHeartbeats 4000000 in
set_option maxRecDepth 100000 in
theorem bursts_main (x y : BitVec 8) (p : Nat) (u : Value) (xs : List (BitVec 8)) (m : BitVec 16) (w : World) (hu : Byts w u xs) (hx : x.toNat ≤ 15) (hxl : xs.length ≤ 16) (hm : m ≠ 0#16) (hp : p + 16 ≤ 8 * (xs.length + 5)) :
    Calls Tryd.prog 5 #[.agg #[.int .i64 (x.toNat : Int), .int .i64 (y.toNat : Int), u], .int .i64 (p : Int), .int .u16 (m.toNat : Int)] w fun e w' => e = .returned (.bool true) ∧ Below w.heap.size w w' := by
  have q0 : decide ((300 : Int) < (xs.length : Int)) = false := decide_eq_false (by omega)
  have q1 := nzero16 hm
  have HF1 := Lib.hid hx
  have HF2 := Lib.hid hxl
  obtain ⟨n, hn⟩ : ∃ n, n = xs.length + 5 := ⟨_, rfl⟩
  have HN := Lib.hid ((length_sealed x y xs).trans hn.symm)
  have q2 : decide ((n : Int) < 2) = false := decide_eq_false (by omega)
  have hn40 : n ≤ 40 := by omega
  have hpn : p + 16 ≤ 8 * n := by omega
  have q3 : decide ((p : Int) < 0) = false := decide_eq_false (by omega)
  have q4 : decide (8 * (n : Int) - 16 < (p : Int)) = false := decide_eq_false (by omega)
  have HNO := Lib.hid (flips_no (frm x y xs) p m (xs.length + 3) (by simp [frm]) (by omega) hm).1
  have HU := Lib.hid hu
  obtain ⟨au, cu, rfl⟩ := hu.len
  have hmlt := m.isLt
  clear hu hxl hx hm hp hn
  have HB := Lib.hid (below_alloc (Below.refl _ w) (.cells #[.int .i64 (x.toNat : Int), .int .i64 (y.toNat : Int), .slice au xs.length cu] 24))
  have HX := Lib.hid (box_new w (x.toNat : Int) (y.toNat : Int) (.slice au xs.length cu))
  go_enter Tryd.func5, Tryd.ntmps5
  go_wp2_with fail
  (with_reducible refine (small_true _).mono ?_)
  rintro e w1 ⟨rfl, hb⟩
  obtain ⟨e0, e1, e2⟩ := (HX.out.below hb).cells
  have HB1 := Lib.hid (below_call HB.out hb)
  have HU1 := Lib.hid (HU.out.below HB1.out)
  clear hb HX HB HU
  go_wp2_with fail
  (with_reducible refine (enc_yes _ _ _ _ _ HU1.out HF1.out HF2.out).mono ?_)
  rintro e w2 ⟨r, rfl, hown, hb⟩
  obtain ⟨g, cap, rfl, hcap, hBg⟩ := hown.form (by rw [HN.out]; omega)
  have HO := Lib.hid hown
  rw [HN.out] at HO hcap ⊢
  have HG := Lib.hid (Nat.le_trans HB1.out.size hBg)
  have HB2 := Lib.hid (below_call HB1.out hb)
  clear hb hown hBg e0 e1 e2 HU1 HB1
  generalize sealed (frm x y xs) = X at *
  generalize w1.heap.size = lo at *
  go_wp2_with fail
  clear q2 q3 q4
  go_loopw [10] (fun i wr => ∃ j : Nat, j ≤ 16 ∧ i = .int .i64 j ∧ Own wr lo (.slice (some ⟨g, 0, none⟩) n cap) (flips X p m.toNat j) ∧ Below w.heap.size w wr) (fun i _ => 16 - (intOf i).toNat)
  case atStart => exact ⟨0, by omega, rfl, HO.out, HB2.out⟩
  case round =>
    obtain ⟨j, hj, rfl, hr, hb⟩ := hrel
    have HRW := Lib.hid hr
    have HBW := Lib.hid hb
    have HL2 := Lib.hid (show (flips X p m.toNat j).length = n by rw [length_flips, HN.out])
    clear hr hb
    by_cases hlt : j < 16
    · cases hbit : m.toNat.testBit j with
      | false =>
        have HFF := Lib.hid (show flips X p m.toNat (j + 1) = flips X p m.toNat j by simp [flips, hbit])
        have hne := bit_no hbit
        clear hbit
        go_wp2
        go_roundw
        case rel => exact ⟨j + 1, by omega, by go_num, by rw [HFF.out]; exact HRW.out, HBW.out⟩
        case measure => simp [intOf]; omega
      | true =>
        obtain ⟨z, hz⟩ : ∃ z, (flips X p m.toNat j)[(p + j) / 8]? = some z := ⟨_, List.getElem?_eq_getElem (by rw [HL2.out]; omega)⟩
        have HFF := Lib.hid (show flips X p m.toNat (j + 1) = (flips X p m.toNat j).set ((p + j) / 8) (z ^^^ (128#8 >>> ((p + j) % 8))) by rw [← flip1_set hz]; simp [flips, hbit])
        have hyes := bit_yes hbit
        have hlen : (p : Int) + (j : Int) < 8 * (n : Int) := by omega
        have hdiv : ((p : Int) + (j : Int)) / 8 < (n : Int) := by omega
        have h1 := HRW.out.cell HL2.out.symm _ z hz
        have h2 := HRW.out.frozen HL2.out.symm ((p + j) / 8)
        have hxl := z.isLt
        have hxx := turn8 z (p + j)
        clear hz hbit
        generalize z ^^^ (128#8 >>> ((p + j) % 8)) = t at *
        have HR2 := Lib.hid (HRW.out.set_ HL2.out.symm ((p + j) / 8) t)
        have HB3 := Lib.hid (HBW.out.setCell (p := ⟨g, (p + j) / 8, none⟩) HG.out (.int .u8 (t.toNat : Int)))
        go_wp2
        go_roundw
        case rel => exact ⟨j + 1, by omega, by go_num, by rw [HFF.out]; exact HR2.out, HB3.out⟩
        case measure => simp [intOf]; omega
    · obtain rfl : j = 16 := by omega
      have HZ := Lib.hid HRW.out.byts
      have HZL := Lib.hid (show (flips X p m.toNat 16).length ≤ 1000000 by rw [HL2.out]; omega)
      clear HRW HO HB2
      go_wp2_with fail
      (with_reducible refine (dec_sum _ _ _ HZ.out HZL.out HNO.out).mono ?_)
      rintro e w5 ⟨g5, hg, rfl, hc, hb⟩
      have hal := below_alloc (Below.refl _ w5) (.cells #[.int .i64 0, .int .i64 0, .slice none 0 0] 24)
      have HY5 := Lib.hid (box_new w5 0 0 (.slice none 0 0))
      have HB5 := Lib.hid (below_call (below_call HBW.out hb) hal)
      have HC5 := Lib.hid (below_cell hal hc)
      obtain ⟨f0, f1, f2⟩ := HY5.out.cells
      clear hb hal hg hc HBW HZ
      go_wp2_with fail
      (with_reducible refine (code_place _ _ _ HC5.out).mono ?_)
      rintro e w6 ⟨rfl, rfl⟩
      go_wp2_with fail
      (with_reducible refine (same_any 0 0 0 0 _ _ [] [] _ (byts_nil _) (byts_nil _) true (by simp)).mono ?_)
      rintro e w6 ⟨rfl, hb⟩
      have HB6 := Lib.hid (below_call HB5.out hb)
      clear hb f0 f1 f2
      go_wp2_with fail
      go_ret
      exact ⟨by simp, HB6.out⟩
theorem bursts_any (c q p : Int) (u : Value) (xs : List (BitVec 8)) (m : BitVec 16) (w : World) (hu : Byts w u xs) :
    Calls Tryd.prog 5 #[.agg #[.int .i64 c, .int .i64 q, u], .int .i64 p, .int .u16 (m.toNat : Int)] w fun e w' => e = .returned (.bool true) ∧ Below w.heap.size w w' := by
  by_cases hl : 300 < xs.length ∨ m = 0#16
  · exact bursts_long c q p u xs m w hu hl
  · have hm : m ≠ 0#16 := fun h => hl (.inr h)
    have hx3 : xs.length ≤ 300 := by
      rcases Nat.lt_or_ge 300 xs.length with h | h
      · exact absurd (.inl h) hl
      · exact h
    by_cases h : Fit c q xs.length
    · obtain ⟨x, y, rfl, rfl, hx⟩ := fit_bytes h
      by_cases hp : p < 0 ∨ 8 * ((xs.length : Int) + 5) - 16 < p
      · exact bursts_out x y p u xs m w hu hx h.2.2.2.2 hm hp
      · obtain ⟨k, rfl⟩ : ∃ k : Nat, p = (k : Int) := ⟨p.toNat, by omega⟩
        exact bursts_main x y k u xs m w hu hx h.2.2.2.2 hm (by omega)
    · exact bursts_nf c q p u xs m w hu hx3 hm h
end Go.Proofs.YtdgehinmkbhjlaaDoor

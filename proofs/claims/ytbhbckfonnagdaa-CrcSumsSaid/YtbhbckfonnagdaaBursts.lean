/-
  The walk of crossbucklaw02.CrcBursts: true, whatever it is given.
-/
import Derived.Test.YtbhbckfonnagdaaLinear
import Derived.Test.YtbhbckfonnagdaaZero
import Derived.Laws.ShiftsVarLaws
namespace Go.Proofs.Ytbhbckfonnagdaa
open Go.RowKit

theorem Own.form {w : World} {B : Nat} {v : Value} {xs : List (BitVec 8)} (h : Own w B v xs) (h0 : 0 < xs.length) : ∃ g cap, v = .slice (some ⟨g, 0, none⟩) xs.length cap ∧ xs.length ≤ cap ∧ B ≤ g := by
  rcases h.2 with ⟨_, hn⟩ | ⟨g, cap, cur, hv, hB, hg, hcap, _⟩
  · omega
  · exact ⟨g, cap, hv, hcap, hB⟩
theorem Own.cell {w : World} {B g n cap : Nat} {xs : List (BitVec 8)} (h : Own w B (.slice (some ⟨g, 0, none⟩) n cap) xs) (hn : n = xs.length) (k : Nat) (x : BitVec 8) (hx : xs[k]? = some x) : w.cell? ⟨g, k, none⟩ = some (.int .u8 (x.toNat : Int)) := by
  subst hn
  have hk : k < xs.length := by
    rcases Nat.lt_or_ge k xs.length with h1 | h1
    · exact h1
    · rw [List.getElem?_eq_none h1] at hx; cases hx
  rw [World.ownsRow.cellAt h k (by omega)]
  simp [hx, cel]
theorem Own.frozen {w : World} {B g n cap : Nat} {xs : List (BitVec 8)} (h : Own w B (.slice (some ⟨g, 0, none⟩) n cap) xs) (hn : n = xs.length) (k : Nat) : w.frozen? ⟨g, k, none⟩ = false := by
  subst hn
  exact World.ownsRow.frozenAt h k
theorem Own.set_ {w : World} {B g n cap : Nat} {xs : List (BitVec 8)} (h : Own w B (.slice (some ⟨g, 0, none⟩) n cap) xs) (hn : n = xs.length) (k : Nat) (x : BitVec 8) :
    Own (w.setCell ⟨g, k, none⟩ (.int .u8 (x.toNat : Int))) B (.slice (some ⟨g, 0, none⟩) n cap) (xs.set k x) := by
  subst hn
  have := (World.ownsRow.stored h k (.int .u8 (x.toNat : Int))).1
  unfold Own
  rw [List.length_set, List.map_set]
  exact this

theorem flip1_set {xs : List (BitVec 8)} {k : Nat} {x : BitVec 8} (hx : xs[k / 8]? = some x) : flip1 xs k = xs.set (k / 8) (x ^^^ (128#8 >>> (k % 8))) := by
  unfold flip1
  apply List.ext_getElem?
  intro j
  rw [List.getElem?_modify, List.getElem?_set]
  by_cases hj : k / 8 = j
  · subst hj
    have hl : k / 8 < xs.length := by
      rcases Nat.lt_or_ge (k / 8) xs.length with h1 | h1
      · exact h1
      · rw [List.getElem?_eq_none h1] at hx; cases hx
    rw [List.getElem?_eq_getElem hl] at hx
    simp [hl, Option.some.inj hx]
  · simp [hj]

theorem bit_int (m j : Nat) : ((m : Int) / 2 ^ j).tmod 2 = ((m / 2 ^ j % 2 : Nat) : Int) := by
  have e : (m : Int) / 2 ^ j = ((m / 2 ^ j : Nat) : Int) := by simp
  rw [e, Int.tmod_eq_emod_of_nonneg (Int.natCast_nonneg _)]
  omega
theorem bit_yes {m j : Nat} (h : m.testBit j = true) : ((m : Int) / 2 ^ j).tmod 2 = 1 := by
  rw [Nat.testBit_eq_decide_div_mod_eq] at h
  rw [bit_int, of_decide_eq_true h]
  rfl
theorem bit_no {m j : Nat} (h : m.testBit j = false) : ¬ ((m : Int) / 2 ^ j).tmod 2 = 1 := by
  rw [Nat.testBit_eq_decide_div_mod_eq] at h
  have := of_decide_eq_false h
  rw [bit_int]
  omega
theorem turn8 (x : BitVec 8) (k : Nat) : bits .xor .u8 (x.toNat : Int) (128 / 2 ^ (k % 8)) = ((x ^^^ (128#8 >>> (k % 8))).toNat : Int) := by
  rw [← xor8]
  congr 1
  rw [BitVec.toNat_ushiftRight, Nat.shiftRight_eq_div_pow]
  simp

/-- Bits are turned in the front alone: what stands behind does not matter. -/
theorem flips_front (xs ys : List (BitVec 8)) (p m : Nat) : ∀ k, p + k ≤ 8 * xs.length → flips (xs ++ ys) p m k = flips xs p m k ++ ys
  | 0, _ => rfl
  | k + 1, h => by
    have ih := flips_front xs ys p m k (by omega)
    unfold flips
    rw [ih]
    split
    · unfold flip1
      have hk : (p + k) / 8 < (flips xs p m k).length := by rw [length_flips]; omega
      apply List.ext_getElem?
      intro j
      rw [List.getElem?_modify, List.getElem?_append, List.getElem?_append, List.getElem?_modify, List.length_modify]
      by_cases hj : (p + k) / 8 = j
      · subst hj; simp [hk]
      · simp [hj]
    · rfl
theorem m_ne {m : BitVec 16} (h : m ≠ 0#16) : m.toNat ≠ 0 := fun he => h (BitVec.eq_of_toNat_eq (by simpa using he))
/-- What was sealed and turned is no Seal; and where the bits lie within the bytes alone, these have another sum. -/
theorem flips_no (xs : List (BitVec 8)) (p : Nat) (m : BitVec 16) (n : Nat) (hx : xs.length = n) (hp : p ≤ 8 * n) (hm : m ≠ 0#16) :
    opens (flips (sealed xs) p m.toNat 16) = false ∧ (p + 16 ≤ 8 * n → crcSum ((flips (sealed xs) p m.toNat 16).take n) ≠ crcSum xs) := by
  have hl : (sealed xs).length = n + 2 := by unfold sealed; simp [hx]
  constructor
  · have := sum_flips_ne (sealed xs) p m.toNat (m_ne hm) m.isLt (by rw [hl]; omega)
    rw [sum_sealed] at this
    simp [opens, this]
  · intro h
    have := sum_flips_ne xs p m.toNat (m_ne hm) m.isLt (by rw [hx]; omega)
    unfold sealed
    rw [flips_front xs _ p m.toNat 16 (by rw [hx]; omega), List.take_left' (by rw [length_flips, hx])]
    exact this

set_option maxHeartbeats 2000000 in
set_option maxRecDepth 100000 in
theorem bursts_main (v : Value) (xs : List (BitVec 8)) (p : Nat) (m : BitVec 16) (n : Nat) (w : World) (hv : Byts w v xs) (hx : xs.length = n) (hn : n ≤ 500) (hp : p ≤ 8 * n) (hm : m ≠ 0#16) :
    Calls Try.prog 6 #[v, .int .i64 (p : Int), .int .u16 (m.toNat : Int)] w fun e w' => e = .returned (.bool true) ∧ Below w.heap.size w w' := by
  obtain ⟨av, cv, ev⟩ := hv.len
  rw [hx] at ev
  have HS := Lib.hid (small_true w)
  have HV := Lib.hid hv
  have HX := Lib.hid hx
  have HL := Lib.hid (show (sealed xs).length = n + 2 by unfold sealed; simp [hx])
  have hm0 := nzero16 hm
  have hmlt := m.isLt
  clear hv hx
  have HMM := Lib.hid hm
  clear hm
  subst ev
  go_enter Try.func6, Try.ntmps6
  go_wp2_with fail
  (with_reducible refine HS.out.mono ?_)
  rintro e w1 ⟨rfl, hb⟩
  have HB := Lib.hid hb
  have HV1 := Lib.hid (HV.out.below hb)
  clear hb HS HV
  go_wp2_with fail
  (with_reducible refine (seal_any _ xs _ HV1.out (by rw [HX.out]; omega)).mono ?_)
  rintro e w2 ⟨r, rfl, hown, hb⟩
  have HB1 := Lib.hid hb
  have HB2 := Lib.hid (below_call HB.out hb)
  have HV2 := Lib.hid (HV1.out.below hb)
  obtain ⟨g, cap, rfl, hcap, hBg⟩ := hown.form (by rw [HL.out]; omega)
  have HO := Lib.hid hown
  rw [HL.out] at HO hcap ⊢
  have hw1 := HB.out.size
  have HG := Lib.hid (show w.heap.size ≤ g by omega)
  have HG1 := Lib.hid hBg
  clear hb hown hBg hw1
  have hne : (((n : Int) + 2) != ((n : Int) + 2)) = false := by simp
  go_wp2_with fail
  clear hne
  go_loopw [9, 10] (fun i k wr => ∃ j : Nat, j ≤ 16 ∧ i = .int .i64 j ∧ Own wr w1.heap.size (.slice (some ⟨g, 0, none⟩) (n + 2) cap) (flips (sealed xs) p m.toNat j) ∧ Below w1.heap.size w1 wr) (fun i _ _ => 16 - (intOf i).toNat)
  case atStart => exact ⟨0, by omega, rfl, HO.out, HB1.out⟩
  case round =>
    obtain ⟨j, hj, rfl, hr, hb⟩ := hrel
    have HRW := Lib.hid hr
    have HBW := Lib.hid hb
    have HL2 := Lib.hid (show (flips (sealed xs) p m.toNat j).length = n + 2 by rw [length_flips, HL.out])
    clear hr hb
    by_cases hlt : j < 16
    · cases hbit : m.toNat.testBit j with
      | false =>
        have HF := Lib.hid (show flips (sealed xs) p m.toNat (j + 1) = flips (sealed xs) p m.toNat j by simp [flips, hbit])
        have hne := bit_no hbit
        clear hbit
        go_wp2
        go_roundw
        case rel => exact ⟨j + 1, by omega, by go_num, by rw [HF.out]; exact HRW.out, HBW.out⟩
        case measure => simp [intOf]; omega
      | true =>
        obtain ⟨x, hx⟩ : ∃ x, (flips (sealed xs) p m.toNat j)[(p + j) / 8]? = some x := ⟨_, List.getElem?_eq_getElem (by rw [HL2.out]; omega)⟩
        have HF := Lib.hid (show flips (sealed xs) p m.toNat (j + 1) = (flips (sealed xs) p m.toNat j).set ((p + j) / 8) (x ^^^ (128#8 >>> ((p + j) % 8))) by rw [← flip1_set hx]; simp [flips, hbit])
        have hyes := bit_yes hbit
        have hlen : (p : Int) + (j : Int) < 8 * ((n : Int) + 2) := by omega
        have h1 := HRW.out.cell HL2.out.symm _ x hx
        have h2 := HRW.out.frozen HL2.out.symm ((p + j) / 8)
        have hxl := x.isLt
        have hxx := turn8 x (p + j)
        clear hx hbit
        generalize x ^^^ (128#8 >>> ((p + j) % 8)) = y at *
        have HR2 := Lib.hid (HRW.out.set_ HL2.out.symm ((p + j) / 8) y)
        have HB3 := Lib.hid (HBW.out.setCell (p := ⟨g, (p + j) / 8, none⟩) HG1.out (.int .u8 (y.toNat : Int)))
        go_wp2
        go_roundw
        case rel => exact ⟨j + 1, by omega, by go_num, by rw [HF.out]; exact HR2.out, HB3.out⟩
        case measure => simp [intOf]; omega
    · obtain rfl : j = 16 := by omega
      have HVW := Lib.hid (HV1.out.below HBW.out)
      have HNE := Lib.hid (flips_no xs p m n HX.out hp HMM.out)
      have HBT := Lib.hid (below_call HB.out HBW.out)
      clear HB2 HV2 HO HB1
      generalize flips (sealed xs) p m.toNat 16 = zs at *
      obtain ⟨wo, rfl⟩ : ∃ wo : World, wo = wr := ⟨_, rfl⟩
      go_wp2_with fail
      go_loopw [11, 12] (fun b i wq => ∃ (t : Bool) (k : Nat), k ≤ n ∧ b = .bool t ∧ i = .int .i64 k ∧ ∃ d, wq = wo.drewN d) (fun _ i _ => n - (intOf i).toNat)
      case atStart => exact ⟨true, 0, by omega, rfl, rfl, 0, rfl⟩
      case round =>
        obtain ⟨t, k, hk, rfl, rfl, d, rfl⟩ := hrel
        by_cases hlt : k < n
        · cases t with
          | false =>
            go_wp2
            go_quiet (fail)
            go_wp2
            go_roundw
            case rel => exact ⟨false, k + 1, by omega, rfl, by go_num, _, rfl⟩
            case measure => simp [intOf]; omega
          | true =>
            obtain ⟨g1, o1, c1, x, e1, hc1, hg1, hx, h1⟩ := HVW.out.at_ k (by rw [HX.out]; exact hlt)
            simp only [Value.slice.injEq] at e1
            obtain ⟨rfl, _, rfl⟩ := e1
            obtain ⟨z, hz⟩ : ∃ z, zs[k]? = some z := ⟨_, List.getElem?_eq_getElem (by rw [HL2.out]; omega)⟩
            have h2 := HRW.out.cell HL2.out.symm _ z hz
            have hltI : (k : Int) < (n : Int) := by omega
            have hltI2 : (k : Int) < (n : Int) + 2 := by omega
            clear hx hz hc1
            go_wp2
            go_quiet (fail)
            go_wp2
            go_roundw
            case rel => exact ⟨_, k + 1, by omega, rfl, by go_num, _, rfl⟩
            case measure => simp [intOf]; omega
        · have HZ := Lib.hid ((Own.byts (HRW.out)).drewN d)
          have HZL := Lib.hid (show zs.length ≤ 1000000 by rw [HL2.out]; omega)
          have HXM := Lib.hid (show xs.length ≤ maxLen by rw [HX.out]; unfold maxLen; omega)
          have HZM := Lib.hid (show (zs.take n).length ≤ maxLen by rw [List.length_take]; unfold maxLen; omega)
          have HBD := Lib.hid (below_drewN HBT.out d)
          have HVD := Lib.hid (HVW.out.drewN d)
          have HZC := Lib.hid (HRW.out.cell HL2.out.symm)
          have hcn : n ≤ cap := by omega
          go_wp2_with fail
          (with_reducible refine (open_f _ zs _ HZ.out HZL.out HNE.out.1).mono ?_)
          rintro e w5 ⟨rfl, hb⟩
          have HB5 := Lib.hid (below_call HBD.out hb)
          have HV5 := Lib.hid (HVD.out.below hb)
          have HZ5 := Lib.hid (Byts.take (g := g) (o := 0) (cap := cap) (fun j x hx => by rw [Nat.zero_add]; exact (hb.cell (p := ⟨g, j, none⟩) (lt_of_cell (HZC.out j x hx))).trans (HZC.out j x hx)) (by rw [HL2.out]; omega) n (by rw [HL2.out]; omega))
          clear hb HBD HVD HZC HZ
          cases t with
          | true =>
            go_wp2_with fail
            go_ret
            exact ⟨rfl, HB5.out⟩
          | false =>
            by_cases hfar : 8 * n < p + 16
            · have hfI : decide (8 * (n : Int) < (p : Int) + 16) = true := by simp; omega
              go_wp2_with fail
              go_ret
              exact ⟨by simp, HB5.out⟩
            · have hfI : decide (8 * (n : Int) < (p : Int) + 16) = false := by simp; omega
              have hq := neq16 (HNE.out.2 (by omega))
              go_wp2_with fail
              (with_reducible refine (sum_any _ (zs.take n) _ HZ5.out HZM.out).mono ?_)
              rintro e w6 ⟨rfl, rfl⟩
              go_wp2_with fail
              (with_reducible refine (sum_any _ xs _ HV5.out HXM.out).mono ?_)
              rintro e w6 ⟨rfl, rfl⟩
              go_wp2_with fail
              go_ret
              exact ⟨by simp, HB5.out⟩

theorem bursts_any (v : Value) (xs : List (BitVec 8)) (at_ : Int) (m : BitVec 16) (w : World) (hv : Byts w v xs) (hm : xs.length ≤ maxLen) :
    Calls Try.prog 6 #[v, .int .i64 at_, .int .u16 (m.toNat : Int)] w fun e w' => e = .returned (.bool true) ∧ Below w.heap.size w w' := by
  by_cases hmain : xs.length ≤ 500 ∧ 0 ≤ at_ ∧ at_ ≤ 8 * xs.length ∧ m ≠ 0#16
  · obtain ⟨h1, h2, h3, h4⟩ := hmain
    obtain ⟨p, rfl⟩ : ∃ p : Nat, at_ = (p : Int) := ⟨at_.toNat, by omega⟩
    exact bursts_main v xs p m xs.length w hv rfl h1 (by omega) h4
  · obtain ⟨av, cv, ev⟩ := hv.len
    have HS := Lib.hid (small_true w)
    clear hv
    subst ev
    unfold maxLen at hm
    generalize xs.length = n at *
    have hc : 500 < n ∨ (n ≤ 500 ∧ at_ < 0) ∨ (n ≤ 500 ∧ 0 ≤ at_ ∧ 8 * (n : Int) < at_) ∨ (n ≤ 500 ∧ 0 ≤ at_ ∧ at_ ≤ 8 * (n : Int) ∧ m = 0#16) := by
      by_cases h : m = 0#16
      · simp only [h, ne_eq, not_true_eq_false, and_false, and_true] at hmain ⊢
        omega
      · simp only [h, ne_eq, not_false_eq_true, and_true, and_false, or_false] at hmain ⊢
        omega
    clear hmain
    rcases hc with hc | ⟨hc, hd⟩ | ⟨hc, hd, he⟩ | ⟨hc, hd, he, rfl⟩
    · go_enter Try.func6, Try.ntmps6
      go_wp2_with fail
      (with_reducible refine HS.out.mono ?_)
      rintro e w1 ⟨rfl, hb⟩
      go_wp2_with fail
      go_ret
      exact ⟨rfl, hb⟩
    · go_enter Try.func6, Try.ntmps6
      go_wp2_with fail
      (with_reducible refine HS.out.mono ?_)
      rintro e w1 ⟨rfl, hb⟩
      go_wp2_with fail
      go_ret
      exact ⟨rfl, hb⟩
    · go_enter Try.func6, Try.ntmps6
      go_wp2_with fail
      (with_reducible refine HS.out.mono ?_)
      rintro e w1 ⟨rfl, hb⟩
      go_wp2_with fail
      go_ret
      exact ⟨rfl, hb⟩
    · rw [show (((0#16 : BitVec 16).toNat : Nat) : Int) = 0 from rfl]
      go_enter Try.func6, Try.ntmps6
      go_wp2_with fail
      (with_reducible refine HS.out.mono ?_)
      rintro e w1 ⟨rfl, hb⟩
      go_wp2_with fail
      go_ret
      exact ⟨rfl, hb⟩
end Go.Proofs.Ytbhbckfonnagdaa

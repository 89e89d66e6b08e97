/-
  Bits that are turned, all within sixteen: as the walk spells them, and what they do to what was sealed.
-/
import Derived.Test.YthjpacdhaeoecaaDoorCrcRopen
import Derived.Laws.ShiftsVarLaws
namespace Go.Proofs.YthjpacdhaeoecaaDoor
open Go.RowKit

theorem ofInt8 (a : Nat) (ha : a < 256) : (BitVec.ofInt 8 (a : Int)).toNat = a := by
  rw [BitVec.ofInt_natCast, BitVec.toNat_ofNat]; exact Nat.mod_eq_of_lt (by omega)
theorem wrap8 (n : Int) : IntKind.u8.wrap n = n % 256 := by simp [IntKind.wrap, IntKind.bits, IntKind.signed]
theorem xor8 (a b : BitVec 8) : bits .xor .u8 (a.toNat : Int) (b.toNat : Int) = ((a ^^^ b).toNat : Int) := by
  have ha := a.isLt
  have hb := b.isLt
  have hx : a.toNat ^^^ b.toNat < 2 ^ 8 := Nat.xor_lt_two_pow (by omega) (by omega)
  show IntKind.u8.wrap ((BitVec.ofInt 8 (a.toNat : Int) ^^^ BitVec.ofInt 8 (b.toNat : Int)).toNat : Int) = _
  rw [BitVec.toNat_xor, ofInt8 _ ha, ofInt8 _ hb, wrap8, BitVec.toNat_xor]
  omega
theorem nzero16 {a : BitVec 16} (h : a ≠ 0#16) : ((a.toNat : Int) == 0) = false := by
  simp
  intro he
  exact h (BitVec.eq_of_toNat_eq (by simpa using he))

theorem flip1_set {xs : List (BitVec 8)} {k : Nat} {x : BitVec 8} (hx : xs[k / 8]? = some x) : flip1 xs k = xs.set (k / 8) (x ^^^ (128#8 >>> (k % 8))) := by
  unfold flip1
  apply List.ext_getElem?
  intro j
  rw [List.getElem?_modify, List.getElem?_set]
  by_cases hj : k / 8 = j
  · subst hj
    have hl : k / 8 < xs.length := by
      rcases Nat.lt_or_ge (k / 8) xs.length with h1 | h1
      · exact h1
      · rw [List.getElem?_eq_none h1] at hx; cases hx
    rw [List.getElem?_eq_getElem hl] at hx
    simp [hl, Option.some.inj hx]
  · simp [hj]

theorem bit_int (m j : Nat) : ((m : Int) / 2 ^ j).tmod 2 = ((m / 2 ^ j % 2 : Nat) : Int) := by
  have e : (m : Int) / 2 ^ j = ((m / 2 ^ j : Nat) : Int) := by simp
  rw [e, Int.tmod_eq_emod_of_nonneg (Int.natCast_nonneg _)]
  omega
theorem bit_yes {m j : Nat} (h : m.testBit j = true) : ((m : Int) / 2 ^ j).tmod 2 = 1 := by
  rw [Nat.testBit_eq_decide_div_mod_eq] at h
  rw [bit_int, of_decide_eq_true h]
  rfl
theorem bit_no {m j : Nat} (h : m.testBit j = false) : ¬ ((m : Int) / 2 ^ j).tmod 2 = 1 := by
  rw [Nat.testBit_eq_decide_div_mod_eq] at h
  have := of_decide_eq_false h
  rw [bit_int]
  omega
theorem turn8 (x : BitVec 8) (k : Nat) : bits .xor .u8 (x.toNat : Int) (128 / 2 ^ (k % 8)) = ((x ^^^ (128#8 >>> (k % 8))).toNat : Int) := by
  rw [← xor8]
  congr 1
  rw [BitVec.toNat_ushiftRight, Nat.shiftRight_eq_div_pow]
  simp

/-- Bits are turned in the front alone: what stands behind does not matter. -/
theorem flips_front (xs ys : List (BitVec 8)) (p m : Nat) : ∀ k, p + k ≤ 8 * xs.length → flips (xs ++ ys) p m k = flips xs p m k ++ ys
  | 0, _ => rfl
  | k + 1, h => by
    have ih := flips_front xs ys p m k (by omega)
    unfold flips
    rw [ih]
    split
    · unfold flip1
      have hk : (p + k) / 8 < (flips xs p m k).length := by rw [length_flips]; omega
      apply List.ext_getElem?
      intro j
      rw [List.getElem?_modify, List.getElem?_append, List.getElem?_append, List.getElem?_modify, List.length_modify]
      by_cases hj : (p + k) / 8 = j
      · subst hj; simp [hk]
      · simp [hj]
    · rfl
theorem m_ne {m : BitVec 16} (h : m ≠ 0#16) : m.toNat ≠ 0 := fun he => h (BitVec.eq_of_toNat_eq (by simpa using he))
/-- What was sealed and turned is no Seal; and where the bits lie within the bytes alone, these have another sum. -/
theorem flips_no (xs : List (BitVec 8)) (p : Nat) (m : BitVec 16) (n : Nat) (hx : xs.length = n) (hp : p ≤ 8 * n) (hm : m ≠ 0#16) :
    opens (flips (sealed xs) p m.toNat 16) = false ∧ (p + 16 ≤ 8 * n → crcSum ((flips (sealed xs) p m.toNat 16).take n) ≠ crcSum xs) := by
  have hl : (sealed xs).length = n + 2 := by unfold sealed; simp [hx]
  constructor
  · have := sum_flips_ne (sealed xs) p m.toNat (m_ne hm) m.isLt (by rw [hl]; omega)
    rw [sum_sealed] at this
    simp [opens, this]
  · intro h
    have := sum_flips_ne xs p m.toNat (m_ne hm) m.isLt (by rw [hx]; omega)
    unfold sealed
    rw [flips_front xs _ p m.toNat 16 (by rw [hx]; omega), List.take_left' (by rw [length_flips, hx])]
    exact this

end Go.Proofs.YthjpacdhaeoecaaDoor

/-
  Bits of numbers: plain mathematics.
-/
import Derived.Test.YtalfcbgffgikkaaPoMath
namespace Go.Proofs.Ytalfcbgffgikkaa

theorem po_ofNat (a : Nat) (h : a < 2 ^ 63) : (BitVec.ofInt 64 (a : Int)).toNat = a := by
  rw [BitVec.ofInt_natCast, BitVec.toNat_ofNat]
  omega
theorem po_wrap (a : Nat) (h : a < 2 ^ 63) : IntKind.i64.wrap (a : Int) = (a : Int) := by rw [IntKind.wrap_i64]; omega
theorem po_and (a b : Nat) (ha : a < 2 ^ 63) (hb : b < 2 ^ 63) : bits .and .i64 (a : Int) (b : Int) = ((a &&& b : Nat) : Int) := by
  show IntKind.i64.wrap ((BitVec.ofInt 64 (a : Int) &&& BitVec.ofInt 64 (b : Int)).toNat : Int) = _
  rw [BitVec.toNat_and, po_ofNat a ha, po_ofNat b hb]
  exact po_wrap _ (Nat.lt_of_le_of_lt Nat.and_le_left ha)
theorem po_or (a b : Nat) (ha : a < 2 ^ 63) (hb : b < 2 ^ 63) : bits .or .i64 (a : Int) (b : Int) = ((a ||| b : Nat) : Int) := by
  show IntKind.i64.wrap ((BitVec.ofInt 64 (a : Int) ||| BitVec.ofInt 64 (b : Int)).toNat : Int) = _
  rw [BitVec.toNat_or, po_ofNat a ha, po_ofNat b hb]
  exact po_wrap _ (Nat.or_lt_two_pow ha hb)
/-- What is left of a where b has no bit. -/
def poless (a b : Nat) : Nat := (BitVec.ofNat 64 a &&& ~~~ BitVec.ofNat 64 b).toNat
theorem poless_bit (a b : Nat) (ha : a < 2 ^ 63) (i : Nat) : (poless a b).testBit i = (a.testBit i && !b.testBit i) := by
  unfold poless
  rw [BitVec.testBit_toNat, BitVec.getLsbD_and, BitVec.getLsbD_not, BitVec.getLsbD_ofNat, BitVec.getLsbD_ofNat]
  by_cases hi : i < 64
  · simp [hi]
  · have h1 : a.testBit i = false := Nat.testBit_lt_two_pow (Nat.lt_of_lt_of_le ha (Nat.pow_le_pow_right (by decide) (by omega)))
    simp [hi, h1]
theorem poless_le (a b : Nat) (ha : a < 2 ^ 63) : poless a b ≤ a := by
  unfold poless
  rw [BitVec.toNat_and, BitVec.toNat_ofNat, show a % 2 ^ 64 = a by omega]
  exact Nat.and_le_left
theorem po_andNot (a b : Nat) (ha : a < 2 ^ 63) : bits .andNot .i64 (a : Int) (b : Int) = (poless a b : Int) := by
  show IntKind.i64.wrap ((BitVec.ofInt 64 (a : Int) &&& ~~~ BitVec.ofInt 64 (b : Int)).toNat : Int) = _
  rw [BitVec.ofInt_natCast, BitVec.ofInt_natCast]
  exact po_wrap _ (Nat.lt_of_le_of_lt (poless_le a b ha) ha)
/-- A number's bits below a place. -/
theorem po_mask (r : Int) (M : Nat) (h0 : 0 ≤ r) (h1 : r ≤ 9223372036854775807) (hM : M ≤ 62) : bits .and .i64 r (2 ^ M - 1) = r % 2 ^ M := by
  obtain ⟨a, rfl⟩ : ∃ a : Nat, r = (a : Int) := ⟨r.toNat, by omega⟩
  have hp : (2 : Nat) ^ M < 2 ^ 63 := Nat.pow_lt_pow_right (by decide) (by omega)
  have hq : 0 < (2 : Nat) ^ M := Nat.pow_pos (by decide)
  have e : ((2 : Int) ^ M - 1) = ((2 ^ M - 1 : Nat) : Int) := by
    rw [Int.natCast_sub hq, Int.natCast_pow]
    rfl
  rw [e, po_and a _ (by omega) (by omega), Nat.and_two_pow_sub_one_eq_mod]
  rw [Int.natCast_emod, Int.natCast_pow]
  rfl
/-- One bit of a number. -/
theorem po_one (x : Int) : bits .and .i64 x 1 = x % 2 := by
  show IntKind.i64.wrap ((BitVec.ofInt 64 x &&& BitVec.ofInt 64 1).toNat : Int) = _
  have h1 : (BitVec.ofInt 64 x &&& BitVec.ofInt 64 1).toNat = (BitVec.ofInt 64 x).toNat % 2 := by
    rw [BitVec.toNat_and]
    exact Nat.and_two_pow_sub_one_eq_mod _ 1
  rw [h1, BitVec.toNat_ofInt, IntKind.wrap_i64]
  simp
  omega
theorem po_shr (x : Int) (k : Nat) (h : k ≤ 64) (yk : IntKind) : Op.shift .shr .i64 x yk (k : Int) = pure (.int .i64 (x / 2 ^ k)) := by
  rw [shift_shr_any _ _ _ _ (by omega)]
  have : min (k : Int).toNat IntKind.i64.bits = k := by show min _ 64 = _; omega
  rw [this]
theorem po_shl (k : Nat) (h : k ≤ 62) (yk : IntKind) : Op.shift .shl .i64 1 yk (k : Int) = pure (.int .i64 (2 ^ k)) := by
  rw [shift_shl_any _ _ _ _ (by omega)]
  have : min (k : Int).toNat IntKind.i64.bits = k := by show min _ 64 = _; omega
  have hp : (2 : Nat) ^ k < 2 ^ 63 := Nat.pow_lt_pow_right (by decide) (by omega)
  rw [this, Int.one_mul, show (2 : Int) ^ k = ((2 ^ k : Nat) : Int) by rw [Int.natCast_pow]; rfl, po_wrap _ hp]
/-! What each route counts for by itself. -/
theorem po_mod_and (r M : Nat) : (r % 2 ^ M) &&& r = r % 2 ^ M := by
  apply Nat.eq_of_testBit_eq
  intro i
  rw [Nat.testBit_and, Nat.testBit_mod_two_pow]
  cases r.testBit i <;> simp
theorem po_less_and (r k M : Nat) (hr : r < 2 ^ 63) (hk : k ≤ 62) : (poless r (2 ^ k) % 2 ^ M) &&& 2 ^ k = 0 := by
  have hp : (2 : Nat) ^ k < 2 ^ 63 := Nat.pow_lt_pow_right (by decide) (by omega)
  apply Nat.eq_of_testBit_eq
  intro i
  rw [Nat.testBit_and, Nat.testBit_mod_two_pow, poless_bit _ _ hr, Nat.testBit_two_pow, Nat.zero_testBit]
  by_cases h : k = i <;> simp [h]
theorem po_more (r k M : Nat) (hr : r < 2 ^ 63) (hk : k < M) (hM : M ≤ 62) : (r ||| 2 ^ k) % 2 ^ M = (poless r (2 ^ k) % 2 ^ M) ||| 2 ^ k := by
  have hp : (2 : Nat) ^ k < 2 ^ 63 := Nat.pow_lt_pow_right (by decide) (by omega)
  apply Nat.eq_of_testBit_eq
  intro i
  rw [Nat.testBit_or, Nat.testBit_mod_two_pow, Nat.testBit_mod_two_pow, Nat.testBit_or, poless_bit _ _ hr, Nat.testBit_two_pow]
  by_cases h : k = i
  · subst h; simp [hk]
  · simp [h]
theorem po_either (r k : Nat) (hr : r < 2 ^ 63) (hk : k ≤ 62) : r = poless r (2 ^ k) ∨ r = r ||| 2 ^ k := by
  have hp : (2 : Nat) ^ k < 2 ^ 63 := Nat.pow_lt_pow_right (by decide) (by omega)
  cases h : r.testBit k
  · left
    apply Nat.eq_of_testBit_eq
    intro i
    rw [poless_bit _ _ hr, Nat.testBit_two_pow]
    by_cases e : k = i
    · subst e; simp [h]
    · simp [e]
  · right
    apply Nat.eq_of_testBit_eq
    intro i
    rw [Nat.testBit_or, Nat.testBit_two_pow]
    by_cases e : k = i
    · subst e; simp [h]
    · simp [e]
end Go.Proofs.Ytalfcbgffgikkaa

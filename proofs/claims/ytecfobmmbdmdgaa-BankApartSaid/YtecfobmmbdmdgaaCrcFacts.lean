/-
  Sums of sixteen bits as the program's numbers: facts that name no function.
-/
import Derived.Test.YtecfobmmbdmdgaaBytes
import Derived.Test.YtecfobmmbdmdgaaCrcMath
import Derived.WalkKit
import Derived.Lib.Hide
import Derived.Laws.BitsAllLaws
import Derived.Below
import Derived.Laws.OwnMore
namespace Go.Proofs.Ytecfobmmbdmdgaa
open Go.RowKit


theorem ofInt16 (a : Nat) (ha : a < 65536) : (BitVec.ofInt 16 (a : Int)).toNat = a := by
  rw [BitVec.ofInt_natCast, BitVec.toNat_ofNat]; exact Nat.mod_eq_of_lt (by omega)
theorem wrap16 (n : Int) : IntKind.u16.wrap n = n % 65536 := by simp [IntKind.wrap, IntKind.bits, IntKind.signed]
theorem xor16 (a b : Nat) (ha : a < 65536) (hb : b < 65536) : bits .xor .u16 (a : Int) (b : Int) = ((a ^^^ b : Nat) : Int) := by
  have hx : a ^^^ b < 2 ^ 16 := Nat.xor_lt_two_pow (by omega) (by omega)
  show IntKind.u16.wrap ((BitVec.ofInt 16 (a : Int) ^^^ BitVec.ofInt 16 (b : Int)).toNat : Int) = _
  rw [BitVec.toNat_xor, ofInt16 a ha, ofInt16 b hb, wrap16]
  omega
theorem and16 (a b : Nat) (ha : a < 65536) (hb : b < 65536) : bits .and .u16 (a : Int) (b : Int) = ((a &&& b : Nat) : Int) := by
  have hx : a &&& b < 2 ^ 16 := Nat.and_lt_two_pow _ (by omega)
  show IntKind.u16.wrap ((BitVec.ofInt 16 (a : Int) &&& BitVec.ofInt 16 (b : Int)).toNat : Int) = _
  rw [BitVec.toNat_and, ofInt16 a ha, ofInt16 b hb, wrap16]
  omega
theorem or16 (a b : Nat) (ha : a < 65536) (hb : b < 65536) : bits .or .u16 (a : Int) (b : Int) = ((a ||| b : Nat) : Int) := by
  have hx : a ||| b < 2 ^ 16 := Nat.or_lt_two_pow (by omega) (by omega)
  show IntKind.u16.wrap ((BitVec.ofInt 16 (a : Int) ||| BitVec.ofInt 16 (b : Int)).toNat : Int) = _
  rw [BitVec.toNat_or, ofInt16 a ha, ofInt16 b hb, wrap16]
  omega
theorem high16 (r : BitVec 16) : r.msb = decide (32768 ≤ r.toNat) := by
  rw [BitVec.msb_eq_decide]
theorem and_high (r : BitVec 16) : bits .and .u16 (r.toNat : Int) 32768 = if r.msb then 32768 else 0 := by
  have h := r.isLt
  rw [show (32768 : Int) = ((32768 : Nat) : Int) from rfl, and16 _ _ h (by omega)]
  have e : r.toNat &&& 32768 = 2 ^ 15 * (r.toNat.testBit 15).toNat := by
    apply Nat.eq_of_testBit_eq
    intro j
    have hb : Nat.testBit 32768 j = decide (15 = j) := Nat.testBit_two_pow (n := 15) (m := j)
    have hc : Nat.testBit (2 ^ 15 * 1) j = decide (15 = j) := hb
    rw [Nat.testBit_and, hb]
    by_cases hj : 15 = j
    · subst hj
      cases h15 : r.toNat.testBit 15
      · simp
      · simp only [Bool.toNat_true, hc]; simp
    · cases h15 : r.toNat.testBit 15
      · simp [hj]
      · simp only [Bool.toNat_true, hc]; simp [hj]
  rw [e, high16]
  have := Nat.testBit_eq_decide_div_mod_eq (x := r.toNat) (i := 15)
  by_cases hb : 32768 ≤ r.toNat
  · have hd : r.toNat / 2 ^ 15 % 2 = 1 := by omega
    simp [this, hd, hb]
  · have hd : r.toNat / 2 ^ 15 % 2 = 0 := by omega
    simp [this, hd, hb]
theorem first16 (s : BitVec 16) (x : BitVec 8) : bits .xor .u16 (s.toNat : Int) ((x.toNat : Int) * 256) = ((s ^^^ (wide x <<< 8)).toNat : Int) := by
  have h1 := s.isLt
  have h2 := x.isLt
  rw [show (x.toNat : Int) * 256 = ((x.toNat * 256 : Nat) : Int) by simp, xor16 _ _ h1 (by omega), BitVec.toNat_xor]
  congr 2
  simp [wide, Nat.shiftLeft_eq]
  omega
theorem stp_low {r : BitVec 16} (h : r.toNat < 32768) : ((stp r).toNat : Int) = (r.toNat : Int) * 2 := by
  have hm : r.msb = false := by rw [high16]; simp; omega
  unfold stp
  rw [hm]
  simp [Nat.shiftLeft_eq]
  omega
theorem stp_high {r : BitVec 16} (h : 32768 ≤ r.toNat) : ((stp r).toNat : Int) = bits .xor .u16 (IntKind.u16.wrap ((r.toNat : Int) * 2)) 4129 := by
  have h1 := r.isLt
  rw [wrap16]
  have hm : r.msb = true := by rw [high16]; simp; omega
  rw [show (r.toNat : Int) * 2 % 65536 = ((r.toNat * 2 % 65536 : Nat) : Int) by simp, show (4129 : Int) = ((4129 : Nat) : Int) from rfl, xor16 _ _ (by omega) (by omega)]
  unfold stp
  rw [hm, BitVec.toNat_xor]
  simp [Nat.shiftLeft_eq]


theorem crcAdd_next (s : BitVec 16) (xs : List (BitVec 8)) (k : Nat) (x : BitVec 8) (h : xs[k]? = some x) : crcAdd s (xs.take (k + 1)) = crcByte (crcAdd s (xs.take k)) x := by
  have : xs.take (k + 1) = xs.take k ++ [x] := by
    rw [List.take_add_one, h]; rfl
  rw [this, crcAdd_append]
  rfl

theorem ffff : (65535 : Int) = (((0xffff#16 : BitVec 16).toNat : Nat) : Int) := by decide


theorem hi_val (s : BitVec 16) : (s.toNat : Int) / 256 = ((hi s).toNat : Int) := by
  have := s.isLt
  simp [hi]
  omega
theorem lo_val (s : BitVec 16) : (s.toNat : Int) % 256 = ((lo s).toNat : Int) := by
  simp [lo]

theorem two_src (w : World) (s : BitVec 16) : Byts (w.alloc (.cells #[.int .u8 ((s.toNat : Int) / 256), .int .u8 ((s.toNat : Int) % 256)] 5)) (.slice (some ⟨w.heap.size, 0, none⟩) 2 2) [hi s, lo s] := by
  rw [hi_val, lo_val]
  exact (own_lit w w.heap.size [hi s, lo s] (Nat.le_refl _) (by unfold maxLen; simp)).byts

end Go.Proofs.Ytecfobmmbdmdgaa

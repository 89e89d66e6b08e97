/-
  crc.addByte and the document's one: a sum and a byte, by contract.
-/
import Derived.Test.YtdgehinmkbhjlaaDoorProg
import Derived.Test.YtdgehinmkbhjlaaDoorCrcMath
import Derived.WalkKit
import Derived.Lib.Hide
import Derived.Laws.BitsAllLaws
namespace Go.Proofs.YtdgehinmkbhjlaaDoor
open Go.RowKit

theorem ofInt16 (a : Nat) (ha : a < 65536) : (BitVec.ofInt 16 (a : Int)).toNat = a := by
  rw [BitVec.ofInt_natCast, BitVec.toNat_ofNat]; exact Nat.mod_eq_of_lt (by omega)
theorem wrap16 (n : Int) : IntKind.u16.wrap n = n % 65536 := by simp [IntKind.wrap, IntKind.bits, IntKind.signed]
theorem xor16 (a b : Nat) (ha : a < 65536) (hb : b < 65536) : bits .xor .u16 (a : Int) (b : Int) = ((a ^^^ b : Nat) : Int) := by
  have hx : a ^^^ b < 2 ^ 16 := Nat.xor_lt_two_pow (by omega) (by omega)
  show IntKind.u16.wrap ((BitVec.ofInt 16 (a : Int) ^^^ BitVec.ofInt 16 (b : Int)).toNat : Int) = _
  rw [BitVec.toNat_xor, ofInt16 a ha, ofInt16 b hb, wrap16]
  omega
theorem and16 (a b : Nat) (ha : a < 65536) (hb : b < 65536) : bits .and .u16 (a : Int) (b : Int) = ((a &&& b : Nat) : Int) := by
  have hx : a &&& b < 2 ^ 16 := Nat.and_lt_two_pow _ (by omega)
  show IntKind.u16.wrap ((BitVec.ofInt 16 (a : Int) &&& BitVec.ofInt 16 (b : Int)).toNat : Int) = _
  rw [BitVec.toNat_and, ofInt16 a ha, ofInt16 b hb, wrap16]
  omega
theorem or16 (a b : Nat) (ha : a < 65536) (hb : b < 65536) : bits .or .u16 (a : Int) (b : Int) = ((a ||| b : Nat) : Int) := by
  have hx : a ||| b < 2 ^ 16 := Nat.or_lt_two_pow (by omega) (by omega)
  show IntKind.u16.wrap ((BitVec.ofInt 16 (a : Int) ||| BitVec.ofInt 16 (b : Int)).toNat : Int) = _
  rw [BitVec.toNat_or, ofInt16 a ha, ofInt16 b hb, wrap16]
  omega
theorem high16 (r : BitVec 16) : r.msb = decide (32768 ≤ r.toNat) := by
  rw [BitVec.msb_eq_decide]
theorem and_high (r : BitVec 16) : bits .and .u16 (r.toNat : Int) 32768 = if r.msb then 32768 else 0 := by
  have h := r.isLt
  rw [show (32768 : Int) = ((32768 : Nat) : Int) from rfl, and16 _ _ h (by omega)]
  have e : r.toNat &&& 32768 = 2 ^ 15 * (r.toNat.testBit 15).toNat := by
    apply Nat.eq_of_testBit_eq
    intro j
    have hb : Nat.testBit 32768 j = decide (15 = j) := Nat.testBit_two_pow (n := 15) (m := j)
    have hc : Nat.testBit (2 ^ 15 * 1) j = decide (15 = j) := hb
    rw [Nat.testBit_and, hb]
    by_cases hj : 15 = j
    · subst hj
      cases h15 : r.toNat.testBit 15
      · simp
      · simp only [Bool.toNat_true, hc]; simp
    · cases h15 : r.toNat.testBit 15
      · simp [hj]
      · simp only [Bool.toNat_true, hc]; simp [hj]
  rw [e, high16]
  have := Nat.testBit_eq_decide_div_mod_eq (x := r.toNat) (i := 15)
  by_cases hb : 32768 ≤ r.toNat
  · have hd : r.toNat / 2 ^ 15 % 2 = 1 := by omega
    simp [this, hd, hb]
  · have hd : r.toNat / 2 ^ 15 % 2 = 0 := by omega
    simp [this, hd, hb]
theorem first16 (s : BitVec 16) (x : BitVec 8) : bits .xor .u16 (s.toNat : Int) ((x.toNat : Int) * 256) = ((s ^^^ (wide x <<< 8)).toNat : Int) := by
  have h1 := s.isLt
  have h2 := x.isLt
  rw [show (x.toNat : Int) * 256 = ((x.toNat * 256 : Nat) : Int) by simp, xor16 _ _ h1 (by omega), BitVec.toNat_xor]
  congr 2
  simp [wide, Nat.shiftLeft_eq]
  omega
theorem stp_low {r : BitVec 16} (h : r.toNat < 32768) : ((stp r).toNat : Int) = (r.toNat : Int) * 2 := by
  have hm : r.msb = false := by rw [high16]; simp; omega
  unfold stp
  rw [hm]
  simp [Nat.shiftLeft_eq]
  omega
theorem stp_high {r : BitVec 16} (h : 32768 ≤ r.toNat) : ((stp r).toNat : Int) = bits .xor .u16 (IntKind.u16.wrap ((r.toNat : Int) * 2)) 4129 := by
  have h1 := r.isLt
  rw [wrap16]
  have hm : r.msb = true := by rw [high16]; simp; omega
  rw [show (r.toNat : Int) * 2 % 65536 = ((r.toNat * 2 % 65536 : Nat) : Int) by simp, show (4129 : Int) = ((4129 : Nat) : Int) from rfl, xor16 _ _ (by omega) (by omega)]
  unfold stp
  rw [hm, BitVec.toNat_xor]
  simp [Nat.shiftLeft_eq]

set_option maxHeartbeats 1000000 in
theorem byte_any (s : BitVec 16) (x : BitVec 8) (w : World) :
    Calls Tryd.prog 35 #[.int .u16 (s.toNat : Int), .int .u8 (x.toNat : Int)] w fun e w' => e = .returned (.int .u16 ((crcByte s x).toNat : Int)) ∧ w = w' := by
  have h1 := s.isLt
  have h2 := x.isLt
  have e0 := first16 s x
  have HC := Lib.hid (show crcByte s x = stps 8 (s ^^^ (wide x <<< 8)) from rfl)
  generalize s ^^^ (wide x <<< 8) = r0 at *
  go_enter Tryd.func35, Tryd.ntmps35
  go_wp2
  clear e0
  go_loop [0, 11] (fun t i => ∃ k : Nat, k ≤ 8 ∧ i = .int .i64 k ∧ t = .int .u16 ((stps k r0).toNat : Int)) (fun _ i => 8 - (intOf i).toNat)
  case atStart => exact ⟨0, by omega, rfl, rfl⟩
  case round =>
    obtain ⟨k, hk, rfl, rfl⟩ := hrel
    have hA := and_high (stps k r0)
    have hr := (stps k r0).isLt
    have HS := Lib.hid (show stps (k + 1) r0 = stp (stps k r0) from rfl)
    by_cases hlt : k < 8
    · generalize stps k r0 = r at *
      by_cases hm : 32768 ≤ r.toNat
      · have HN := Lib.hid (stp_high hm)
        have hb : r.msb = true := by rw [high16]; simp; omega
        simp only [hb, if_true] at hA
        clear hb
        go_wp2
        go_round
        case rel => exact ⟨k + 1, by omega, by go_num, by rw [HS.out, HN.out]⟩
        case measure => simp [intOf]; omega
      · have hm' : r.toNat < 32768 := by omega
        have HN := Lib.hid (stp_low hm')
        have hb : r.msb = false := by rw [high16]; simp; omega
        simp only [hb] at hA
        clear hb hm
        go_wp2
        go_round
        case rel => exact ⟨k + 1, by omega, by go_num, by rw [HS.out, HN.out]⟩
        case measure => simp [intOf]; omega
    · go_wp2
      go_ret
      obtain rfl : k = 8 := by omega
      exact ⟨by rw [HC.out]; rfl, rfl⟩

set_option maxHeartbeats 1000000 in
theorem one_any (s : BitVec 16) (x : BitVec 8) (w : World) :
    Calls Tryd.prog 34 #[.int .u16 (s.toNat : Int), .int .u8 (x.toNat : Int)] w fun e w' => e = .returned (.int .u16 ((crcByte s x).toNat : Int)) ∧ w = w' := by
  have h1 := s.isLt
  have h2 := x.isLt
  have e0 := first16 s x
  have HC := Lib.hid (show crcByte s x = stps 8 (s ^^^ (wide x <<< 8)) from rfl)
  generalize s ^^^ (wide x <<< 8) = r0 at *
  go_enter Tryd.func34, Tryd.ntmps34
  go_wp2
  clear e0
  go_loop [0, 5] (fun t i => ∃ k : Nat, k ≤ 8 ∧ i = .int .i64 k ∧ t = .int .u16 ((stps k r0).toNat : Int)) (fun _ i => 8 - (intOf i).toNat)
  case atStart => exact ⟨0, by omega, rfl, rfl⟩
  case round =>
    obtain ⟨k, hk, rfl, rfl⟩ := hrel
    have hr := (stps k r0).isLt
    have HS := Lib.hid (show stps (k + 1) r0 = stp (stps k r0) from rfl)
    by_cases hlt : k < 8
    · generalize stps k r0 = r at *
      by_cases hm : 32768 ≤ r.toNat
      · have HN := Lib.hid (stp_high hm)
        have hd : decide ((32768 : Int) ≤ (r.toNat : Int)) = true := by simp; omega
        go_wp2
        go_round
        case rel => exact ⟨k + 1, by omega, by go_num, by rw [HS.out, HN.out]⟩
        case measure => simp [intOf]; omega
      · have hm' : r.toNat < 32768 := by omega
        have HN := Lib.hid (stp_low hm')
        have hd : decide ((32768 : Int) ≤ (r.toNat : Int)) = false := by simp; omega
        clear hm
        go_wp2
        go_round
        case rel => exact ⟨k + 1, by omega, by go_num, by rw [HS.out, HN.out]⟩
        case measure => simp [intOf]; omega
    · go_wp2
      go_ret
      obtain rfl : k = 8 := by omega
      exact ⟨by rw [HC.out]; rfl, rfl⟩
end Go.Proofs.YtdgehinmkbhjlaaDoor

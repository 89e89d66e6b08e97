/-
  CrcMath CrcFacts CrcSum CrcOpen CrcOpens CrcSeal CrcRseal CrcRopen: merged.
-/
import Derived.KernelRfl
import Derived.WalkKit
import Derived.Lib.Hide
import Derived.Laws.BitsAllLaws
import Derived.Below
import Derived.Laws.OwnMore
import Derived.Deep.QuietTactic
import Derived.BigQuiet
import Derived.IntWalk
import Derived.Laws.CopyOwn
import Derived.Test.YtekackglcapppaaGreatDoorBytes
/-
  Sums of sixteen bits as plain mathematics: one step of a bit, of a byte, of a row of bytes; they are linear, and a step takes no two sums to one.
-/
namespace Go.Proofs.YtekackglcapppaaGreatDoor

/-- One bit: shifted to the left; if the bit that went was 1, turned by 1021. -/
def stp (r : BitVec 16) : BitVec 16 := (r <<< 1) ^^^ (if r.msb then 0x1021#16 else 0#16)
def stps : Nat → BitVec 16 → BitVec 16
  | 0, r => r
  | n + 1, r => stp (stps n r)
def wide (x : BitVec 8) : BitVec 16 := x.setWidth 16
def crcByte (s : BitVec 16) (x : BitVec 8) : BitVec 16 := stps 8 (s ^^^ (wide x <<< 8))
def crcAdd (s : BitVec 16) (xs : List (BitVec 8)) : BitVec 16 := xs.foldl crcByte s
def crcSum (xs : List (BitVec 8)) : BitVec 16 := crcAdd 0xffff#16 xs
def hi (s : BitVec 16) : BitVec 8 := BitVec.ofNat 8 (s.toNat / 256)
def lo (s : BitVec 16) : BitVec 8 := BitVec.ofNat 8 (s.toNat % 256)
def cat (h l : BitVec 8) : BitVec 16 := (wide h <<< 8) ^^^ wide l
def sealed (xs : List (BitVec 8)) : List (BitVec 8) := xs ++ [hi (crcSum xs), lo (crcSum xs)]

theorem xor_swap (a b c d : BitVec 16) : (a ^^^ b) ^^^ (c ^^^ d) = (a ^^^ c) ^^^ (b ^^^ d) := by ac_rfl
theorem stp_xor (a b : BitVec 16) : stp (a ^^^ b) = stp a ^^^ stp b := by
  unfold stp
  rw [xor_swap, BitVec.shiftLeft_xor_distrib, BitVec.msb_xor]
  congr 1
  cases a.msb <;> cases b.msb <;> decide
theorem stp_zero : stp 0#16 = 0#16 := by decide
theorem stps_xor (n : Nat) (a b : BitVec 16) : stps n (a ^^^ b) = stps n a ^^^ stps n b := by
  induction n with
  | zero => rfl
  | succ n ih => simp only [stps, ih, stp_xor]
theorem stps_zero (n : Nat) : stps n 0#16 = 0#16 := by
  induction n with
  | zero => rfl
  | succ n ih => simp only [stps, ih, stp_zero]
theorem stps_add (n m : Nat) (a : BitVec 16) : stps (n + m) a = stps n (stps m a) := by
  induction n with
  | zero => simp [stps]
  | succ n ih => rw [Nat.succ_add]; simp only [stps, ih]
theorem stp_inj {a : BitVec 16} (h : stp a = 0#16) : a = 0#16 := by
  unfold stp at h
  cases hm : a.msb with
  | true =>
    rw [hm] at h
    have h0 := congrArg (fun x => BitVec.getLsbD x 0) h
    simp at h0
  | false =>
    rw [hm] at h
    simp at h
    have h1 := congrArg BitVec.toNat h
    have h2 : a.toNat < 32768 := by
      have := BitVec.msb_eq_decide a
      rw [hm] at this
      simp at this
      omega
    simp [Nat.shiftLeft_eq] at h1
    apply BitVec.eq_of_toNat_eq
    simp
    omega
theorem stps_inj {n : Nat} {a : BitVec 16} (h : stps n a = 0#16) : a = 0#16 := by
  induction n with
  | zero => exact h
  | succ n ih => exact ih (stp_inj h)

theorem wide_xor (x y : BitVec 8) : wide (x ^^^ y) = wide x ^^^ wide y := by unfold wide; exact BitVec.setWidth_xor
theorem crcByte_xor (s t : BitVec 16) (x y : BitVec 8) : crcByte (s ^^^ t) (x ^^^ y) = crcByte s x ^^^ crcByte t y := by
  unfold crcByte
  rw [wide_xor, BitVec.shiftLeft_xor_distrib, xor_swap, stps_xor]
theorem crcAdd_nil (s : BitVec 16) : crcAdd s [] = s := rfl
theorem crcAdd_cons (s : BitVec 16) (x : BitVec 8) (xs : List (BitVec 8)) : crcAdd s (x :: xs) = crcAdd (crcByte s x) xs := rfl
theorem crcAdd_append (s : BitVec 16) (xs ys : List (BitVec 8)) : crcAdd s (xs ++ ys) = crcAdd (crcAdd s xs) ys := by simp [crcAdd]
theorem crcAdd_xor : ∀ (xs ys : List (BitVec 8)) (s t : BitVec 16), xs.length = ys.length → crcAdd (s ^^^ t) (List.zipWith (· ^^^ ·) xs ys) = crcAdd s xs ^^^ crcAdd t ys
  | [], [], _, _, _ => rfl
  | x :: xs, y :: ys, s, t, h => by
    simp only [List.zipWith_cons_cons, crcAdd_cons, crcByte_xor]
    exact crcAdd_xor xs ys _ _ (by simpa using h)
  | [], _ :: _, _, _, h => by simp at h
  | _ :: _, [], _, _, h => by simp at h
theorem crcAdd_turn (xs : List (BitVec 8)) (s t : BitVec 16) : crcAdd (s ^^^ t) xs = crcAdd s xs ^^^ stps (8 * xs.length) t := by
  induction xs generalizing s t with
  | nil => rfl
  | cons x xs ih =>
    rw [crcAdd_cons, crcAdd_cons]
    have h : crcByte (s ^^^ t) x = crcByte s x ^^^ stps 8 t := by
      unfold crcByte
      rw [BitVec.xor_assoc, BitVec.xor_comm t, ← BitVec.xor_assoc, stps_xor]
    rw [h, ih, ← stps_add]
    rfl

theorem stps_low : ∀ l : BitVec 8, stps 8 (wide l) = wide l <<< 8 := by decide +kernel
theorem xor_parts (x y : Nat) (hy : y < 256) : x * 256 ^^^ y = x * 256 + y := by
  apply Nat.eq_of_testBit_eq
  intro j
  have h1 := Nat.testBit_two_pow_mul_add x (i := 8) hy j
  have h2 := Nat.testBit_two_pow_mul (a := x) (i := 8) (j := j)
  rw [show x * 256 = 2 ^ 8 * x by omega, Nat.testBit_xor, h1, h2]
  by_cases hj : j < 8
  · have : ¬ 8 ≤ j := by omega
    simp [hj, this]
  · have h3 : y.testBit j = false := Nat.testBit_lt_two_pow (Nat.lt_of_lt_of_le hy (Nat.pow_le_pow_right (n := 2) (by omega) (show 8 ≤ j by omega)))
    have : 8 ≤ j := by omega
    simp [hj, h3, this]
theorem or_parts (x y : Nat) (hy : y < 256) : x * 256 ||| y = x * 256 + y := by
  have := Nat.two_pow_add_eq_or_of_lt (i := 8) hy x
  rw [show x * 256 = 2 ^ 8 * x by omega, this]
theorem cat_hilo (s : BitVec 16) : cat (hi s) (lo s) = s := by
  have h1 : s.toNat / 256 < 256 := by have := s.isLt; omega
  have hh : (wide (hi s) <<< 8).toNat = s.toNat / 256 * 256 := by
    have := s.isLt
    simp [wide, hi, Nat.shiftLeft_eq]
    omega
  have hl : (wide (lo s)).toNat = s.toNat % 256 := by
    simp [wide, lo]
    omega
  unfold cat
  apply BitVec.eq_of_toNat_eq
  rw [BitVec.toNat_xor, hh, hl, xor_parts _ _ (by omega)]
  omega
theorem crcAdd_two (s : BitVec 16) (h l : BitVec 8) : crcAdd s [h, l] = stps 16 (s ^^^ cat h l) := by
  show stps 8 (stps 8 (s ^^^ (wide h <<< 8)) ^^^ (wide l <<< 8)) = _
  have e : ∀ a, stps 16 a = stps 8 (stps 8 a) := fun a => stps_add 8 8 a
  rw [← stps_low l, ← stps_xor, e]
  unfold cat
  rw [BitVec.xor_assoc]
theorem sum_two (xs : List (BitVec 8)) (h l : BitVec 8) : crcSum (xs ++ [h, l]) = stps 16 (crcSum xs ^^^ cat h l) := by
  unfold crcSum
  rw [crcAdd_append, crcAdd_two]
theorem sum_zero_iff (xs : List (BitVec 8)) (h l : BitVec 8) : crcSum (xs ++ [h, l]) = 0#16 ↔ cat h l = crcSum xs := by
  rw [sum_two]
  constructor
  · intro he
    have := stps_inj he
    have := congrArg (fun x => crcSum xs ^^^ x) this
    simp at this
    rw [← BitVec.xor_assoc] at this
    simpa using this
  · intro he
    rw [he]
    simp [stps_zero]
theorem sum_sealed (xs : List (BitVec 8)) : crcSum (sealed xs) = 0#16 := (sum_zero_iff _ _ _).2 (cat_hilo _)
theorem cat_toNat (h l : BitVec 8) : (cat h l).toNat = h.toNat * 256 + l.toNat := by
  have h1 := h.isLt
  have h2 := l.isLt
  have hh : (wide h <<< 8).toNat = h.toNat * 256 := by
    simp [wide, Nat.shiftLeft_eq]
    omega
  have hl : (wide l).toNat = l.toNat := by
    simp [wide]
    omega
  unfold cat
  rw [BitVec.toNat_xor, hh, hl, xor_parts _ _ (by omega)]

/-- One bit of a row of bytes is turned: bit k, counted from the highest of the first byte on. -/
def flip1 (xs : List (BitVec 8)) (k : Nat) : List (BitVec 8) := xs.modify (k / 8) (· ^^^ (128#8 >>> (k % 8)))

theorem stps_one : ∀ j : Nat, j < 8 → stps 8 (wide (128#8 >>> j) <<< 8) = stps (8 - j) 0x8000#16 := by decide +kernel
theorem crcByte_turn (s : BitVec 16) (x e : BitVec 8) : crcByte s (x ^^^ e) = crcByte s x ^^^ stps 8 (wide e <<< 8) := by
  unfold crcByte
  rw [wide_xor, BitVec.shiftLeft_xor_distrib, ← BitVec.xor_assoc, stps_xor]
theorem length_flip1 (xs : List (BitVec 8)) (k : Nat) : (flip1 xs k).length = xs.length := by simp [flip1]
theorem crcAdd_flip1 : ∀ (xs : List (BitVec 8)) (k : Nat) (s : BitVec 16), k < 8 * xs.length → crcAdd s (flip1 xs k) = crcAdd s xs ^^^ stps (8 * xs.length - k) 0x8000#16
  | [], k, s, h => by simp at h
  | x :: xs, k, s, h => by
    by_cases h0 : k < 8
    · have hd : k / 8 = 0 := by omega
      have hm : k % 8 = k := by omega
      unfold flip1
      rw [hd, hm]
      simp only [List.modify_zero_cons, crcAdd_cons]
      rw [crcByte_turn, crcAdd_turn, stps_one k h0, ← stps_add]
      congr 2
      simp; omega
    · have hd : k / 8 = (k - 8) / 8 + 1 := by omega
      have hm : k % 8 = (k - 8) % 8 := by omega
      have ih := crcAdd_flip1 xs (k - 8) (crcByte s x) (by simp at h; omega)
      unfold flip1 at ih ⊢
      rw [hd, hm]
      simp only [List.modify_succ_cons, crcAdd_cons]
      rw [ih]
      congr 2
      simp; omega

/-- The first n bits of a mask, the lowest first, as sixteen bits, the highest first. -/
def rev16 (m : Nat) : Nat → BitVec 16
  | 0 => 0#16
  | n + 1 => rev16 m n ^^^ (if m.testBit n then 0x8000#16 >>> n else 0#16)
/-- The first n bits of a mask are turned, from bit 'at' on. -/
def flips (xs : List (BitVec 8)) (p m : Nat) : Nat → List (BitVec 8)
  | 0 => xs
  | n + 1 => if m.testBit n then flip1 (flips xs p m n) (p + n) else flips xs p m n
theorem length_flips (xs : List (BitVec 8)) (p m n : Nat) : (flips xs p m n).length = xs.length := by
  induction n with
  | zero => rfl
  | succ n ih => unfold flips; split <;> simp [length_flip1, ih]
theorem stps_shift : ∀ n : Nat, n < 16 → stps n (0x8000#16 >>> n) = 0x8000#16 := by decide +kernel
theorem crcAdd_flips (xs : List (BitVec 8)) (p m : Nat) (s : BitVec 16) (n : Nat) (hn : n ≤ 16) (hp : p + n ≤ 8 * xs.length) : crcAdd s (flips xs p m n) = crcAdd s xs ^^^ stps (8 * xs.length - p) (rev16 m n) := by
  induction n with
  | zero => simp [flips, rev16, stps_zero]
  | succ n ih =>
    have ih := ih (by omega) (by omega)
    unfold flips rev16
    by_cases hb : m.testBit n
    · rw [if_pos hb, if_pos hb, crcAdd_flip1 _ _ _ (by rw [length_flips]; omega), ih, stps_xor, ← BitVec.xor_assoc, length_flips]
      congr 1
      have e : 8 * xs.length - p = (8 * xs.length - (p + n)) + n := by omega
      rw [e, stps_add _ n (0x8000#16 >>> n), stps_shift n (by omega)]
    · rw [if_neg hb, if_neg hb, ih]
      simp
theorem rev16_bit (m : Nat) : ∀ (n : Nat), n ≤ 16 → ∀ j, j < 16 → (rev16 m n).getLsbD (15 - j) = (decide (j < n) && m.testBit j)
  | 0, _, j, _ => by simp [rev16]
  | n + 1, hn, j, hj => by
    unfold rev16
    have ih := rev16_bit m n (by omega) j hj
    rw [BitVec.getLsbD_xor, ih]
    have hs : (0x8000#16 >>> n).getLsbD (15 - j) = decide (j = n) := by
      have : ∀ n : Nat, n < 16 → ∀ j : Nat, j < 16 → (0x8000#16 >>> n).getLsbD (15 - j) = decide (j = n) := by decide +kernel
      exact this n (by omega) j hj
    by_cases hb : m.testBit n
    · rw [if_pos hb, hs]
      by_cases he : j = n
      · subst he; simp [hb]
      · have : (j < n + 1) = (j < n) := by simp; omega
        simp [he, this]
    · rw [if_neg hb]
      by_cases he : j = n
      · subst he; simp [hb]
      · have : (j < n + 1) = (j < n) := by simp; omega
        simp [this]
theorem rev16_ne {m : Nat} (h0 : m ≠ 0) (h1 : m < 65536) : rev16 m 16 ≠ 0#16 := by
  intro h
  apply h0
  apply Nat.eq_of_testBit_eq
  intro j
  by_cases hj : j < 16
  · have := rev16_bit m 16 (by omega) j hj
    rw [h] at this
    simp [hj] at this
    simp [this]
  · rw [Nat.testBit_lt_two_pow (Nat.lt_of_lt_of_le (show m < 2 ^ 16 from h1) (Nat.pow_le_pow_right (n := 2) (by omega) (by omega)))]
    simp
/-- What was sealed, and then turned within sixteen bits, does not sum to nothing. -/
theorem sum_flips_ne (xs : List (BitVec 8)) (p m : Nat) (h0 : m ≠ 0) (h1 : m < 65536) (hp : p + 16 ≤ 8 * xs.length) : crcSum (flips xs p m 16) ≠ crcSum xs := by
  intro h
  unfold crcSum at h
  rw [crcAdd_flips xs p m _ 16 (by omega) hp] at h
  have h2 := congrArg (fun x => crcAdd 0xffff#16 xs ^^^ x) h
  simp only [← BitVec.xor_assoc, BitVec.xor_self, BitVec.zero_xor] at h2
  exact rev16_ne h0 h1 (stps_inj h2)
end Go.Proofs.YtekackglcapppaaGreatDoor
/-
  Sums of sixteen bits as the program's numbers: facts that name no function.
-/
namespace Go.Proofs.YtekackglcapppaaGreatDoor
open Go.RowKit


theorem ofInt16 (a : Nat) (ha : a < 65536) : (BitVec.ofInt 16 (a : Int)).toNat = a := by
  rw [BitVec.ofInt_natCast, BitVec.toNat_ofNat]; exact Nat.mod_eq_of_lt (by omega)
theorem wrap16 (n : Int) : IntKind.u16.wrap n = n % 65536 := by simp [IntKind.wrap, IntKind.bits, IntKind.signed]
theorem xor16 (a b : Nat) (ha : a < 65536) (hb : b < 65536) : bits .xor .u16 (a : Int) (b : Int) = ((a ^^^ b : Nat) : Int) := by
  have hx : a ^^^ b < 2 ^ 16 := Nat.xor_lt_two_pow (by omega) (by omega)
  show IntKind.u16.wrap ((BitVec.ofInt 16 (a : Int) ^^^ BitVec.ofInt 16 (b : Int)).toNat : Int) = _
  rw [BitVec.toNat_xor, ofInt16 a ha, ofInt16 b hb, wrap16]
  omega
theorem and16 (a b : Nat) (ha : a < 65536) (hb : b < 65536) : bits .and .u16 (a : Int) (b : Int) = ((a &&& b : Nat) : Int) := by
  have hx : a &&& b < 2 ^ 16 := Nat.and_lt_two_pow _ (by omega)
  show IntKind.u16.wrap ((BitVec.ofInt 16 (a : Int) &&& BitVec.ofInt 16 (b : Int)).toNat : Int) = _
  rw [BitVec.toNat_and, ofInt16 a ha, ofInt16 b hb, wrap16]
  omega
theorem or16 (a b : Nat) (ha : a < 65536) (hb : b < 65536) : bits .or .u16 (a : Int) (b : Int) = ((a ||| b : Nat) : Int) := by
  have hx : a ||| b < 2 ^ 16 := Nat.or_lt_two_pow (by omega) (by omega)
  show IntKind.u16.wrap ((BitVec.ofInt 16 (a : Int) ||| BitVec.ofInt 16 (b : Int)).toNat : Int) = _
  rw [BitVec.toNat_or, ofInt16 a ha, ofInt16 b hb, wrap16]
  omega
theorem high16 (r : BitVec 16) : r.msb = decide (32768 ≤ r.toNat) := by
  rw [BitVec.msb_eq_decide]
theorem and_high (r : BitVec 16) : bits .and .u16 (r.toNat : Int) 32768 = if r.msb then 32768 else 0 := by
  have h := r.isLt
  rw [show (32768 : Int) = ((32768 : Nat) : Int) from rfl, and16 _ _ h (by omega)]
  have e : r.toNat &&& 32768 = 2 ^ 15 * (r.toNat.testBit 15).toNat := by
    apply Nat.eq_of_testBit_eq
    intro j
    have hb : Nat.testBit 32768 j = decide (15 = j) := Nat.testBit_two_pow (n := 15) (m := j)
    have hc : Nat.testBit (2 ^ 15 * 1) j = decide (15 = j) := hb
    rw [Nat.testBit_and, hb]
    by_cases hj : 15 = j
    · subst hj
      cases h15 : r.toNat.testBit 15
      · simp
      · simp only [Bool.toNat_true, hc]; simp
    · cases h15 : r.toNat.testBit 15
      · simp [hj]
      · simp only [Bool.toNat_true, hc]; simp [hj]
  rw [e, high16]
  have := Nat.testBit_eq_decide_div_mod_eq (x := r.toNat) (i := 15)
  by_cases hb : 32768 ≤ r.toNat
  · have hd : r.toNat / 2 ^ 15 % 2 = 1 := by omega
    simp [this, hd, hb]
  · have hd : r.toNat / 2 ^ 15 % 2 = 0 := by omega
    simp [this, hd, hb]
theorem first16 (s : BitVec 16) (x : BitVec 8) : bits .xor .u16 (s.toNat : Int) ((x.toNat : Int) * 256) = ((s ^^^ (wide x <<< 8)).toNat : Int) := by
  have h1 := s.isLt
  have h2 := x.isLt
  rw [show (x.toNat : Int) * 256 = ((x.toNat * 256 : Nat) : Int) by simp, xor16 _ _ h1 (by omega), BitVec.toNat_xor]
  congr 2
  simp [wide, Nat.shiftLeft_eq]
  omega
theorem stp_low {r : BitVec 16} (h : r.toNat < 32768) : ((stp r).toNat : Int) = (r.toNat : Int) * 2 := by
  have hm : r.msb = false := by rw [high16]; simp; omega
  unfold stp
  rw [hm]
  simp [Nat.shiftLeft_eq]
  omega
theorem stp_high {r : BitVec 16} (h : 32768 ≤ r.toNat) : ((stp r).toNat : Int) = bits .xor .u16 (IntKind.u16.wrap ((r.toNat : Int) * 2)) 4129 := by
  have h1 := r.isLt
  rw [wrap16]
  have hm : r.msb = true := by rw [high16]; simp; omega
  rw [show (r.toNat : Int) * 2 % 65536 = ((r.toNat * 2 % 65536 : Nat) : Int) by simp, show (4129 : Int) = ((4129 : Nat) : Int) from rfl, xor16 _ _ (by omega) (by omega)]
  unfold stp
  rw [hm, BitVec.toNat_xor]
  simp [Nat.shiftLeft_eq]


theorem crcAdd_next (s : BitVec 16) (xs : List (BitVec 8)) (k : Nat) (x : BitVec 8) (h : xs[k]? = some x) : crcAdd s (xs.take (k + 1)) = crcByte (crcAdd s (xs.take k)) x := by
  have : xs.take (k + 1) = xs.take k ++ [x] := by
    rw [List.take_add_one, h]; rfl
  rw [this, crcAdd_append]
  rfl

theorem ffff : (65535 : Int) = (((0xffff#16 : BitVec 16).toNat : Nat) : Int) := by decide


theorem hi_val (s : BitVec 16) : (s.toNat : Int) / 256 = ((hi s).toNat : Int) := by
  have := s.isLt
  simp [hi]
  omega
theorem lo_val (s : BitVec 16) : (s.toNat : Int) % 256 = ((lo s).toNat : Int) := by
  simp [lo]

theorem two_src (w : World) (s : BitVec 16) : Byts (w.alloc (.cells #[.int .u8 ((s.toNat : Int) / 256), .int .u8 ((s.toNat : Int) % 256)] 5)) (.slice (some ⟨w.heap.size, 0, none⟩) 2 2) [hi s, lo s] := by
  rw [hi_val, lo_val]
  exact (own_lit w w.heap.size [hi s, lo s] (Nat.le_refl _) (by unfold maxLen; simp)).byts

end Go.Proofs.YtekackglcapppaaGreatDoor
/-
  crc's sum of a byte, Add and Sum, by contract.
-/
namespace Go.Proofs.YtekackglcapppaaGreatDoor
open Go.RowKit

set_option maxHeartbeats 1000000 in
theorem byte_any (s : BitVec 16) (x : BitVec 8) (w : World) :
    Calls Tryz.prog 86 #[.int .u16 (s.toNat : Int), .int .u8 (x.toNat : Int)] w fun e w' => e = .returned (.int .u16 ((crcByte s x).toNat : Int)) ∧ w = w' := by
  have h1 := s.isLt
  have h2 := x.isLt
  have e0 := first16 s x
  have HC := Lib.hid (show crcByte s x = stps 8 (s ^^^ (wide x <<< 8)) from rfl)
  generalize s ^^^ (wide x <<< 8) = r0 at *
  go_enter Tryz.func86, Tryz.ntmps86
  go_wp2
  clear e0
  go_loop [0, 11] (fun t i => ∃ k : Nat, k ≤ 8 ∧ i = .int .i64 k ∧ t = .int .u16 ((stps k r0).toNat : Int)) (fun _ i => 8 - (intOf i).toNat)
  case atStart => exact ⟨0, by omega, rfl, rfl⟩
  case round =>
    obtain ⟨k, hk, rfl, rfl⟩ := hrel
    have hA := and_high (stps k r0)
    have hr := (stps k r0).isLt
    have HS := Lib.hid (show stps (k + 1) r0 = stp (stps k r0) from rfl)
    by_cases hlt : k < 8
    · generalize stps k r0 = r at *
      by_cases hm : 32768 ≤ r.toNat
      · have HN := Lib.hid (stp_high hm)
        have hb : r.msb = true := by rw [high16]; simp; omega
        simp only [hb, if_true] at hA
        clear hb
        go_wp2
        go_round
        case rel => exact ⟨k + 1, by omega, by go_num, by rw [HS.out, HN.out]⟩
        case measure => simp [intOf]; omega
      · have hm' : r.toNat < 32768 := by omega
        have HN := Lib.hid (stp_low hm')
        have hb : r.msb = false := by rw [high16]; simp; omega
        simp only [hb] at hA
        clear hb hm
        go_wp2
        go_round
        case rel => exact ⟨k + 1, by omega, by go_num, by rw [HS.out, HN.out]⟩
        case measure => simp [intOf]; omega
    · go_wp2
      go_ret
      obtain rfl : k = 8 := by omega
      exact ⟨by rw [HC.out]; rfl, rfl⟩

set_option maxHeartbeats 1000000 in
theorem add_any (s : BitVec 16) (v : Value) (xs : List (BitVec 8)) (w : World) (hv : Byts w v xs) (hl : xs.length ≤ maxLen) :
    Calls Tryz.prog 82 #[.int .u16 (s.toNat : Int), v] w fun e w' => e = .returned (.int .u16 ((crcAdd s xs).toNat : Int)) ∧ w = w' := by
  obtain ⟨av, cv, ev⟩ := hv.len
  have HV := Lib.hid hv
  clear hv
  subst ev
  unfold maxLen at hl
  go_enter Tryz.func82, Tryz.ntmps82
  go_wp2
  go_loop [0, 9] (fun t i => ∃ k : Nat, k ≤ xs.length ∧ i = .int .i64 k ∧ t = .int .u16 ((crcAdd s (xs.take k)).toNat : Int)) (fun _ i => xs.length - (intOf i).toNat)
  case atStart => exact ⟨0, by omega, rfl, rfl⟩
  case round =>
    obtain ⟨k, hk, rfl, rfl⟩ := hrel
    by_cases hlt : k < xs.length
    · obtain ⟨g, o, c, x, e1, hc1, hg1, hx, h1⟩ := HV.out.at_ k hlt
      have HS := Lib.hid (crcAdd_next s xs k x hx)
      clear hx
      simp only [Value.slice.injEq] at e1
      obtain ⟨rfl, _, rfl⟩ := e1
      generalize crcAdd s (xs.take k) = r at *
      go_wp2_with fail
      (with_reducible refine (byte_any _ _ _).mono ?_)
      rintro e w1 ⟨rfl, rfl⟩
      go_wp2_with fail
      go_round
      case rel => exact ⟨k + 1, by omega, by go_num, by rw [HS.out]⟩
      case measure => simp [intOf]; omega
    · go_wp2
      go_ret
      obtain rfl : k = xs.length := by omega
      exact ⟨by rw [List.take_length]; rfl, rfl⟩

theorem sum_any (v : Value) (xs : List (BitVec 8)) (w : World) (hv : Byts w v xs) (hl : xs.length ≤ maxLen) :
    Calls Tryz.prog 75 #[v] w fun e w' => e = .returned (.int .u16 ((crcSum xs).toNat : Int)) ∧ w = w' := by
  have HV := Lib.hid hv
  clear hv
  have HA := Lib.hid (add_any 0xffff#16 v xs w HV.out hl)
  rw [← ffff] at HA
  go_enter Tryz.func75, Tryz.ntmps75
  go_wp2_with fail
  (with_reducible refine HA.out.mono ?_)
  rintro e w1 ⟨rfl, rfl⟩
  go_wp2_with fail
  go_ret
  exact ⟨rfl, rfl⟩
end Go.Proofs.YtekackglcapppaaGreatDoor
/-
  crc.Open and the document's own, by contract.
-/
namespace Go.Proofs.YtekackglcapppaaGreatDoor
open Go.RowKit

theorem below_drewN {B : Nat} {a w : World} (h : Below B a w) (n : Nat) : Below B a (w.drewN n) := ⟨h.os, h.tape, h.output, h.size, h.block⟩
theorem Byts.drewN {w : World} {v : Value} {xs : List (BitVec 8)} (h : Byts w v xs) (n : Nat) : Byts (w.drewN n) v xs := h
theorem or_cat (h l : BitVec 8) : bits .or .u16 ((h.toNat : Int) * 256) (l.toNat : Int) = ((cat h l).toNat : Int) := by
  have h1 := h.isLt
  have h2 := l.isLt
  rw [show (h.toNat : Int) * 256 = ((h.toNat * 256 : Nat) : Int) by simp, or16 _ _ (by omega) (by omega), or_parts _ _ (by omega), cat_toNat]

theorem neq16 {a b : BitVec 16} (h : a ≠ b) : ((a.toNat : Int) != (b.toNat : Int)) = true := by
  simp
  intro he
  exact h (BitVec.eq_of_toNat_eq (by omega))

theorem short_no (v : Value) (xs : List (BitVec 8)) (w : World) (hv : Byts w v xs) (hl : xs.length < 2) :
    Calls Tryz.prog 78 #[v] w fun e w' => e = .returned (.tuple #[.slice none 0 0, .bool false]) ∧ Below w.heap.size w w' := by
  obtain ⟨av, cv, ev⟩ := hv.len
  clear hv
  subst ev
  go_enter Tryz.func78, Tryz.ntmps78
  go_wp2
  go_ret2
  exact ⟨rfl, Below.refl _ _⟩

set_option maxHeartbeats 1000000 in
theorem other_no (g o n m cap : Nat) (xs : List (BitVec 8)) (h l : BitVec 8) (w : World) (hv : Byts w (.slice (some ⟨g, o, none⟩) n cap) xs) (hh : w.cell? ⟨g, o + n, none⟩ = some (.int .u8 (h.toNat : Int))) (hl : w.cell? ⟨g, o + (n + 1), none⟩ = some (.int .u8 (l.toNat : Int)))
    (hx : xs.length ≤ 140737488351232) (hm : m = n + 2) (hn : n ≤ 140737488351232) (hc : m ≤ cap) (hne : cat h l ≠ crcSum xs) :
    Calls Tryz.prog 78 #[.slice (some ⟨g, o, none⟩) m cap] w fun e w' => e = .returned (.tuple #[.slice none 0 0, .bool false]) ∧ Below w.heap.size w w' := by
  have hor := or_cat h l
  have h1 := h.isLt
  have h2 := l.isLt
  have b1 : (n : Int) < (m : Int) := by omega
  have b2 : (n : Int) + 1 < (m : Int) := by omega
  have b3 : n ≤ cap := by omega
  have e1 : (m : Int) - 2 = (n : Int) := by omega
  have e2 : IntKind.i64.wrap ((n : Int) + 1) = (n : Int) + 1 := IntWalk.i64_in _ (by omega)
  have e3 : ((n : Int) + 1).toNat = n + 1 := by omega
  have e4 : (0 : Int) ≤ (n : Int) + 1 := by omega
  have HM := Lib.hid hm
  have HV := Lib.hid hv
  have HE := Lib.hid (neq16 hne)
  clear hm hv hne
  go_enter Tryz.func78, Tryz.ntmps78
  go_wp2
  go_quiet (fail)
  go_wp2_with fail
  (with_reducible refine (sum_any _ xs _ (HV.out.drewN _) (by unfold maxLen; omega)).mono ?_)
  rintro e w1 ⟨rfl, rfl⟩
  have he := HE.out
  go_wp2_with fail
  go_ret2
  exact ⟨rfl, below_drewN (Below.refl _ _) _⟩

theorem own_block {w : World} {B g : Nat} {xs : List (BitVec 8)} (h : w.heap[g]? = some (.cells (xs.map cel).toArray 5 (0, 0))) (hB : B ≤ g) (hm : xs.length ≤ maxLen) : Own w B (.slice (some ⟨g, 0, none⟩) xs.length xs.length) xs :=
  ⟨by simp, .inr ⟨g, xs.length, _, rfl, hB, h, Nat.le_refl _, hm, by simp, by simp [List.take_of_length_le]⟩⟩
theorem szU8 : (Tryz.prog.info? 5).map (·.size) = some 1 := by kernel_rfl
theorem splice_all {α : Type} (a b : List α) (h : a.length = b.length) : splice a 0 b = b := by
  simp [splice, h]

set_option maxHeartbeats 1000000 in
set_option maxRecDepth 10000 in
theorem open_yes (g o n m cap : Nat) (xs : List (BitVec 8)) (h l : BitVec 8) (w : World) (hx : xs.length = n) (hv : Byts w (.slice (some ⟨g, o, none⟩) n cap) xs) (hcs : ∀ (j : Nat) x, xs[j]? = some x → w.cell? ⟨g, o + j, none⟩ = some (cel x)) (hh : w.cell? ⟨g, o + n, none⟩ = some (.int .u8 (h.toNat : Int))) (hl : w.cell? ⟨g, o + (n + 1), none⟩ = some (.int .u8 (l.toNat : Int)))
    (hm : m = n + 2) (hn : n ≤ 140737488351232) (hc : m ≤ cap) (hne : cat h l = crcSum xs) :
    Calls Tryz.prog 78 #[.slice (some ⟨g, o, none⟩) m cap] w fun e w' => ∃ r, e = .returned (.tuple #[r, .bool true]) ∧ Own w' w.heap.size r xs ∧ Below w.heap.size w w' := by
  have hor := or_cat h l
  have h1 := h.isLt
  have h2 := l.isLt
  have b1 : (n : Int) < (m : Int) := by omega
  have b2 : (n : Int) + 1 < (m : Int) := by omega
  have b3 : n ≤ cap := by omega
  have e1 : (m : Int) - 2 = (n : Int) := by omega
  have e2 : IntKind.i64.wrap ((n : Int) + 1) = (n : Int) + 1 := IntWalk.i64_in _ (by omega)
  have e3 : ((n : Int) + 1).toNat = n + 1 := by omega
  have e4 : (0 : Int) ≤ (n : Int) + 1 := by omega
  obtain ⟨M, hM, _, hmk⟩ := run_make_u8 n (by omega) n (by omega)
  have HM := Lib.hid hm
  have HV := Lib.hid hv
  have HX := Lib.hid hx
  have HC := Lib.hid hcs
  have HMS := Lib.hid hM
  rw [hne] at hor
  clear hm hv hne hx hcs hM
  go_enter Tryz.func78, Tryz.ntmps78
  go_wp2
  go_quiet (fail)
  have HXX := Lib.hid (show xs.length ≤ maxLen by rw [HX.out]; unfold maxLen; omega)
  have HN1 := Lib.hid (show (xs.map cel).length = Nat.min m n by rw [List.length_map, HX.out, HM.out]; simp)
  have HN2 := Lib.hid (show 0 + (xs.map cel).length ≤ M.toList.length by rw [List.length_map, HX.out, Array.length_toList, HMS.out]; omega)
  have HN3 := Lib.hid (show M.toList.length = (xs.map cel).length by rw [List.length_map, HX.out, Array.length_toList, HMS.out])
  clear hor hh hl b1 b2 e2 e3 e4 e1 HM
  go_wp2_with fail
  (with_reducible refine (sum_any _ xs _ (HV.out.drewN _) HXX.out).mono ?_)
  rintro e w1 ⟨rfl, rfl⟩
  have he : (((crcSum xs).toNat : Int) != ((crcSum xs).toNat : Int)) = false := by simp
  have HB : Hid (∀ k, Below w.heap.size w ((w.drewN k).alloc (.cells M 5))) := fun k => (below_drewN (Below.refl w.heap.size w) k).alloc (Nat.le_refl _) _
  have HG : Hid (∀ k, ((w.drewN k).alloc (.cells M 5)).heap[w.heap.size]? = some (.cells M.toList.toArray 5 (0, 0))) := fun k => by
    have := heap_alloc_new (w.drewN k) (.cells M 5)
    simpa using this
  have HS : Hid (∀ k, ∀ (j : Nat) v, (xs.map cel)[j]? = some v → ((w.drewN k).alloc (.cells M 5)).cell? ((⟨g, o, none⟩ : Addr).add j) = some v) := fun k j v hj => by
    rw [List.getElem?_map] at hj
    cases hy : xs[j]? with
    | none => rw [hy] at hj; cases hj
    | some y =>
      rw [hy] at hj
      cases hj
      have hc := HC.out j y hy
      rw [plain_add]
      exact (Below.cell (HB.out k) (p := ⟨g, o + j, none⟩) (lt_of_cell hc)).trans hc
  go_wp2_with ((refine wpList_copy_splice (o := ⟨some 35, _, _, _, _, _⟩) rfl _ _ 22 22 rfl 5 Tryz.underlying22 szU8 _ _ _ _ _ _ rfl rfl w.heap.size 0 M.toList 5 (HG.out _) (xs.map cel) HN1.out (fun _ => ⟨rfl, _, rfl, HS.out _⟩) HN2.out (cel_one xs) w.heap.size w (HB.out _) (Nat.le_refl _) ?_; intro w2 hg2 hb2))
  go_ret2
  refine ⟨_, rfl, ?_, hb2⟩
  have hg := hg2.out
  rw [splice_all _ _ HN3.out] at hg
  have := own_block hg (Nat.le_refl _) HXX.out
  rwa [HX.out] at this
end Go.Proofs.YtekackglcapppaaGreatDoor
/-
  What crc.Open and the document's own answer of any bytes.
-/
namespace Go.Proofs.YtekackglcapppaaGreatDoor
open Go.RowKit

/-- Are the bytes a Seal? -/
def opens (xs : List (BitVec 8)) : Bool := decide (2 ≤ xs.length) && decide (crcSum xs = 0#16)
def front (xs : List (BitVec 8)) : List (BitVec 8) := xs.take (xs.length - 2)

theorem split_two {xs : List (BitVec 8)} (h : 2 ≤ xs.length) : ∃ f a b, xs = f ++ [a, b] := by
  have hl : (xs.drop (xs.length - 2)).length = 2 := by simp; omega
  rcases ht : xs.drop (xs.length - 2) with _ | ⟨a, _ | ⟨b, _ | ⟨c, t⟩⟩⟩
  · rw [ht] at hl; simp at hl
  · rw [ht] at hl; simp at hl
  · refine ⟨xs.take (xs.length - 2), a, b, ?_⟩
    rw [← ht]
    exact (List.take_append_drop _ _).symm
  · rw [ht] at hl; simp at hl
theorem front_two (f : List (BitVec 8)) (a b : BitVec 8) : front (f ++ [a, b]) = f := by simp [front]
theorem cat_inj {h l : BitVec 8} {s : BitVec 16} (e : cat h l = s) : h = hi s ∧ l = lo s := by
  have h1 := cat_toNat h l
  have h2 := l.isLt
  have h3 := h.isLt
  rw [e] at h1
  constructor
  · apply BitVec.eq_of_toNat_eq
    simp [hi, h1]
    omega
  · apply BitVec.eq_of_toNat_eq
    simp [lo, h1]
    omega
theorem opens_two (f : List (BitVec 8)) (a b : BitVec 8) : opens (f ++ [a, b]) = decide (cat a b = crcSum f) := by
  have := sum_zero_iff f a b
  simp [opens, this]
theorem opens_sealed (xs : List (BitVec 8)) : opens (sealed xs) = true := by
  unfold sealed
  rw [opens_two]
  simp [cat_hilo]
theorem front_sealed (xs : List (BitVec 8)) : front (sealed xs) = xs := by
  unfold sealed
  exact front_two _ _ _
theorem sealed_front {xs : List (BitVec 8)} (h : opens xs = true) : sealed (front xs) = xs := by
  have h2 : 2 ≤ xs.length := by simp [opens] at h; exact h.1
  obtain ⟨f, a, b, rfl⟩ := split_two h2
  rw [opens_two] at h
  have h := of_decide_eq_true h
  rw [front_two]
  unfold sealed
  obtain ⟨e1, e2⟩ := cat_inj h
  rw [← e1, ← e2]
theorem length_front {xs : List (BitVec 8)} : (front xs).length ≤ xs.length := by simp [front]

/-- A slice that holds f and two bytes more. -/
theorem Byts.two {w : World} {v : Value} {f : List (BitVec 8)} {a b : BitVec 8} (h : Byts w v (f ++ [a, b])) :
    ∃ g o cap, v = .slice (some ⟨g, o, none⟩) (f.length + 2) cap ∧ f.length + 2 ≤ cap ∧ Byts w (.slice (some ⟨g, o, none⟩) f.length cap) f ∧ (∀ (j : Nat) x, f[j]? = some x → w.cell? ⟨g, o + j, none⟩ = some (cel x)) ∧
      w.cell? ⟨g, o + f.length, none⟩ = some (.int .u8 (a.toNat : Int)) ∧ w.cell? ⟨g, o + (f.length + 1), none⟩ = some (.int .u8 (b.toNat : Int)) := by
  rcases h with ⟨h, _⟩ | ⟨g, o, cap, hv, hc, h⟩
  · simp at h
  · have hc' : f.length + 2 ≤ cap := by simpa using hc
    have hf : ∀ (j : Nat) x, f[j]? = some x → w.cell? ⟨g, o + j, none⟩ = some (cel x) := fun j x hx => by
      have hj : j < f.length := by
        rcases Nat.lt_or_ge j f.length with h1 | h1
        · exact h1
        · rw [List.getElem?_eq_none h1] at hx; cases hx
      exact h j x (by rw [List.getElem?_append_left hj]; exact hx)
    refine ⟨g, o, cap, by simpa using hv, hc', .inr ⟨g, o, cap, rfl, by omega, hf⟩, hf, h _ a ?_, h _ b ?_⟩
    · rw [List.getElem?_append_right (by omega)]; simp
    · rw [List.getElem?_append_right (by omega)]; simp

theorem open_t (v : Value) (xs : List (BitVec 8)) (w : World) (hv : Byts w v xs) (hl : xs.length ≤ 140737488351232) (ho : opens xs = true) :
    Calls Tryz.prog 78 #[v] w fun e w' => ∃ r, e = .returned (.tuple #[r, .bool true]) ∧ Own w' w.heap.size r (front xs) ∧ Below w.heap.size w w' := by
  have h2 : 2 ≤ xs.length := by simp [opens] at ho; exact ho.1
  obtain ⟨f, a, b, rfl⟩ := split_two h2
  rw [opens_two] at ho
  have ho := of_decide_eq_true ho
  obtain ⟨g, o, cap, rfl, hc, hf, hcs, hh, hb⟩ := hv.two
  rw [front_two]
  exact open_yes g o f.length (f.length + 2) cap f a b w rfl hf hcs hh hb rfl (by simp at hl; omega) hc ho
theorem open_f (v : Value) (xs : List (BitVec 8)) (w : World) (hv : Byts w v xs) (hl : xs.length ≤ 140737488351232) (ho : opens xs = false) :
    Calls Tryz.prog 78 #[v] w fun e w' => e = .returned (.tuple #[.slice none 0 0, .bool false]) ∧ Below w.heap.size w w' := by
  rcases Nat.lt_or_ge xs.length 2 with h2 | h2
  · exact short_no v xs w hv h2
  · obtain ⟨f, a, b, rfl⟩ := split_two h2
    rw [opens_two] at ho
    have ho := of_decide_eq_false ho
    obtain ⟨g, o, cap, rfl, hc, hf, hcs, hh, hb⟩ := hv.two
    simp at hl
    exact other_no g o f.length (f.length + 2) cap f a b w hf hh hb (by omega) rfl (by omega) hc ho
end Go.Proofs.YtekackglcapppaaGreatDoor
/-
  crc.Seal, by contract.
-/
namespace Go.Proofs.YtekackglcapppaaGreatDoor
open Go.RowKit

set_option maxHeartbeats 1000000 in
theorem seal_any (v : Value) (xs : List (BitVec 8)) (w : World) (hv : Byts w v xs) (hl : xs.length ≤ 1000000) :
    Calls Tryz.prog 61 #[v] w fun e w' => ∃ r, e = .returned r ∧ Own w' w.heap.size r (sealed xs) ∧ Below w.heap.size w w' := by
  obtain ⟨av, cv, ev⟩ := hv.len
  obtain ⟨M, hM, _, hmk⟩ := run_make_u8 (xs.length + 2) (by omega) 0 (by omega)
  have HM := Lib.hid hM
  have HV := Lib.hid hv
  have hs := (crcSum xs).isLt
  have HX := Lib.hid (show sealed xs = xs ++ [hi (crcSum xs), lo (crcSum xs)] from rfl)
  clear hv hM
  subst ev
  rw [show (((0 : Nat) : Int)) = 0 from rfl, show ((xs.length + 2 : Nat) : Int) = (xs.length : Int) + 2 by simp] at hmk
  go_enter Tryz.func61, Tryz.ntmps61
  go_wp2_with fail
  (with_reducible refine (sum_any _ xs _ HV.out (by unfold maxLen; omega)).mono ?_)
  rintro e w1 ⟨rfl, rfl⟩
  generalize crcSum xs = s at *
  have HO := Lib.hid (own_made w w.heap.size M _ HM.out (Nat.le_refl _) (by unfold maxLen; omega))
  have HB := Lib.hid ((Below.refl w.heap.size w).alloc (Nat.le_refl _) (.cells M 5))
  have HV1 := Lib.hid (HV.out.below HB.out)
  have tok1 : True := trivial
  have hsz := HB.out.size
  go_wp2_with (first
    | (at_builtin; have _t := tok1; refine wpList_app rfl _ _ rfl w.heap.size _ [] rfl HO.out _ xs rfl HV1.out (by simp; omega) hsz ?_; intro v1 w1 hown1 hg1; have HO1 := Lib.hid hown1; have HB1 := Lib.hid (HO.out.grown HB.out hg1); have hsz1 := HB1.out.size; clear hown1 hg1 tok1 _t HO HB HV1 hsz hmk)
    | (at_builtin; refine wpList_app rfl _ _ rfl w.heap.size _ _ rfl (HO1.out.alloc _) _ [hi s, lo s] rfl (two_src _ _) (by simp; omega) (le_alloc hsz1 _) ?_; intro v2 w2 hown2 hg2; have HO2 := Lib.hid hown2; have HB2 := Lib.hid ((HO1.out.alloc _).grown (below_alloc HB1.out _) hg2); clear hown2 hg2 HO1 HB1 hsz1))
  go_ret
  exact ⟨_, rfl, by rw [HX.out]; simpa using HO2.out, HB2.out⟩

end Go.Proofs.YtekackglcapppaaGreatDoor
/-
  The document's own sum of a byte, Add, Sum and Seal, by contract.
-/
namespace Go.Proofs.YtekackglcapppaaGreatDoor
open Go.RowKit

set_option maxHeartbeats 1000000 in
theorem one_any (s : BitVec 16) (x : BitVec 8) (w : World) :
    Calls Tryz.prog 83 #[.int .u16 (s.toNat : Int), .int .u8 (x.toNat : Int)] w fun e w' => e = .returned (.int .u16 ((crcByte s x).toNat : Int)) ∧ w = w' := by
  have h1 := s.isLt
  have h2 := x.isLt
  have e0 := first16 s x
  have HC := Lib.hid (show crcByte s x = stps 8 (s ^^^ (wide x <<< 8)) from rfl)
  generalize s ^^^ (wide x <<< 8) = r0 at *
  go_enter Tryz.func83, Tryz.ntmps83
  go_wp2
  clear e0
  go_loop [0, 5] (fun t i => ∃ k : Nat, k ≤ 8 ∧ i = .int .i64 k ∧ t = .int .u16 ((stps k r0).toNat : Int)) (fun _ i => 8 - (intOf i).toNat)
  case atStart => exact ⟨0, by omega, rfl, rfl⟩
  case round =>
    obtain ⟨k, hk, rfl, rfl⟩ := hrel
    have hr := (stps k r0).isLt
    have HS := Lib.hid (show stps (k + 1) r0 = stp (stps k r0) from rfl)
    by_cases hlt : k < 8
    · generalize stps k r0 = r at *
      by_cases hm : 32768 ≤ r.toNat
      · have HN := Lib.hid (stp_high hm)
        have hd : decide ((32768 : Int) ≤ (r.toNat : Int)) = true := by simp; omega
        go_wp2
        go_round
        case rel => exact ⟨k + 1, by omega, by go_num, by rw [HS.out, HN.out]⟩
        case measure => simp [intOf]; omega
      · have hm' : r.toNat < 32768 := by omega
        have HN := Lib.hid (stp_low hm')
        have hd : decide ((32768 : Int) ≤ (r.toNat : Int)) = false := by simp; omega
        clear hm
        go_wp2
        go_round
        case rel => exact ⟨k + 1, by omega, by go_num, by rw [HS.out, HN.out]⟩
        case measure => simp [intOf]; omega
    · go_wp2
      go_ret
      obtain rfl : k = 8 := by omega
      exact ⟨by rw [HC.out]; rfl, rfl⟩
set_option maxHeartbeats 1000000 in
theorem radd_any (s : BitVec 16) (v : Value) (xs : List (BitVec 8)) (w : World) (hv : Byts w v xs) (hl : xs.length ≤ maxLen) :
    Calls Tryz.prog 76 #[.int .u16 (s.toNat : Int), v] w fun e w' => e = .returned (.int .u16 ((crcAdd s xs).toNat : Int)) ∧ w = w' := by
  obtain ⟨av, cv, ev⟩ := hv.len
  have HV := Lib.hid hv
  clear hv
  subst ev
  unfold maxLen at hl
  go_enter Tryz.func76, Tryz.ntmps76
  go_wp2
  go_loop [0, 5] (fun t i => ∃ k : Nat, k ≤ xs.length ∧ i = .int .i64 k ∧ t = .int .u16 ((crcAdd s (xs.take k)).toNat : Int)) (fun _ i => xs.length - (intOf i).toNat)
  case atStart => exact ⟨0, by omega, rfl, rfl⟩
  case round =>
    obtain ⟨k, hk, rfl, rfl⟩ := hrel
    by_cases hlt : k < xs.length
    · obtain ⟨g, o, c, x, e1, hc1, hg1, hx, h1⟩ := HV.out.at_ k hlt
      have HS := Lib.hid (crcAdd_next s xs k x hx)
      clear hx
      simp only [Value.slice.injEq] at e1
      obtain ⟨rfl, _, rfl⟩ := e1
      generalize crcAdd s (xs.take k) = r at *
      go_wp2_with fail
      (with_reducible refine (one_any _ _ _).mono ?_)
      rintro e w1 ⟨rfl, rfl⟩
      go_wp2_with fail
      go_round
      case rel => exact ⟨k + 1, by omega, by go_num, by rw [HS.out]⟩
      case measure => simp [intOf]; omega
    · go_wp2
      go_ret
      obtain rfl : k = xs.length := by omega
      exact ⟨by rw [List.take_length]; rfl, rfl⟩

theorem rsum_any (v : Value) (xs : List (BitVec 8)) (w : World) (hv : Byts w v xs) (hl : xs.length ≤ maxLen) :
    Calls Tryz.prog 63 #[v] w fun e w' => e = .returned (.int .u16 ((crcSum xs).toNat : Int)) ∧ w = w' := by
  have HV := Lib.hid hv
  clear hv
  have HA := Lib.hid (radd_any 0xffff#16 v xs w HV.out hl)
  rw [← ffff] at HA
  go_enter Tryz.func63, Tryz.ntmps63
  go_wp2_with fail
  (with_reducible refine HA.out.mono ?_)
  rintro e w1 ⟨rfl, rfl⟩
  go_wp2_with fail
  go_ret
  exact ⟨rfl, rfl⟩
set_option maxHeartbeats 1000000 in
theorem rseal_any (v : Value) (xs : List (BitVec 8)) (w : World) (hv : Byts w v xs) (hl : xs.length ≤ 1000000) :
    Calls Tryz.prog 50 #[v] w fun e w' => ∃ r, e = .returned r ∧ Own w' w.heap.size r (sealed xs) ∧ Below w.heap.size w w' := by
  obtain ⟨av, cv, ev⟩ := hv.len
  have HV := Lib.hid hv
  have hs := (crcSum xs).isLt
  have HX := Lib.hid (show sealed xs = xs ++ [hi (crcSum xs), lo (crcSum xs)] from rfl)
  clear hv
  subst ev
  go_enter Tryz.func50, Tryz.ntmps50
  go_wp2_with fail
  (with_reducible refine (rsum_any _ xs _ HV.out (by unfold maxLen; omega)).mono ?_)
  rintro e w1 ⟨rfl, rfl⟩
  generalize crcSum xs = s at *
  have HO := Lib.hid (own_lit w w.heap.size [] (Nat.le_refl _) (by unfold maxLen; simp))
  have HB := Lib.hid ((Below.refl w.heap.size w).alloc (Nat.le_refl _) (.cells #[] 5))
  have HV1 := Lib.hid (HV.out.below HB.out)
  have tok1 : True := trivial
  have hsz := HB.out.size
  go_wp2_with (first
    | (at_builtin; have _t := tok1; refine wpList_app rfl _ _ rfl w.heap.size _ [] rfl HO.out _ xs rfl HV1.out (by simp; omega) hsz ?_; intro v1 w1 hown1 hg1; have HO1 := Lib.hid hown1; have HB1 := Lib.hid (HO.out.grown HB.out hg1); have hsz1 := HB1.out.size; clear hown1 hg1 tok1 _t HO HB HV1 hsz)
    | (at_builtin; refine wpList_app rfl _ _ rfl w.heap.size _ _ rfl (HO1.out.alloc _) _ [hi s, lo s] rfl (two_src _ _) (by simp; omega) (le_alloc hsz1 _) ?_; intro v2 w2 hown2 hg2; have HO2 := Lib.hid hown2; have HB2 := Lib.hid ((HO1.out.alloc _).grown (below_alloc HB1.out _) hg2); clear hown2 hg2 HO1 HB1 hsz1))
  go_ret
  exact ⟨_, rfl, by rw [HX.out]; simpa using HO2.out, HB2.out⟩
end Go.Proofs.YtekackglcapppaaGreatDoor
/-
  The document's own Open, by contract.
-/
namespace Go.Proofs.YtekackglcapppaaGreatDoor
open Go.RowKit

theorem rshort_no (v : Value) (xs : List (BitVec 8)) (w : World) (hv : Byts w v xs) (hl : xs.length < 2) :
    Calls Tryz.prog 69 #[v] w fun e w' => e = .returned (.tuple #[.slice none 0 0, .bool false]) ∧ Below w.heap.size w w' := by
  obtain ⟨av, cv, ev⟩ := hv.len
  clear hv
  subst ev
  go_enter Tryz.func69, Tryz.ntmps69
  go_wp2
  go_ret2
  exact ⟨rfl, Below.refl _ _⟩

theorem neq8 {a b : BitVec 8} (h : a ≠ b) : ((a.toNat : Int) != (b.toNat : Int)) = true := by
  simp
  intro he
  exact h (BitVec.eq_of_toNat_eq (by omega))
theorem eq8 (a : BitVec 8) : ((a.toNat : Int) != (a.toNat : Int)) = false := by simp

set_option maxHeartbeats 1000000 in
theorem rother_no (g o n m cap : Nat) (xs : List (BitVec 8)) (h l : BitVec 8) (w : World) (hv : Byts w (.slice (some ⟨g, o, none⟩) n cap) xs) (hh : w.cell? ⟨g, o + n, none⟩ = some (.int .u8 (h.toNat : Int))) (hl : w.cell? ⟨g, o + (n + 1), none⟩ = some (.int .u8 (l.toNat : Int)))
    (hx : xs.length ≤ 140737488351232) (hm : m = n + 2) (hn : n ≤ 140737488351232) (hc : m ≤ cap) (hne : cat h l ≠ crcSum xs) :
    Calls Tryz.prog 69 #[.slice (some ⟨g, o, none⟩) m cap] w fun e w' => e = .returned (.tuple #[.slice none 0 0, .bool false]) ∧ Below w.heap.size w w' := by
  have h1 := h.isLt
  have h2 := l.isLt
  have b1 : (n : Int) < (m : Int) := by omega
  have b2 : (n : Int) + 1 < (m : Int) := by omega
  have b3 : n ≤ cap := by omega
  have b4 : n < m := by omega
  have b5 : n + 1 < m := by omega
  have e1 : (m : Int) - 2 = (n : Int) := by omega
  have hs := (crcSum xs).isLt
  have v1 := hi_val (crcSum xs)
  have v2 := lo_val (crcSum xs)
  have HM := Lib.hid hm
  have HV := Lib.hid hv
  have hcase : h ≠ hi (crcSum xs) ∨ (h = hi (crcSum xs) ∧ l ≠ lo (crcSum xs)) := by
    by_cases ha : h = hi (crcSum xs)
    · refine .inr ⟨ha, fun hb => hne ?_⟩
      rw [ha, hb, cat_hilo]
    · exact .inl ha
  clear hm hv hne
  rcases hcase with ha | ⟨ha, hb⟩
  · have n1 := neq8 ha
    clear ha
    go_enter Tryz.func69, Tryz.ntmps69
    go_wp2_with fail
    (with_reducible refine (rsum_any _ xs _ HV.out (by unfold maxLen; omega)).mono ?_)
    rintro e w1 ⟨rfl, rfl⟩
    generalize crcSum xs = s at *
    go_wp2_with fail
    go_ret2
    exact ⟨rfl, Below.refl _ _⟩
  · have n1 := neq8 hb
    have n2 := eq8 (hi (crcSum xs))
    subst ha
    clear hb
    go_enter Tryz.func69, Tryz.ntmps69
    go_wp2_with fail
    (with_reducible refine (rsum_any _ xs _ HV.out (by unfold maxLen; omega)).mono ?_)
    rintro e w1 ⟨rfl, rfl⟩
    generalize crcSum xs = s at *
    go_wp2_with fail
    go_ret2
    exact ⟨rfl, Below.refl _ _⟩

set_option maxHeartbeats 1000000 in
theorem ropen_yes (g o n m cap : Nat) (xs : List (BitVec 8)) (w : World) (hx : xs.length = n) (hv : Byts w (.slice (some ⟨g, o, none⟩) n cap) xs) (hh : w.cell? ⟨g, o + n, none⟩ = some (.int .u8 ((hi (crcSum xs)).toNat : Int))) (hl : w.cell? ⟨g, o + (n + 1), none⟩ = some (.int .u8 ((lo (crcSum xs)).toNat : Int)))
    (hm : m = n + 2) (hn : n ≤ 140737488351232) (hc : m ≤ cap) :
    Calls Tryz.prog 69 #[.slice (some ⟨g, o, none⟩) m cap] w fun e w' => ∃ r, e = .returned (.tuple #[r, .bool true]) ∧ Own w' w.heap.size r xs ∧ Below w.heap.size w w' := by
  have b1 : (n : Int) < (m : Int) := by omega
  have b2 : (n : Int) + 1 < (m : Int) := by omega
  have b3 : n ≤ cap := by omega
  have b4 : n < m := by omega
  have b5 : n + 1 < m := by omega
  have e1 : (m : Int) - 2 = (n : Int) := by omega
  have hs := (crcSum xs).isLt
  have v1 := hi_val (crcSum xs)
  have v2 := lo_val (crcSum xs)
  have n1 := eq8 (hi (crcSum xs))
  have n2 := eq8 (lo (crcSum xs))
  have HM := Lib.hid hm
  have HV := Lib.hid hv
  have HX := Lib.hid hx
  clear hm hv hx
  have HXX := Lib.hid (show xs.length ≤ maxLen by rw [HX.out]; unfold maxLen; omega)
  have HX2 := Lib.hid (show ([] : List (BitVec 8)).length + xs.length ≤ 140737488355328 by rw [HX.out]; simp; omega)
  have HO := Lib.hid (own_lit w w.heap.size [] (Nat.le_refl _) (by unfold maxLen; simp))
  have HB := Lib.hid ((Below.refl w.heap.size w).alloc (Nat.le_refl _) (.cells #[] 5))
  have HV1 := Lib.hid (HV.out.below HB.out)
  have hsz := HB.out.size
  go_enter Tryz.func69, Tryz.ntmps69
  go_wp2_with fail
  (with_reducible refine (rsum_any _ xs _ HV.out HXX.out).mono ?_)
  rintro e w1 ⟨rfl, rfl⟩
  generalize crcSum xs = s at *
  go_wp2_with (at_builtin; refine wpList_app rfl _ _ rfl w.heap.size _ [] rfl HO.out _ xs rfl HV1.out HX2.out hsz ?_; intro v1 w1 hown1 hg1; have HO1 := Lib.hid hown1; have HB1 := Lib.hid (HO.out.grown HB.out hg1); clear hown1 hg1 HO HB HV1 hsz)
  go_ret2
  exact ⟨_, rfl, HO1.out, HB1.out⟩

theorem ropen_t (v : Value) (xs : List (BitVec 8)) (w : World) (hv : Byts w v xs) (hl : xs.length ≤ 140737488351232) (ho : opens xs = true) :
    Calls Tryz.prog 69 #[v] w fun e w' => ∃ r, e = .returned (.tuple #[r, .bool true]) ∧ Own w' w.heap.size r (front xs) ∧ Below w.heap.size w w' := by
  have h2 : 2 ≤ xs.length := by simp [opens] at ho; exact ho.1
  obtain ⟨f, a, b, rfl⟩ := split_two h2
  rw [opens_two] at ho
  have ho := of_decide_eq_true ho
  obtain ⟨g, o, cap, rfl, hc, hf, hcs, hh, hb⟩ := hv.two
  rw [front_two]
  obtain ⟨ea, eb⟩ := cat_inj ho
  rw [ea] at hh
  rw [eb] at hb
  exact ropen_yes g o f.length (f.length + 2) cap f w rfl hf hh hb rfl (by simp at hl; omega) hc
theorem ropen_f (v : Value) (xs : List (BitVec 8)) (w : World) (hv : Byts w v xs) (hl : xs.length ≤ 140737488351232) (ho : opens xs = false) :
    Calls Tryz.prog 69 #[v] w fun e w' => e = .returned (.tuple #[.slice none 0 0, .bool false]) ∧ Below w.heap.size w w' := by
  rcases Nat.lt_or_ge xs.length 2 with h2 | h2
  · exact rshort_no v xs w hv h2
  · obtain ⟨f, a, b, rfl⟩ := split_two h2
    rw [opens_two] at ho
    have ho := of_decide_eq_false ho
    obtain ⟨g, o, cap, rfl, hc, hf, hcs, hh, hb⟩ := hv.two
    simp at hl
    exact rother_no g o f.length (f.length + 2) cap f a b w hf hh hb (by omega) rfl (by omega) hc ho
end Go.Proofs.YtekackglcapppaaGreatDoor

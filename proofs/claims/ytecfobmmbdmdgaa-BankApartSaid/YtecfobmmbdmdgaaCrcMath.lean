/-
  Sums of sixteen bits as plain mathematics: one step of a bit, of a byte, of a row of bytes; they are linear, and a step takes no two sums to one.
-/
import Derived.KernelRfl
namespace Go.Proofs.Ytecfobmmbdmdgaa

/-- One bit: shifted to the left; if the bit that went was 1, turned by 1021. -/
def stp (r : BitVec 16) : BitVec 16 := (r <<< 1) ^^^ (if r.msb then 0x1021#16 else 0#16)
def stps : Nat → BitVec 16 → BitVec 16
  | 0, r => r
  | n + 1, r => stp (stps n r)
def wide (x : BitVec 8) : BitVec 16 := x.setWidth 16
def crcByte (s : BitVec 16) (x : BitVec 8) : BitVec 16 := stps 8 (s ^^^ (wide x <<< 8))
def crcAdd (s : BitVec 16) (xs : List (BitVec 8)) : BitVec 16 := xs.foldl crcByte s
def crcSum (xs : List (BitVec 8)) : BitVec 16 := crcAdd 0xffff#16 xs
def hi (s : BitVec 16) : BitVec 8 := BitVec.ofNat 8 (s.toNat / 256)
def lo (s : BitVec 16) : BitVec 8 := BitVec.ofNat 8 (s.toNat % 256)
def cat (h l : BitVec 8) : BitVec 16 := (wide h <<< 8) ^^^ wide l
def sealed (xs : List (BitVec 8)) : List (BitVec 8) := xs ++ [hi (crcSum xs), lo (crcSum xs)]

theorem xor_swap (a b c d : BitVec 16) : (a ^^^ b) ^^^ (c ^^^ d) = (a ^^^ c) ^^^ (b ^^^ d) := by ac_rfl
theorem stp_xor (a b : BitVec 16) : stp (a ^^^ b) = stp a ^^^ stp b := by
  unfold stp
  rw [xor_swap, BitVec.shiftLeft_xor_distrib, BitVec.msb_xor]
  congr 1
  cases a.msb <;> cases b.msb <;> decide
theorem stp_zero : stp 0#16 = 0#16 := by decide
theorem stps_xor (n : Nat) (a b : BitVec 16) : stps n (a ^^^ b) = stps n a ^^^ stps n b := by
  induction n with
  | zero => rfl
  | succ n ih => simp only [stps, ih, stp_xor]
theorem stps_zero (n : Nat) : stps n 0#16 = 0#16 := by
  induction n with
  | zero => rfl
  | succ n ih => simp only [stps, ih, stp_zero]
theorem stps_add (n m : Nat) (a : BitVec 16) : stps (n + m) a = stps n (stps m a) := by
  induction n with
  | zero => simp [stps]
  | succ n ih => rw [Nat.succ_add]; simp only [stps, ih]
theorem stp_inj {a : BitVec 16} (h : stp a = 0#16) : a = 0#16 := by
  unfold stp at h
  cases hm : a.msb with
  | true =>
    rw [hm] at h
    have h0 := congrArg (fun x => BitVec.getLsbD x 0) h
    simp at h0
  | false =>
    rw [hm] at h
    simp at h
    have h1 := congrArg BitVec.toNat h
    have h2 : a.toNat < 32768 := by
      have := BitVec.msb_eq_decide a
      rw [hm] at this
      simp at this
      omega
    simp [Nat.shiftLeft_eq] at h1
    apply BitVec.eq_of_toNat_eq
    simp
    omega
theorem stps_inj {n : Nat} {a : BitVec 16} (h : stps n a = 0#16) : a = 0#16 := by
  induction n with
  | zero => exact h
  | succ n ih => exact ih (stp_inj h)

theorem wide_xor (x y : BitVec 8) : wide (x ^^^ y) = wide x ^^^ wide y := by unfold wide; exact BitVec.setWidth_xor
theorem crcByte_xor (s t : BitVec 16) (x y : BitVec 8) : crcByte (s ^^^ t) (x ^^^ y) = crcByte s x ^^^ crcByte t y := by
  unfold crcByte
  rw [wide_xor, BitVec.shiftLeft_xor_distrib, xor_swap, stps_xor]
theorem crcAdd_nil (s : BitVec 16) : crcAdd s [] = s := rfl
theorem crcAdd_cons (s : BitVec 16) (x : BitVec 8) (xs : List (BitVec 8)) : crcAdd s (x :: xs) = crcAdd (crcByte s x) xs := rfl
theorem crcAdd_append (s : BitVec 16) (xs ys : List (BitVec 8)) : crcAdd s (xs ++ ys) = crcAdd (crcAdd s xs) ys := by simp [crcAdd]
theorem crcAdd_xor : ∀ (xs ys : List (BitVec 8)) (s t : BitVec 16), xs.length = ys.length → crcAdd (s ^^^ t) (List.zipWith (· ^^^ ·) xs ys) = crcAdd s xs ^^^ crcAdd t ys
  | [], [], _, _, _ => rfl
  | x :: xs, y :: ys, s, t, h => by
    simp only [List.zipWith_cons_cons, crcAdd_cons, crcByte_xor]
    exact crcAdd_xor xs ys _ _ (by simpa using h)
  | [], _ :: _, _, _, h => by simp at h
  | _ :: _, [], _, _, h => by simp at h
theorem crcAdd_turn (xs : List (BitVec 8)) (s t : BitVec 16) : crcAdd (s ^^^ t) xs = crcAdd s xs ^^^ stps (8 * xs.length) t := by
  induction xs generalizing s t with
  | nil => rfl
  | cons x xs ih =>
    rw [crcAdd_cons, crcAdd_cons]
    have h : crcByte (s ^^^ t) x = crcByte s x ^^^ stps 8 t := by
      unfold crcByte
      rw [BitVec.xor_assoc, BitVec.xor_comm t, ← BitVec.xor_assoc, stps_xor]
    rw [h, ih, ← stps_add]
    rfl

theorem stps_low : ∀ l : BitVec 8, stps 8 (wide l) = wide l <<< 8 := by decide +kernel
theorem xor_parts (x y : Nat) (hy : y < 256) : x * 256 ^^^ y = x * 256 + y := by
  apply Nat.eq_of_testBit_eq
  intro j
  have h1 := Nat.testBit_two_pow_mul_add x (i := 8) hy j
  have h2 := Nat.testBit_two_pow_mul (a := x) (i := 8) (j := j)
  rw [show x * 256 = 2 ^ 8 * x by omega, Nat.testBit_xor, h1, h2]
  by_cases hj : j < 8
  · have : ¬ 8 ≤ j := by omega
    simp [hj, this]
  · have h3 : y.testBit j = false := Nat.testBit_lt_two_pow (Nat.lt_of_lt_of_le hy (Nat.pow_le_pow_right (n := 2) (by omega) (show 8 ≤ j by omega)))
    have : 8 ≤ j := by omega
    simp [hj, h3, this]
theorem or_parts (x y : Nat) (hy : y < 256) : x * 256 ||| y = x * 256 + y := by
  have := Nat.two_pow_add_eq_or_of_lt (i := 8) hy x
  rw [show x * 256 = 2 ^ 8 * x by omega, this]
theorem cat_hilo (s : BitVec 16) : cat (hi s) (lo s) = s := by
  have h1 : s.toNat / 256 < 256 := by have := s.isLt; omega
  have hh : (wide (hi s) <<< 8).toNat = s.toNat / 256 * 256 := by
    have := s.isLt
    simp [wide, hi, Nat.shiftLeft_eq]
    omega
  have hl : (wide (lo s)).toNat = s.toNat % 256 := by
    simp [wide, lo]
    omega
  unfold cat
  apply BitVec.eq_of_toNat_eq
  rw [BitVec.toNat_xor, hh, hl, xor_parts _ _ (by omega)]
  omega
theorem crcAdd_two (s : BitVec 16) (h l : BitVec 8) : crcAdd s [h, l] = stps 16 (s ^^^ cat h l) := by
  show stps 8 (stps 8 (s ^^^ (wide h <<< 8)) ^^^ (wide l <<< 8)) = _
  have e : ∀ a, stps 16 a = stps 8 (stps 8 a) := fun a => stps_add 8 8 a
  rw [← stps_low l, ← stps_xor, e]
  unfold cat
  rw [BitVec.xor_assoc]
theorem sum_two (xs : List (BitVec 8)) (h l : BitVec 8) : crcSum (xs ++ [h, l]) = stps 16 (crcSum xs ^^^ cat h l) := by
  unfold crcSum
  rw [crcAdd_append, crcAdd_two]
theorem sum_zero_iff (xs : List (BitVec 8)) (h l : BitVec 8) : crcSum (xs ++ [h, l]) = 0#16 ↔ cat h l = crcSum xs := by
  rw [sum_two]
  constructor
  · intro he
    have := stps_inj he
    have := congrArg (fun x => crcSum xs ^^^ x) this
    simp at this
    rw [← BitVec.xor_assoc] at this
    simpa using this
  · intro he
    rw [he]
    simp [stps_zero]
theorem sum_sealed (xs : List (BitVec 8)) : crcSum (sealed xs) = 0#16 := (sum_zero_iff _ _ _).2 (cat_hilo _)
theorem cat_toNat (h l : BitVec 8) : (cat h l).toNat = h.toNat * 256 + l.toNat := by
  have h1 := h.isLt
  have h2 := l.isLt
  have hh : (wide h <<< 8).toNat = h.toNat * 256 := by
    simp [wide, Nat.shiftLeft_eq]
    omega
  have hl : (wide l).toNat = l.toNat := by
    simp [wide]
    omega
  unfold cat
  rw [BitVec.toNat_xor, hh, hl, xor_parts _ _ (by omega)]

/-- One bit of a row of bytes is turned: bit k, counted from the highest of the first byte on. -/
def flip1 (xs : List (BitVec 8)) (k : Nat) : List (BitVec 8) := xs.modify (k / 8) (· ^^^ (128#8 >>> (k % 8)))

theorem stps_one : ∀ j : Nat, j < 8 → stps 8 (wide (128#8 >>> j) <<< 8) = stps (8 - j) 0x8000#16 := by decide +kernel
theorem crcByte_turn (s : BitVec 16) (x e : BitVec 8) : crcByte s (x ^^^ e) = crcByte s x ^^^ stps 8 (wide e <<< 8) := by
  unfold crcByte
  rw [wide_xor, BitVec.shiftLeft_xor_distrib, ← BitVec.xor_assoc, stps_xor]
theorem length_flip1 (xs : List (BitVec 8)) (k : Nat) : (flip1 xs k).length = xs.length := by simp [flip1]
theorem crcAdd_flip1 : ∀ (xs : List (BitVec 8)) (k : Nat) (s : BitVec 16), k < 8 * xs.length → crcAdd s (flip1 xs k) = crcAdd s xs ^^^ stps (8 * xs.length - k) 0x8000#16
  | [], k, s, h => by simp at h
  | x :: xs, k, s, h => by
    by_cases h0 : k < 8
    · have hd : k / 8 = 0 := by omega
      have hm : k % 8 = k := by omega
      unfold flip1
      rw [hd, hm]
      simp only [List.modify_zero_cons, crcAdd_cons]
      rw [crcByte_turn, crcAdd_turn, stps_one k h0, ← stps_add]
      congr 2
      simp; omega
    · have hd : k / 8 = (k - 8) / 8 + 1 := by omega
      have hm : k % 8 = (k - 8) % 8 := by omega
      have ih := crcAdd_flip1 xs (k - 8) (crcByte s x) (by simp at h; omega)
      unfold flip1 at ih ⊢
      rw [hd, hm]
      simp only [List.modify_succ_cons, crcAdd_cons]
      rw [ih]
      congr 2
      simp; omega

/-- The first n bits of a mask, the lowest first, as sixteen bits, the highest first. -/
def rev16 (m : Nat) : Nat → BitVec 16
  | 0 => 0#16
  | n + 1 => rev16 m n ^^^ (if m.testBit n then 0x8000#16 >>> n else 0#16)
/-- The first n bits of a mask are turned, from bit 'at' on. -/
def flips (xs : List (BitVec 8)) (p m : Nat) : Nat → List (BitVec 8)
  | 0 => xs
  | n + 1 => if m.testBit n then flip1 (flips xs p m n) (p + n) else flips xs p m n
theorem length_flips (xs : List (BitVec 8)) (p m n : Nat) : (flips xs p m n).length = xs.length := by
  induction n with
  | zero => rfl
  | succ n ih => unfold flips; split <;> simp [length_flip1, ih]
theorem stps_shift : ∀ n : Nat, n < 16 → stps n (0x8000#16 >>> n) = 0x8000#16 := by decide +kernel
theorem crcAdd_flips (xs : List (BitVec 8)) (p m : Nat) (s : BitVec 16) (n : Nat) (hn : n ≤ 16) (hp : p + n ≤ 8 * xs.length) : crcAdd s (flips xs p m n) = crcAdd s xs ^^^ stps (8 * xs.length - p) (rev16 m n) := by
  induction n with
  | zero => simp [flips, rev16, stps_zero]
  | succ n ih =>
    have ih := ih (by omega) (by omega)
    unfold flips rev16
    by_cases hb : m.testBit n
    · rw [if_pos hb, if_pos hb, crcAdd_flip1 _ _ _ (by rw [length_flips]; omega), ih, stps_xor, ← BitVec.xor_assoc, length_flips]
      congr 1
      have e : 8 * xs.length - p = (8 * xs.length - (p + n)) + n := by omega
      rw [e, stps_add _ n (0x8000#16 >>> n), stps_shift n (by omega)]
    · rw [if_neg hb, if_neg hb, ih]
      simp
theorem rev16_bit (m : Nat) : ∀ (n : Nat), n ≤ 16 → ∀ j, j < 16 → (rev16 m n).getLsbD (15 - j) = (decide (j < n) && m.testBit j)
  | 0, _, j, _ => by simp [rev16]
  | n + 1, hn, j, hj => by
    unfold rev16
    have ih := rev16_bit m n (by omega) j hj
    rw [BitVec.getLsbD_xor, ih]
    have hs : (0x8000#16 >>> n).getLsbD (15 - j) = decide (j = n) := by
      have : ∀ n : Nat, n < 16 → ∀ j : Nat, j < 16 → (0x8000#16 >>> n).getLsbD (15 - j) = decide (j = n) := by decide +kernel
      exact this n (by omega) j hj
    by_cases hb : m.testBit n
    · rw [if_pos hb, hs]
      by_cases he : j = n
      · subst he; simp [hb]
      · have : (j < n + 1) = (j < n) := by simp; omega
        simp [he, this]
    · rw [if_neg hb]
      by_cases he : j = n
      · subst he; simp [hb]
      · have : (j < n + 1) = (j < n) := by simp; omega
        simp [this]
theorem rev16_ne {m : Nat} (h0 : m ≠ 0) (h1 : m < 65536) : rev16 m 16 ≠ 0#16 := by
  intro h
  apply h0
  apply Nat.eq_of_testBit_eq
  intro j
  by_cases hj : j < 16
  · have := rev16_bit m 16 (by omega) j hj
    rw [h] at this
    simp [hj] at this
    simp [this]
  · rw [Nat.testBit_lt_two_pow (Nat.lt_of_lt_of_le (show m < 2 ^ 16 from h1) (Nat.pow_le_pow_right (n := 2) (by omega) (by omega)))]
    simp
/-- What was sealed, and then turned within sixteen bits, does not sum to nothing. -/
theorem sum_flips_ne (xs : List (BitVec 8)) (p m : Nat) (h0 : m ≠ 0) (h1 : m < 65536) (hp : p + 16 ≤ 8 * xs.length) : crcSum (flips xs p m 16) ≠ crcSum xs := by
  intro h
  unfold crcSum at h
  rw [crcAdd_flips xs p m _ 16 (by omega) hp] at h
  have h2 := congrArg (fun x => crcAdd 0xffff#16 xs ^^^ x) h
  simp only [← BitVec.xor_assoc, BitVec.xor_self, BitVec.zero_xor] at h2
  exact rev16_ne h0 h1 (stps_inj h2)
end Go.Proofs.Ytecfobmmbdmdgaa

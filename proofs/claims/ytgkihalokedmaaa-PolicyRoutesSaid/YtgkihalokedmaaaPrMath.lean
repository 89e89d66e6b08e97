/-
  Pairs of treadles as numbers: where they lie, quarters, one step.
-/
import Derived.Test.YtgkihalokedmaaaCore
namespace Go.Proofs.Ytgkihalokedmaaa
open Go.RowKit

/-- A pair. -/
structure Pr where
  lie : Int
  pos : Int
  jump : Bool
/-- Its cells. -/
abbrev prv (p : Pr) : Array Value := #[.int .i64 p.lie, .int .i64 p.pos, .bool p.jump]
/-- Its place is a number of 64 bits. -/
abbrev PosR (s : Int) : Prop := -9223372036854775808 ≤ s ∧ s ≤ 9223372036854775807
/-- Where in the round 0, 1, 3, 2 a way to lie stands. -/
def qr (x : Int) : Int := if x % 4 = 0 then 0 else if x % 4 = 1 then 1 else if x % 4 = 3 then 2 else 3
theorem qr_cases (x : Int) : (x % 4 = 0 ∧ qr x = 0) ∨ (x % 4 = 1 ∧ qr x = 1) ∨ (x % 4 = 2 ∧ qr x = 3) ∨ (x % 4 = 3 ∧ qr x = 2) := by
  unfold qr
  have := Int.emod_nonneg x (show (4 : Int) ≠ 0 by decide)
  have := Int.emod_lt_of_pos x (show (0 : Int) < 4 by decide)
  rcases (show x % 4 = 0 ∨ x % 4 = 1 ∨ x % 4 = 2 ∨ x % 4 = 3 by omega) with h | h | h | h <;> simp [h]
theorem qr_range (x : Int) : 0 ≤ qr x ∧ qr x ≤ 3 := by rcases qr_cases x with h | h | h | h <;> omega
/-- How many quarters on b is from a. -/
def way (a b : Int) : Int := (qr b - qr a) % 4
theorem way_range (a b : Int) : 0 ≤ way a b ∧ way a b ≤ 3 := by unfold way; omega
theorem qr_mod (x : Int) : qr (x % 4) = qr x := by
  have h : x % 4 % 4 = x % 4 := by omega
  rcases qr_cases x with h1 | h1 | h1 | h1 <;> rcases qr_cases (x % 4) with h2 | h2 | h2 | h2 <;> omega
theorem way_mod (a b : Int) : way a (b % 4) = way a b := by unfold way; rw [qr_mod]
theorem way_mod_left (a b : Int) : way (a % 4) b = way a b := by unfold way; rw [qr_mod]
/-- The place behind a step of k quarters. -/
def bump (k s : Int) : Int := if k = 1 then (if s < 9223372036854775807 then s + 1 else s) else if k = 3 then (if -9223372036854775808 < s then s - 1 else s) else s
theorem bump_one {s : Int} (h : s < 9223372036854775807) : bump 1 s = s + 1 := by simp [bump, h]
theorem bump_three {s : Int} (h : -9223372036854775808 < s) : bump 3 s = s - 1 := by simp [bump, h]
theorem bump_range {s : Int} (k : Int) (h : PosR s) : PosR (bump k s) := by
  unfold bump
  (repeat' split) <;> omega
/-- The pair behind one more way to lie. -/
def prstp (p : Pr) (m : Int) : Pr := ⟨m % 4, bump (way p.lie m) p.pos, p.jump || decide (way p.lie m = 2)⟩
theorem stp_mod (p : Pr) (m : Int) : prstp p (m % 4) = prstp p m := by
  unfold prstp
  rw [way_mod, show m % 4 % 4 = m % 4 by omega]
theorem stp_range {p : Pr} (m : Int) (h : PosR p.pos) : PosR (prstp p m).pos := bump_range _ h

theorem and3 (x : Int) : bits .and .i64 x 3 = x % 4 := by
  show IntKind.i64.wrap ((BitVec.ofInt 64 x &&& BitVec.ofInt 64 3).toNat : Int) = _
  have h1 : (BitVec.ofInt 64 x &&& BitVec.ofInt 64 3).toNat = (BitVec.ofInt 64 x).toNat % 4 := by
    rw [BitVec.toNat_and]
    exact Nat.and_two_pow_sub_one_eq_mod _ 2
  rw [h1, BitVec.toNat_ofInt, IntKind.wrap_i64]
  simp
  omega
theorem and1 (x : Int) : bits .and .i64 x 1 = x % 2 := by
  show IntKind.i64.wrap ((BitVec.ofInt 64 x &&& BitVec.ofInt 64 1).toNat : Int) = _
  have h1 : (BitVec.ofInt 64 x &&& BitVec.ofInt 64 1).toNat = (BitVec.ofInt 64 x).toNat % 2 := by
    rw [BitVec.toNat_and]
    exact Nat.and_two_pow_sub_one_eq_mod _ 1
  rw [h1, BitVec.toNat_ofInt, IntKind.wrap_i64]
  simp
  omega
/-- A number xored with its half, of two bits: where it stands in the round. -/
theorem xor_half (x : Int) : bits .xor .i64 (x % 4) (x % 4 / 2) = qr x := by
  rcases qr_cases x with ⟨h, e⟩ | ⟨h, e⟩ | ⟨h, e⟩ | ⟨h, e⟩ <;> (rw [h, e]; decide)
/-- How an axle lies that goes on from rest, behind i quarters. -/
def ron (i : Nat) : Int := if i % 4 = 0 then 0 else if i % 4 = 1 then 1 else if i % 4 = 2 then 3 else 2
/-- .. that goes back. -/
def rbk (i : Nat) : Int := if i % 4 = 0 then 0 else if i % 4 = 1 then 2 else if i % 4 = 2 then 3 else 1
theorem ron_next (i : Nat) : way (ron i) (ron (i + 1)) = 1 ∧ ron (i + 1) % 4 = ron (i + 1) := by
  unfold ron
  rcases (show i % 4 = 0 ∨ i % 4 = 1 ∨ i % 4 = 2 ∨ i % 4 = 3 by omega) with h | h | h | h
  · rw [h, show (i + 1) % 4 = 1 by omega]; decide
  · rw [h, show (i + 1) % 4 = 2 by omega]; decide
  · rw [h, show (i + 1) % 4 = 3 by omega]; decide
  · rw [h, show (i + 1) % 4 = 0 by omega]; decide
theorem rbk_next (i : Nat) : way (rbk i) (rbk (i + 1)) = 3 ∧ rbk (i + 1) % 4 = rbk (i + 1) := by
  unfold rbk
  rcases (show i % 4 = 0 ∨ i % 4 = 1 ∨ i % 4 = 2 ∨ i % 4 = 3 by omega) with h | h | h | h
  · rw [h, show (i + 1) % 4 = 1 by omega]; decide
  · rw [h, show (i + 1) % 4 = 2 by omega]; decide
  · rw [h, show (i + 1) % 4 = 3 by omega]; decide
  · rw [h, show (i + 1) % 4 = 0 by omega]; decide
theorem stp_on (i : Nat) {s : Int} (j : Bool) (h : s < 9223372036854775807) : prstp ⟨ron i, s, j⟩ (ron (i + 1)) = ⟨ron (i + 1), s + 1, j⟩ := by
  unfold prstp
  rw [(ron_next i).1, (ron_next i).2, bump_one h]
  simp
theorem stp_bk (i : Nat) {s : Int} (j : Bool) (h : -9223372036854775808 < s) : prstp ⟨rbk i, s, j⟩ (rbk (i + 1)) = ⟨rbk (i + 1), s - 1, j⟩ := by
  unfold prstp
  rw [(rbk_next i).1, (rbk_next i).2, bump_three h]
  simp
theorem stp_jump {l s m : Int} (j : Bool) (h : way l m = 2) : prstp ⟨l, s, j⟩ m = ⟨m % 4, s, true⟩ := by
  unfold prstp
  rw [h]
  simp [bump]
theorem stp_go {l s m : Int} (j : Bool) (h : way l m ≠ 2) (h0 : -9223372036854775808 < s) (h1 : s < 9223372036854775807) :
    ∃ s', prstp ⟨l, s, j⟩ m = ⟨m % 4, s', j⟩ ∧ s - 1 ≤ s' ∧ s' ≤ s + 1 ∧ s' % 4 = (s + qr m - qr l) % 4 ∧ ((way l m = 1 ∧ s' = s + 1) ∨ (way l m = 3 ∧ s' = s - 1) ∨ (way l m = 0 ∧ s' = s)) := by
  have hr := way_range l m
  have hw : way l m = (qr m - qr l) % 4 := rfl
  unfold prstp
  dsimp only
  rcases (show way l m = 0 ∨ way l m = 1 ∨ way l m = 3 by omega) with h2 | h2 | h2
  · exact ⟨s, by rw [h2]; simp [bump], by omega, by omega, by omega, by omega⟩
  · exact ⟨s + 1, by rw [h2, bump_one h1]; simp, by omega, by omega, by omega, by omega⟩
  · exact ⟨s - 1, by rw [h2, bump_three h0]; simp, by omega, by omega, by omega, by omega⟩
/-- Lies, one behind the other. -/
def runs (p : Pr) (l : List Int) : Pr := l.foldl prstp p
theorem runs_snoc (p : Pr) (l : List Int) (m : Int) : runs p (l ++ [m]) = prstp (runs p l) m := by unfold runs; rw [List.foldl_append]; rfl
theorem runs_take {p : Pr} {l : List Int} {i : Nat} {m : Int} (h : l[i]? = some m) : runs p (l.take (i + 1)) = prstp (runs p (l.take i)) m := by
  rw [List.take_add_one, h]
  exact runs_snoc _ _ _
end Go.Proofs.Ytgkihalokedmaaa

/-
  What channels say, as numbers: the byte that is one alone, its bits, what is below a bound.
-/
import Derived.Test.YtnbhjnbdnngiiaaBytes
import Derived.Test.YtnbhjnbdnngiiaaCtMath
namespace Go.Proofs.Ytnbhjnbdnngiiaa
open Go.RowKit

/-- The byte that b is, if it is one alone; else -1. -/
def sone : Bool → List (BitVec 8) → Int
  | true, [x] => (x.toNat : Int)
  | _, _ => -1
theorem sone_range (ok : Bool) (xs : List (BitVec 8)) : -1 ≤ sone ok xs ∧ sone ok xs ≤ 255 := by
  unfold sone
  split
  · rename_i x
    have := x.isLt
    omega
  · omega
theorem sone_no (xs : List (BitVec 8)) : sone false xs = -1 := by unfold sone; rfl
theorem sone_many {xs : List (BitVec 8)} (h : ¬ xs.length = 1) (ok : Bool) : sone ok xs = -1 := by
  unfold sone
  split
  · simp at h
  · rfl
theorem sone_nil (ok : Bool) : sone ok [] = -1 := sone_many (by simp) ok
/-- How bytes that were handed over lie: none are told, or not one, or one. -/
theorem Byts.ways {w : World} {v : Value} {xs : List (BitVec 8)} (h : Byts w v xs) {ok : Bool} {k : Int} (hk : sone ok xs = k) :
    (ok = false ∧ k = -1) ∨ (ok = true ∧ k = -1 ∧ ∃ a n c, v = .slice a n c ∧ ((n : Int) != 1) = true) ∨
    (ok = true ∧ 0 ≤ k ∧ k ≤ 255 ∧ ∃ g o c, v = .slice (some ⟨g, o, none⟩) 1 c ∧ w.cell? ⟨g, o, none⟩ = some (.int .u8 k)) := by
  cases ok with
  | false => exact .inl ⟨rfl, by rw [← hk, sone_no]⟩
  | true =>
    by_cases hl : xs.length = 1
    · obtain ⟨g, o, cap, y, hv, hc, _, hx, hy⟩ := h.at_ 0 (by omega)
      obtain ⟨x, rfl⟩ := List.length_eq_one_iff.1 hl
      obtain rfl : x = y := by simpa using hx
      have := x.isLt
      refine .inr (.inr ⟨rfl, ?_, ?_, g, o, cap, hv, ?_⟩)
      · rw [← hk]; show (0 : Int) ≤ (x.toNat : Int); omega
      · rw [← hk]; show (x.toNat : Int) ≤ 255; omega
      · rw [← hk]; exact hy
    · obtain ⟨a, c, hv⟩ := h.len
      exact .inr (.inl ⟨rfl, by rw [← hk, sone_many hl], a, xs.length, c, hv, by simp; omega⟩)
/-- k, if it is below l; else 0. -/
abbrev onl (k l : Int) : Int := if 0 ≤ k ∧ k < l then k else 0
/-- The bit of a place. -/
abbrev bt (k d : Int) : Bool := k / d % 2 == 1
/-- How many routes there may be. -/
def rlim (t : Int) : Int := if t ≤ 0 then 1 else if 8 ≤ t then 256 else 2 ^ t.toNat
theorem rlim_ways (t : Int) : (t < 0 ∧ rlim t = 1) ∨ (t = 0 ∧ rlim t = 1) ∨ (t = 1 ∧ rlim t = 2) ∨ (t = 2 ∧ rlim t = 4) ∨ (t = 3 ∧ rlim t = 8) ∨ (t = 4 ∧ rlim t = 16) ∨ (t = 5 ∧ rlim t = 32) ∨ (t = 6 ∧ rlim t = 64) ∨ (t = 7 ∧ rlim t = 128) ∨ (t = 8 ∧ rlim t = 256) ∨ (8 < t ∧ rlim t = 256) := by
  rcases (show t < 0 ∨ t = 0 ∨ t = 1 ∨ t = 2 ∨ t = 3 ∨ t = 4 ∨ t = 5 ∨ t = 6 ∨ t = 7 ∨ t = 8 ∨ 8 < t by omega) with h | rfl | rfl | rfl | rfl | rfl | rfl | rfl | rfl | rfl | h
  · exact .inl ⟨h, if_pos (by omega)⟩
  all_goals try (simp [rlim])
  · have h1 : ¬ t ≤ 0 := by omega
    have h2 : 8 ≤ t := by omega
    simp [h1, h2, h]
/-- What Barrier reads. -/
def barIs (k : Int) (a b c d : Bool) : Prop := (bt (onl k 16) 1 && !bt (onl k 16) 2) = a ∧ (bt (onl k 16) 2 && !bt (onl k 16) 1) = b ∧ (bt (onl k 16) 4 && !bt (onl k 16) 8) = c ∧ (bt (onl k 16) 8 && !bt (onl k 16) 4) = d
/-- What Counts reads. -/
def cntOf : Bool → List (BitVec 8) → Ct
  | true, [x, y, z, u] => if (z.toNat : Int) < 3 ∧ (u.toNat : Int) < 4 then ⟨true, (x.toNat : Int), (y.toNat : Int), (z.toNat : Int), (u.toNat : Int)⟩ else ⟨false, 0, 0, 0, 0⟩
  | _, _ => ⟨false, 0, 0, 0, 0⟩
theorem cntOf_no (xs : List (BitVec 8)) : cntOf false xs = ⟨false, 0, 0, 0, 0⟩ := by unfold cntOf; rfl
theorem cntOf_many {xs : List (BitVec 8)} (h : ¬ xs.length = 4) (ok : Bool) : cntOf ok xs = ⟨false, 0, 0, 0, 0⟩ := by
  unfold cntOf
  split
  · simp at h
  · rfl
theorem byts_four {w : World} {v : Value} {x y z u : BitVec 8} (h : Byts w v [x, y, z, u]) : ∃ g o c, v = .slice (some ⟨g, o, none⟩) 4 c ∧ w.cell? ⟨g, o, none⟩ = some (.int .u8 (x.toNat : Int)) ∧ w.cell? ⟨g, o + 1, none⟩ = some (.int .u8 (y.toNat : Int)) ∧ w.cell? ⟨g, o + 2, none⟩ = some (.int .u8 (z.toNat : Int)) ∧ w.cell? ⟨g, o + 3, none⟩ = some (.int .u8 (u.toNat : Int)) := by
  rcases h with ⟨h, _⟩ | ⟨g, o, cap, hv, hc, h⟩
  · cases h
  · exact ⟨g, o, cap, hv, h 0 x rfl, h 1 y rfl, h 2 z rfl, h 3 u rfl⟩
theorem and_one (x : Int) : bits .and .i64 x 1 = x % 2 := by
  show IntKind.i64.wrap ((BitVec.ofInt 64 x &&& BitVec.ofInt 64 1).toNat : Int) = _
  have h1 : (BitVec.ofInt 64 x &&& BitVec.ofInt 64 1).toNat = (BitVec.ofInt 64 x).toNat % 2 := by
    rw [BitVec.toNat_and]
    exact Nat.and_two_pow_sub_one_eq_mod _ 1
  rw [h1, BitVec.toNat_ofInt, IntKind.wrap_i64]
  simp
  omega
end Go.Proofs.Ytnbhjnbdnngiiaa

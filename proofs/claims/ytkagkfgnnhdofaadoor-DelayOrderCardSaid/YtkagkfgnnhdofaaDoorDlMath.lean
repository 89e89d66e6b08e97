/-
  Sums, products and ways of numbers of sixty-four bits: plain mathematics.
-/
import Derived.Test.YtkagkfgnnhdofaaDoorCore
namespace Go.Proofs.YtkagkfgnnhdofaaDoor
open Go.RowKit

/-- A number of sixty-four bits. -/
abbrev Rng (n : Int) : Prop := -9223372036854775808 ≤ n ∧ n ≤ 9223372036854775807
/-- The sum s of a and b, and its code; the product. -/
def SumV (a b s k : Int) : Prop := (s = a + b ∧ k = 0 ∧ Rng (a + b)) ∨ (s = 0 ∧ k = 6 ∧ ¬ Rng (a + b))
def MulV (a b s k : Int) : Prop := (s = a * b ∧ k = 0 ∧ Rng (a * b)) ∨ (s = 0 ∧ k = 6 ∧ ¬ Rng (a * b))
/-- How many ticks far at speed, and its code. -/
def WayV (far speed n k : Int) : Prop := (n = far / speed ∧ k = 0 ∧ 0 ≤ far ∧ 1 ≤ speed) ∨ (n = 0 ∧ k = 1 ∧ ¬ (0 ≤ far ∧ 1 ≤ speed))
theorem SumV.same {a b s k s' k' : Int} (h : SumV a b s k) (h' : SumV a b s' k') : s' = s ∧ k' = k := by
  rcases h with ⟨rfl, rfl, h⟩ | ⟨rfl, rfl, h⟩ <;> rcases h' with ⟨rfl, rfl, h'⟩ | ⟨rfl, rfl, h'⟩
  · exact ⟨rfl, rfl⟩
  · exact absurd h h'
  · exact absurd h' h
  · exact ⟨rfl, rfl⟩
theorem SumV.comm {a b s k : Int} (h : SumV b a s k) : SumV a b s k := by unfold SumV at *; rw [Int.add_comm] at h; exact h
theorem MulV.same {a b s k s' k' : Int} (h : MulV a b s k) (h' : MulV a b s' k') : s' = s ∧ k' = k := by
  rcases h with ⟨rfl, rfl, h⟩ | ⟨rfl, rfl, h⟩ <;> rcases h' with ⟨rfl, rfl, h'⟩ | ⟨rfl, rfl, h'⟩
  · exact ⟨rfl, rfl⟩
  · exact absurd h h'
  · exact absurd h' h
  · exact ⟨rfl, rfl⟩
theorem MulV.comm {a b s k : Int} (h : MulV b a s k) : MulV a b s k := by unfold MulV at *; rw [Int.mul_comm] at h; exact h
theorem WayV.same {a b s k s' k' : Int} (h : WayV a b s k) (h' : WayV a b s' k') : s' = s ∧ k' = k := by
  rcases h with ⟨rfl, rfl, h⟩ | ⟨rfl, rfl, h⟩ <;> rcases h' with ⟨rfl, rfl, h'⟩ | ⟨rfl, rfl, h'⟩
  · exact ⟨rfl, rfl⟩
  · exact absurd h h'
  · exact absurd h' h
  · exact ⟨rfl, rfl⟩
theorem wrap64_rng (n : Int) : Rng (wrap64 n) := by unfold wrap64; omega
theorem wrap64_far (n : Int) (h : ¬ Rng n) : 18446744073709551616 ≤ wrap64 n - n ∨ 18446744073709551616 ≤ n - wrap64 n := by unfold wrap64; omega
/-- The quotient tells of a product that went round. -/
theorem quo_yes {a b : Int} (ha : a ≠ 0) (hb : Rng b) (h : Rng (a * b)) : wrap64 ((wrap64 (a * b)).tdiv a) = b := by
  have e : wrap64 (a * b) = a * b := IntWalk.wrap64_in _ h
  rw [e, Int.mul_tdiv_cancel_left _ ha]
  exact IntWalk.wrap64_in _ hb
theorem quo_no {a b : Int} (ha : Rng a) (ha0 : a ≠ 0) (ha1 : a ≠ -1) (h : ¬ Rng (a * b)) : wrap64 ((wrap64 (a * b)).tdiv a) ≠ b := by
  obtain ⟨p, hp⟩ : ∃ p, p = wrap64 (a * b) := ⟨_, rfl⟩
  have hr : Rng p := by rw [hp]; exact wrap64_rng _
  have hf : 18446744073709551616 ≤ p - a * b ∨ 18446744073709551616 ≤ a * b - p := by rw [hp]; exact wrap64_far _ h
  rw [← hp]
  clear hp h
  intro hq
  have hdm : a * p.tdiv a + p.tmod a = p := Int.mul_tdiv_add_tmod p a
  have hm : (p.tmod a).natAbs < a.natAbs := by
    rw [Int.natAbs_tmod]
    exact Nat.mod_lt _ (by omega)
  have hd : Rng (p.tdiv a) := by
    have h2 : a.natAbs = 1 ∨ 2 ≤ a.natAbs := by omega
    have hn : (p.tdiv a).natAbs = p.natAbs / a.natAbs := Int.natAbs_tdiv p a
    rcases h2 with h2 | h2
    · obtain rfl : a = 1 := by omega
      rw [Int.tdiv_one]; exact hr
    · have : p.natAbs / a.natAbs ≤ p.natAbs / 2 := Nat.div_le_div_left h2 (by decide)
      omega
  rw [IntWalk.wrap64_in _ hd] at hq
  rw [hq] at hdm
  obtain ⟨a0, a1⟩ := ha
  omega
/-- How long lowering may wait for far at speed, warn ticks to be warned. -/
def spr (far speed warn : Int) : Int := if 0 ≤ far ∧ 1 ≤ speed then max (far / speed - max warn 0) 0 else 0
theorem spr_yes {far speed warn : Int} (h : 0 ≤ far ∧ 1 ≤ speed) : spr far speed warn = max (far / speed - max warn 0) 0 := if_pos h
theorem spr_no {far speed warn : Int} (h : ¬ (0 ≤ far ∧ 1 ≤ speed)) : spr far speed warn = 0 := if_neg h
theorem spr_as (q warn : Int) : (if (if 0 < warn then warn else 0) < q then q - if 0 < warn then warn else 0 else 0) = max (q - max warn 0) 0 := by
  by_cases h : 0 < warn
  · rw [if_pos h]
    split <;> omega
  · rw [if_neg h]
    split <;> omega
theorem quo_le {far speed : Int} (h : 0 ≤ far ∧ 1 ≤ speed) : 0 ≤ far / speed ∧ far / speed ≤ far :=
  ⟨Int.ediv_nonneg h.1 (by omega), Int.ediv_le_self _ h.1⟩
/-- Three numbers, the first j of them. -/
def tri (f : Nat → Int) (j : Nat) : Array Value := #[.int .i64 (if 0 < j then f 0 else 0), .int .i64 (if 1 < j then f 1 else 0), .int .i64 (if 2 < j then f 2 else 0)]
theorem tri_at (f : Nat → Int) (j i : Nat) (h : i < 3) : (tri f j)[i]? = some (.int .i64 (if i < j then f i else 0)) := by
  match i, h with
  | 0, _ => rfl
  | 1, _ => rfl
  | 2, _ => rfl
  | n + 3, h => omega
theorem tri_set (f : Nat → Int) (j : Nat) (h : j < 3) (x : Int) (hx : x = f j) : (tri f j).setIfInBounds j (.int .i64 x) = tri f (j + 1) := by
  subst hx
  rcases j with _ | _ | _ | j
  all_goals first | omega | simp [tri]
theorem tri_zero (f : Nat → Int) (j : Nat) (h : j < 3) (hx : f j = 0) : tri f (j + 1) = tri f j := by
  rcases j with _ | _ | _ | j
  all_goals first | omega | simp [tri, hx]
theorem tri_none (f : Nat → Int) : tri f 0 = #[.int .i64 0, .int .i64 0, .int .i64 0] := by simp [tri]
/-- Three numbers. -/
def tr3 (f : Nat → Int) : Array Value := #[.int .i64 (f 0), .int .i64 (f 1), .int .i64 (f 2)]
theorem tri_all (f : Nat → Int) : tri f 3 = tr3 f := by simp [tri, tr3]
theorem neg_far {b : Int} (hb : Rng b) (h : ¬ Rng (-1 * b)) : b = -9223372036854775808 := by omega
end Go.Proofs.YtkagkfgnnhdofaaDoor

/-
  Which signals may show clear, and how one begins again: plain mathematics.
-/
import Derived.Test.YtalfcbgffgikkaaRcMath
namespace Go.Proofs.Ytalfcbgffgikkaa

/-- The signals that may show clear: ph the road's phase, pv whether it is proved, m the mode, gd whether all is good, r the routes, n how many tracks there are. -/
def posig (ph : Int) (pv : Bool) (m : Int) (gd : Bool) (r : Int) (n : Nat) : Int := if ph = 5 ∧ pv = true ∧ m = 0 ∧ gd = true ∧ 0 ≤ r then r % 2 ^ (min n 62) else 0
theorem po_pow (n : Nat) : (0 : Int) < 2 ^ n := Int.pow_pos (by decide)
theorem posig_range (ph : Int) (pv : Bool) (m : Int) (gd : Bool) (r : Int) (n : Nat) : 0 ≤ posig ph pv m gd r n ∧ posig ph pv m gd r n < 2 ^ (min n 62) := by
  have h := po_pow (min n 62)
  unfold posig
  split
  · exact ⟨Int.emod_nonneg _ (by omega), Int.emod_lt_of_pos _ h⟩
  · exact ⟨Int.le_refl 0, h⟩
/-- A signal shows clear only if all is as it should be, and its route is asked for. -/
theorem posig_some {ph : Int} {pv : Bool} {m : Int} {gd : Bool} {r : Int} {n : Nat} (h : posig ph pv m gd r n ≠ 0) : ph = 5 ∧ pv = true ∧ m = 0 ∧ gd = true ∧ 0 ≤ r ∧ posig ph pv m gd r n = r % 2 ^ (min n 62) := by
  by_cases hc : ph = 5 ∧ pv = true ∧ m = 0 ∧ gd = true ∧ 0 ≤ r
  · exact ⟨hc.1, hc.2.1, hc.2.2.1, hc.2.2.2.1, hc.2.2.2.2, by unfold posig; rw [if_pos hc]⟩
  · exact absurd (by unfold posig; rw [if_neg hc]) h
/-- A track that begins again: nothing is known of it but its faults. -/
def potk (g j : Bool) : Tk := ⟨false, 0, 0, g, 0, 0, j, false, 0, false, false⟩
def pobit (w : Int) (i : Nat) : Bool := decide (w / 2 ^ i % 2 = 1)
/-- The i-th track that begins again. -/
def porow (r : Rc) (had : Bool) (i : Nat) : Tk := if had = true then potk (pobit r.w i) (pobit r.j i) else potk false false
/-- How many there are. -/
def pon (n : Int) : Nat := (min (max n 0) 8).toNat
def potks (r : Rc) (had : Bool) (n : Int) : List Tk := (List.range (pon n)).map (porow r had)
/-- The phase that begins again. -/
def poph (r : Rc) (had : Bool) : Int := if had = true ∧ 0 ≤ r.p ∧ r.p ≤ 6 then (if r.p = 0 then 6 else r.p) else 3
theorem potks_len (r : Rc) (had : Bool) (n : Int) : (potks r had n).length = pon n := by unfold potks; rw [List.length_map, List.length_range]
theorem potks_at (r : Rc) (had : Bool) (n : Int) (i : Nat) (h : i < pon n) : (potks r had n)[i]? = some (porow r had i) := by
  unfold potks
  rw [List.getElem?_map, List.getElem?_range h]
  rfl
theorem poph_range (r : Rc) (had : Bool) : 1 ≤ poph r had ∧ poph r had ≤ 6 ∧ (poph r had = r.p ∨ (poph r had = 6 ∧ r.p = 0) ∨ poph r had = 3) := by
  unfold poph
  split
  · rename_i h
    split
    · exact ⟨by decide, by decide, Or.inr (Or.inl ⟨rfl, by assumption⟩)⟩
    · exact ⟨by omega, h.2.2, Or.inl rfl⟩
  · exact ⟨by decide, by decide, Or.inr (Or.inr rfl)⟩
/-- What survives of tracks begins again with just the same faults. -/
theorem porow_of {p : Int} {ls : List Tk} {i : Nat} {t : Tk} (hl : ls.length ≤ 8) (h : ls[i]? = some t) : porow (rcof p ls) true i = potk t.g t.j := by
  have ht : ls.take 8 = ls := List.take_of_length_le hl
  have hb : ∀ q : Tk → Bool, pobit (rcs q (ls.take 8)) i = q t := fun q => by
    unfold pobit
    rw [rcs_bit, ht, h]
    cases hq : q t
    · simp [hq]
    · simp [hq]
  unfold porow rcof
  rw [if_pos rfl, hb, hb]
end Go.Proofs.Ytalfcbgffgikkaa

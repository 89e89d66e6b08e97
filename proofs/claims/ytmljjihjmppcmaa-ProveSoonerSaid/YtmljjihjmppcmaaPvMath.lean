/-
  What is proved down, as numbers: one step of the count, and what is proved.
-/
import Derived.Test.YtmljjihjmppcmaaCore
namespace Go.Proofs.Ytmljjihjmppcmaa

/-- For how many ticks the barriers were down behind one tick. -/
def pvs (n : Int) (d : Bool) (l : Int) : Int := if d = true then (if (if l < 1 then 1 else l) ≤ n then (if l < 1 then 1 else l) else (if n < 0 then 0 else n) + 1) else 0
theorem pvs_no (n l : Int) : pvs n false l = 0 := by simp [pvs]
theorem pvs_yes (n l : Int) : pvs n true l = if (if l < 1 then 1 else l) ≤ n then (if l < 1 then 1 else l) else (if n < 0 then 0 else n) + 1 := by simp [pvs]
theorem pvs_bound {n l m : Int} {d : Bool} (h : pvs n d l = m) : 0 ≤ m ∧ (1 ≤ l → m ≤ l) ∧ (m = 0 ∨ d = true) ∧ (d = true → 1 ≤ l → l ≤ n → m = l) := by
  cases d
  · rw [pvs_no] at h
    exact ⟨by omega, by omega, Or.inl (by omega), fun h => by cases h⟩
  · rw [pvs_yes] at h
    by_cases h1 : l < 1
    · rw [if_pos h1] at h
      by_cases h2 : 1 ≤ n
      · rw [if_pos h2] at h; exact ⟨by omega, by omega, Or.inr rfl, by omega⟩
      · rw [if_neg h2] at h
        by_cases h3 : n < 0
        · rw [if_pos h3] at h; exact ⟨by omega, by omega, Or.inr rfl, by omega⟩
        · rw [if_neg h3] at h; exact ⟨by omega, by omega, Or.inr rfl, by omega⟩
    · rw [if_neg h1] at h
      by_cases h2 : l ≤ n
      · rw [if_pos h2] at h; exact ⟨by omega, by omega, Or.inr rfl, by omega⟩
      · rw [if_neg h2] at h
        by_cases h3 : n < 0
        · rw [if_pos h3] at h; exact ⟨by omega, by omega, Or.inr rfl, by omega⟩
        · rw [if_neg h3] at h; exact ⟨by omega, by omega, Or.inr rfl, by omega⟩
/-- For how many ticks, one behind the other, D was so. -/
def prun (D : Nat → Bool) : Nat → Nat
  | 0 => 0
  | i + 1 => if D i = true then prun D i + 1 else 0
/-- The lesser of a row's length and a bound. -/
def pcap (r l : Nat) : Nat := if r ≤ l then r else l
theorem prun_on (D : Nat → Bool) (i : Nat) : prun D (i + 1) = if D i = true then prun D i + 1 else 0 := rfl
theorem pvs_run (D : Nat → Bool) (i l : Nat) (hl : 1 ≤ l) : pvs (pcap (prun D i) l : Nat) (D i) (l : Int) = (pcap (prun D (i + 1)) l : Nat) := by
  rw [prun_on]
  generalize prun D i = r
  have h1 : ¬ (l : Int) < 1 := by omega
  cases D i
  · simp [pvs_no, pcap]
  · rw [pvs_yes, if_neg h1, if_pos rfl]
    unfold pcap
    by_cases h : r ≤ l
    · rw [if_pos h]
      have h3 : ¬ (r : Int) < 0 := by omega
      by_cases h2 : l ≤ r
      · have h4 : ¬ r + 1 ≤ l := by omega
        rw [if_pos (show (l : Int) ≤ (r : Int) by omega), if_neg h4]
      · rw [if_neg (show ¬ (l : Int) ≤ (r : Int) by omega), if_neg h3, if_pos (show r + 1 ≤ l by omega)]
        omega
    · rw [if_neg h, if_pos (show (l : Int) ≤ (l : Int) by omega), if_neg (show ¬ r + 1 ≤ l by omega)]
theorem prun_ge (D : Nat → Bool) : ∀ i j, j ≤ prun D i ↔ j ≤ i ∧ ∀ t, t < j → D (i - 1 - t) = true
  | 0, j => by
    simp only [prun]
    constructor
    · intro h; exact ⟨h, fun t ht => by omega⟩
    · intro h; exact h.1
  | i + 1, j => by
    simp only [prun]
    cases j with
    | zero => exact ⟨fun _ => ⟨by omega, fun t ht => by omega⟩, fun _ => by omega⟩
    | succ j =>
      cases hD : D i
      · simp only [Bool.false_eq_true, if_false]
        constructor
        · intro h; omega
        · intro h
          have := h.2 0 (by omega)
          simp [hD] at this
      · simp only [if_true]
        have ih := prun_ge D i j
        constructor
        · intro h
          have h1 := ih.1 (by omega)
          refine ⟨by omega, fun t ht => ?_⟩
          match t with
          | 0 => simpa using hD
          | t + 1 =>
            have := h1.2 t (by omega)
            rw [show i + 1 - 1 - (t + 1) = i - 1 - t by omega]; exact this
        · intro h
          have := ih.2 ⟨by omega, fun t ht => by
            have := h.2 (t + 1) (by omega)
            rw [show i + 1 - 1 - (t + 1) = i - 1 - t by omega] at this; exact this⟩
          omega
/-- The last k ticks up to i were all so. -/
def pall (D : Nat → Bool) (i : Nat) : Nat → Bool
  | 0 => true
  | k + 1 => pall D i k && D (i - k)
theorem pall_iff (D : Nat → Bool) (i : Nat) : ∀ k, pall D i k = true ↔ ∀ t, t < k → D (i - t) = true
  | 0 => ⟨fun _ t ht => by omega, fun _ => rfl⟩
  | k + 1 => by
    simp only [pall, Bool.and_eq_true, pall_iff D i k]
    constructor
    · rintro ⟨h1, h2⟩ t ht
      by_cases e : t = k
      · subst e; exact h2
      · exact h1 t (by omega)
    · intro h; exact ⟨fun t ht => h t (by omega), h k (by omega)⟩
/-- What is proved was so for the last l ticks, and what was so is proved. -/
theorem proved_run (D : Nat → Bool) (i l k : Nat) (hl : 1 ≤ l) (hk : k = l ∨ (k = i + 1 ∧ i + 1 < l)) :
    decide ((l : Int) ≤ (pcap (prun D (i + 1)) l : Nat) ∧ (1 : Int) ≤ (pcap (prun D (i + 1)) l : Nat)) = (decide (l ≤ i + 1) && pall D i k) := by
  have h := prun_ge D (i + 1) l
  have hp := pall_iff D i l
  have hc : (l ≤ pcap (prun D (i + 1)) l) ↔ l ≤ prun D (i + 1) := by
    unfold pcap
    by_cases h : prun D (i + 1) ≤ l
    · rw [if_pos h]
    · rw [if_neg h]; omega
  rcases hk with rfl | ⟨rfl, hk⟩
  · by_cases hh : k ≤ prun D (i + 1)
    · have h1 := h.1 hh
      rw [decide_eq_true (by omega), decide_eq_true (by omega), hp.2 (fun t ht => by simpa using h1.2 t ht)]
      rfl
    · rw [decide_eq_false (by omega)]
      by_cases h2 : k ≤ i + 1
      · rw [decide_eq_true h2]
        cases hq : pall D i k
        · rfl
        · exact absurd (h.2 ⟨h2, fun t ht => by simpa using hp.1 hq t ht⟩) hh
      · rw [decide_eq_false h2]; rfl
  · have : ¬ l ≤ prun D (i + 1) := fun hh => by have := (h.1 hh).1; omega
    rw [decide_eq_false (by omega), decide_eq_false (by omega)]
    rfl
end Go.Proofs.Ytmljjihjmppcmaa

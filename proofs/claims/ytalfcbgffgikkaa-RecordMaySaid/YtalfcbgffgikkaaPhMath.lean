/-
  What the road is shown, one behind the other: plain mathematics.
-/
import Derived.Test.YtalfcbgffgikkaaCore
namespace Go.Proofs.Ytalfcbgffgikkaa

/-- The times of a crossing: Amber, Red, Entry, Travel, Prove, Open, Override, Fresh, Approach, Warn. -/
structure PhT where
  am : Int
  re : Int
  en : Int
  tr : Int
  pr : Int
  op : Int
  ov : Int
  fr : Int
  ap : Int
  wa : Int
/-- What a step is told: to close, at once; entry down, up, exit down, up; an obstacle. -/
structure PhW where
  cl : Bool
  ur : Bool
  a : Bool
  b : Bool
  c : Bool
  d : Bool
  ob : Bool
/-- Times whose sum is one. -/
def PhOk (T : PhT) : Prop := 0 ≤ T.en ∧ T.en ≤ 6000 ∧ 0 ≤ T.ov ∧ T.ov ≤ 6000
/-- Times whose sum is one where it is asked for, at Since s. -/
def PhOkW (T : PhT) (s : Int) : Prop := 0 ≤ T.ov ∧ (T.en ≤ s → 0 ≤ T.en ∧ T.en + T.ov ≤ 9223372036854775807)
theorem PhOk.wide {T : PhT} (h : PhOk T) (s : Int) : PhOkW T s := by
  obtain ⟨a, b, c, d⟩ := h
  exact ⟨c, fun _ => ⟨a, by omega⟩⟩
/-- A tick longer. -/
def phl (s : Int) : Int := if s < 0 then 1 else if s < 1073741823 then s + 1 else 1073741824
/-- The next phase, if it comes now. -/
def phn (T : PhT) (p s : Int) (y : PhW) : Option Int :=
  if 1 ≤ p ∧ p ≤ 5 ∧ y.cl = false then some 6
  else if p = 0 then (if y.ur = true ∨ (y.cl = true ∧ T.op ≤ s) then some 1 else none)
  else if p = 1 then (if T.am ≤ s then some 2 else none)
  else if p = 2 then (if T.re ≤ s then some 3 else none)
  else if p = 3 then (if (T.en ≤ s ∧ y.ob = false) ∨ T.en + T.ov ≤ s then some 4 else none)
  else if p = 4 then (if y.a = true ∧ y.c = true then some 5 else none)
  else if p = 6 then (if y.ur = true then some 1 else if y.b = true ∧ y.d = true then some 0 else none)
  else if p = 5 ∨ p = 7 then none
  else some 7
/-- Where n comes next, or nothing does. -/
def phgo (n : Option Int) (p s : Int) : Int × Int := match n with
  | some q => (q, 1)
  | none => (p, phl s)
/-- One step: the phase, and since when. -/
def phs (T : PhT) (p s : Int) (y : PhW) : Int × Int := phgo (phn T p s y) p s
theorem phgo_some (q p s : Int) : phgo (some q) p s = (q, 1) := rfl
theorem phgo_none (p s : Int) : phgo none p s = (p, phl s) := rfl
theorem phn_range {T : PhT} {p s q : Int} {y : PhW} (h : phn T p s y = some q) : 0 ≤ q ∧ q ≤ 7 := by
  unfold phn at h
  repeat' split at h
  all_goals first | (cases h; done) | (injection h; omega)
/-- The ways to a next phase. -/
theorem phn_someW {T : PhT} {p s q : Int} {cl ur a b c d ob : Bool} (t1 : 0 ≤ T.ov) (h : phn T p s ⟨cl, ur, a, b, c, d, ob⟩ = some q) :
    (1 ≤ p ∧ p ≤ 5 ∧ cl = false ∧ q = 6) ∨ (p = 0 ∧ ur = true ∧ q = 1) ∨ (p = 0 ∧ ur = false ∧ cl = true ∧ T.op ≤ s ∧ q = 1) ∨ (p = 1 ∧ cl = true ∧ T.am ≤ s ∧ q = 2) ∨ (p = 2 ∧ cl = true ∧ T.re ≤ s ∧ q = 3) ∨
    (p = 3 ∧ cl = true ∧ T.en ≤ s ∧ ob = false ∧ q = 4) ∨ (p = 3 ∧ cl = true ∧ T.en ≤ s ∧ ob = true ∧ T.en + T.ov ≤ s ∧ q = 4) ∨ (p = 4 ∧ cl = true ∧ a = true ∧ c = true ∧ q = 5) ∨
    (p = 6 ∧ ur = true ∧ q = 1) ∨ (p = 6 ∧ ur = false ∧ b = true ∧ d = true ∧ q = 0) ∨ (p < 0 ∧ q = 7) ∨ (¬ p < 0 ∧ 7 < p ∧ q = 7) := by
  unfold phn at h
  dsimp only at h
  by_cases h0 : 1 ≤ p ∧ p ≤ 5 ∧ cl = false
  · rw [if_pos h0] at h; injection h with h; exact Or.inl ⟨h0.1, h0.2.1, h0.2.2, h.symm⟩
  rw [if_neg h0] at h
  have hcl : 1 ≤ p → p ≤ 5 → cl = true := fun a1 a2 => by
    cases cl
    · exact absurd ⟨a1, a2, rfl⟩ h0
    · rfl
  by_cases e0 : p = 0
  · rw [if_pos e0] at h
    split at h
    · injection h with h
      cases ur
      · simp_all
      · exact Or.inr (Or.inl ⟨e0, rfl, h.symm⟩)
    · cases h
  rw [if_neg e0] at h
  by_cases e1 : p = 1
  · rw [if_pos e1] at h
    split at h
    · injection h with h; simp_all
    · cases h
  rw [if_neg e1] at h
  by_cases e2 : p = 2
  · rw [if_pos e2] at h
    split at h
    · injection h with h; simp_all
    · cases h
  rw [if_neg e2] at h
  by_cases e3 : p = 3
  · rw [if_pos e3] at h
    split at h
    · rename_i hh
      injection h with h
      have := hcl (by omega) (by omega)
      cases ob
      · refine Or.inr (Or.inr (Or.inr (Or.inr (Or.inr (Or.inl ⟨e3, this, ?_, rfl, h.symm⟩)))))
        rcases hh with hh | hh
        · exact hh.1
        · omega
      · refine Or.inr (Or.inr (Or.inr (Or.inr (Or.inr (Or.inr (Or.inl ⟨e3, this, ?_, rfl, ?_, h.symm⟩))))))
        all_goals
          rcases hh with hh | hh
          · exact absurd hh.2 (by decide)
          · omega
    · cases h
  rw [if_neg e3] at h
  by_cases e4 : p = 4
  · rw [if_pos e4] at h
    have hc := hcl (by omega) (by omega)
    split at h
    · injection h with h; simp_all
    · cases h
  rw [if_neg e4] at h
  by_cases e6 : p = 6
  · rw [if_pos e6] at h
    cases ur
    · simp at h
      simp_all
    · simp at h
      simp_all
  rw [if_neg e6] at h
  by_cases e5 : p = 5 ∨ p = 7
  · rw [if_pos e5] at h; cases h
  · rw [if_neg e5] at h
    injection h with h
    simp_all
    omega
/-- The ways to none. -/
theorem phn_noneW {T : PhT} {p s : Int} {cl ur a b c d ob : Bool} (_t1 : 0 ≤ T.ov) (h : phn T p s ⟨cl, ur, a, b, c, d, ob⟩ = none) :
    (p = 0 ∧ ur = false ∧ cl = false) ∨ (p = 0 ∧ ur = false ∧ cl = true ∧ ¬ T.op ≤ s) ∨ (p = 1 ∧ cl = true ∧ ¬ T.am ≤ s) ∨ (p = 2 ∧ cl = true ∧ ¬ T.re ≤ s) ∨
    (p = 3 ∧ cl = true ∧ ¬ T.en ≤ s ∧ ¬ T.en + T.ov ≤ s) ∨ (p = 3 ∧ cl = true ∧ T.en ≤ s ∧ ob = true ∧ ¬ T.en + T.ov ≤ s) ∨ (p = 4 ∧ cl = true ∧ a = false) ∨ (p = 4 ∧ cl = true ∧ a = true ∧ c = false) ∨
    (p = 6 ∧ ur = false ∧ b = false) ∨ (p = 6 ∧ ur = false ∧ b = true ∧ d = false) ∨ (p = 5 ∧ cl = true) ∨ p = 7 := by
  unfold phn at h
  dsimp only at h
  by_cases h0 : 1 ≤ p ∧ p ≤ 5 ∧ cl = false
  · rw [if_pos h0] at h; cases h
  rw [if_neg h0] at h
  have hcl : 1 ≤ p → p ≤ 5 → cl = true := fun a1 a2 => by
    cases cl
    · exact absurd ⟨a1, a2, rfl⟩ h0
    · rfl
  by_cases e0 : p = 0
  · rw [if_pos e0] at h
    split at h
    · cases h
    · rename_i hh
      cases ur
      · cases cl <;> simp_all
      · simp at hh
  rw [if_neg e0] at h
  by_cases e1 : p = 1
  · rw [if_pos e1] at h
    have := hcl (by omega) (by omega)
    split at h
    · cases h
    · rename_i hh; exact Or.inr (Or.inr (Or.inl ⟨e1, this, hh⟩))
  rw [if_neg e1] at h
  by_cases e2 : p = 2
  · rw [if_pos e2] at h
    have := hcl (by omega) (by omega)
    split at h
    · cases h
    · rename_i hh; exact Or.inr (Or.inr (Or.inr (Or.inl ⟨e2, this, hh⟩)))
  rw [if_neg e2] at h
  by_cases e3 : p = 3
  · rw [if_pos e3] at h
    have := hcl (by omega) (by omega)
    split at h
    · cases h
    · rename_i hh
      by_cases g : T.en ≤ s
      · cases ob
        · exact absurd (Or.inl ⟨g, rfl⟩) hh
        · exact Or.inr (Or.inr (Or.inr (Or.inr (Or.inr (Or.inl ⟨e3, this, g, rfl, fun hx => hh (Or.inr hx)⟩)))))
      · exact Or.inr (Or.inr (Or.inr (Or.inr (Or.inl ⟨e3, this, g, fun hx => hh (Or.inr hx)⟩))))
  rw [if_neg e3] at h
  by_cases e4 : p = 4
  · rw [if_pos e4] at h
    have := hcl (by omega) (by omega)
    cases a <;> cases c <;> simp_all
  rw [if_neg e4] at h
  by_cases e6 : p = 6
  · rw [if_pos e6] at h
    cases ur <;> cases b <;> cases d <;> simp_all
  rw [if_neg e6] at h
  by_cases e5 : p = 5 ∨ p = 7
  · rcases e5 with e5 | e5
    · have := hcl (by omega) (by omega)
      simp_all
    · simp_all
  · rw [if_neg e5] at h; cases h
theorem phn_some {T : PhT} {p s q : Int} {cl ur a b c d ob : Bool} (ht : PhOk T) (h : phn T p s ⟨cl, ur, a, b, c, d, ob⟩ = some q) :
    (1 ≤ p ∧ p ≤ 5 ∧ cl = false ∧ q = 6) ∨ (p = 0 ∧ ur = true ∧ q = 1) ∨ (p = 0 ∧ ur = false ∧ cl = true ∧ T.op ≤ s ∧ q = 1) ∨ (p = 1 ∧ cl = true ∧ T.am ≤ s ∧ q = 2) ∨ (p = 2 ∧ cl = true ∧ T.re ≤ s ∧ q = 3) ∨
    (p = 3 ∧ cl = true ∧ T.en ≤ s ∧ ob = false ∧ q = 4) ∨ (p = 3 ∧ cl = true ∧ T.en ≤ s ∧ ob = true ∧ T.en + T.ov ≤ s ∧ q = 4) ∨ (p = 4 ∧ cl = true ∧ a = true ∧ c = true ∧ q = 5) ∨
    (p = 6 ∧ ur = true ∧ q = 1) ∨ (p = 6 ∧ ur = false ∧ b = true ∧ d = true ∧ q = 0) ∨ (p < 0 ∧ q = 7) ∨ (¬ p < 0 ∧ 7 < p ∧ q = 7) := phn_someW ht.2.2.1 h
theorem phn_none {T : PhT} {p s : Int} {cl ur a b c d ob : Bool} (ht : PhOk T) (h : phn T p s ⟨cl, ur, a, b, c, d, ob⟩ = none) :
    (p = 0 ∧ ur = false ∧ cl = false) ∨ (p = 0 ∧ ur = false ∧ cl = true ∧ ¬ T.op ≤ s) ∨ (p = 1 ∧ cl = true ∧ ¬ T.am ≤ s) ∨ (p = 2 ∧ cl = true ∧ ¬ T.re ≤ s) ∨
    (p = 3 ∧ cl = true ∧ ¬ T.en ≤ s ∧ ¬ T.en + T.ov ≤ s) ∨ (p = 3 ∧ cl = true ∧ T.en ≤ s ∧ ob = true ∧ ¬ T.en + T.ov ≤ s) ∨ (p = 4 ∧ cl = true ∧ a = false) ∨ (p = 4 ∧ cl = true ∧ a = true ∧ c = false) ∨
    (p = 6 ∧ ur = false ∧ b = false) ∨ (p = 6 ∧ ur = false ∧ b = true ∧ d = false) ∨ (p = 5 ∧ cl = true) ∨ p = 7 := phn_noneW ht.2.2.1 h
/-- What the road is shown in a phase. -/
def phAm (p : Int) : Bool := decide (p = 1)
def phRed (p : Int) : Bool := decide (¬ p = 0 ∧ ¬ p = 1)
def phBell (p : Int) : Bool := decide (¬ p = 0 ∧ ¬ p = 5 ∧ ¬ p = 6)
def phEn (p : Int) : Bool := decide (¬ p = 0 ∧ ¬ p = 1 ∧ ¬ p = 2 ∧ ¬ p = 6)
def phEx (p : Int) : Bool := decide (¬ p = 0 ∧ ¬ p = 1 ∧ ¬ p = 2 ∧ ¬ p = 3 ∧ ¬ p = 6)
end Go.Proofs.Ytalfcbgffgikkaa

/-
  Signals, and the trains that saw them: plain mathematics.
-/
import Derived.Test.YtdgaaikmhbppeaaCore
namespace Go.Proofs.Ytdgaaikmhbppeaa

/-- A signal: does it show clear; for how many ticks its train may still come. -/
structure Lo where
  c : Bool
  h : Int
/-- A tick later. -/
def losc (l : Lo) (may : Bool) (hold : Int) : Lo := if may = true then ⟨true, max hold 0⟩ else ⟨false, max (l.h - 1) 0⟩
/-- Is it locked? -/
def lokd (l : Lo) : Bool := l.c || decide (0 < l.h)
/-- Is one of them? -/
def loany (ls : List Lo) : Bool := ls.any lokd
/-- For how long a signal that showed clear is locked. -/
def lohold (ap fr : Int) : Int := min (ap + fr + 2) 9223372036854775807
theorem losc_yes (l : Lo) (hold : Int) : losc l true hold = ⟨true, max hold 0⟩ := rfl
theorem losc_no (l : Lo) (hold : Int) : losc l false hold = ⟨false, max (l.h - 1) 0⟩ := rfl
theorem losc_c (l : Lo) (may : Bool) (hold : Int) : (losc l may hold).c = may := by cases may <;> rfl
theorem losc_h (l : Lo) (may : Bool) (hold : Int) : 0 ≤ (losc l may hold).h := by
  cases may
  · rw [losc_no]; show 0 ≤ max _ _; omega
  · rw [losc_yes]; show 0 ≤ max _ _; omega
theorem loany_nil (ls : List Lo) : loany (ls.take 0) = false := by simp [loany]
theorem loany_take (ls : List Lo) (j : Nat) (y : Lo) (hy : ls[j]? = some y) : loany (ls.take (j + 1)) = (loany (ls.take j) || lokd y) := by
  unfold loany
  rw [List.take_add_one, hy]
  simp
theorem loany_hit {ls : List Lo} {j : Nat} {y : Lo} (hy : ls[j]? = some y) (h : lokd y = true) : loany ls = true :=
  List.any_eq_true.2 ⟨y, List.mem_of_getElem? hy, h⟩
theorem loany_more (ls : List Lo) (x : Lo) : loany (ls ++ [x]) = (loany ls || lokd x) := by
  unfold loany
  rw [List.any_append]
  simp
/-- A signal behind i ticks, in which it was to show what D says. -/
def lorun (D : Nat → Bool) (hold : Int) : Nat → Lo
  | 0 => ⟨false, 0⟩
  | i + 1 => losc (lorun D hold i) (D i) hold
/-- The last tick ahead of the i-th in which it showed clear. -/
def lolast (D : Nat → Bool) (hold : Int) : Nat → Int
  | 0 => -1 - hold
  | i + 1 => if D i = true then (i : Int) else lolast D hold i
theorem lorun_next (D : Nat → Bool) (hold : Int) (i : Nat) : lorun D hold (i + 1) = losc (lorun D hold i) (D i) hold := rfl
theorem lolast_next (D : Nat → Bool) (hold : Int) (i : Nat) : lolast D hold (i + 1) = if D i = true then (i : Int) else lolast D hold i := rfl
theorem lorun_hold (D : Nat → Bool) (hold : Int) (h1 : 1 ≤ hold) : ∀ i : Nat, (lorun D hold i).h = max (hold - ((i : Int) - 1 - lolast D hold i)) 0
  | 0 => by show (0 : Int) = max (hold - (((0 : Nat) : Int) - 1 - (-1 - hold))) 0; omega
  | i + 1 => by
    have ih := lorun_hold D hold h1 i
    rw [lorun_next, lolast_next]
    cases D i
    · rw [losc_no, if_neg (by decide)]
      show max ((lorun D hold i).h - 1) 0 = _
      omega
    · rw [losc_yes, if_pos rfl]
      show max hold 0 = _
      omega
/-- It is locked for hold ticks behind the last clear one, and not longer. -/
theorem lorun_locked (D : Nat → Bool) (hold : Int) (h1 : 1 ≤ hold) (i : Nat) : lokd (lorun D hold (i + 1)) = decide ((i : Int) - lolast D hold (i + 1) < hold) := by
  have h := lorun_hold D hold h1 (i + 1)
  have hc : (lorun D hold (i + 1)).c = D i := losc_c _ _ _
  unfold lokd
  rw [hc]
  cases hD : D i
  · rw [Bool.false_or]
    exact decide_eq_decide.2 (by omega)
  · rw [lolast_next, if_pos hD, Bool.true_or, decide_eq_true (by omega)]
theorem lorun_rng (D : Nat → Bool) (hold : Int) : ∀ i : Nat, 0 ≤ (lorun D hold i).h ∧ (lorun D hold i).h ≤ max hold 0
  | 0 => ⟨Int.le_refl 0, by show (0 : Int) ≤ max hold 0; omega⟩
  | i + 1 => by
    have ih := lorun_rng D hold i
    rw [lorun_next]
    cases D i
    · rw [losc_no]
      exact ⟨by show 0 ≤ max _ _; omega, by show max ((lorun D hold i).h - 1) 0 ≤ max hold 0; omega⟩
    · rw [losc_yes]
      exact ⟨by show 0 ≤ max _ _; omega, Int.le_refl _⟩
theorem lolast_rng (D : Nat → Bool) (hold : Int) (h0 : 0 ≤ hold) : ∀ i : Nat, -1 - hold ≤ lolast D hold i ∧ lolast D hold i ≤ (i : Int) - 1
  | 0 => ⟨Int.le_refl _, by show -1 - hold ≤ _; omega⟩
  | i + 1 => by
    have ih := lolast_rng D hold h0 i
    rw [lolast_next]
    split <;> omega
/-- A tick of the row, all told. -/
theorem lorun_tick (D : Nat → Bool) (hold : Int) (h1 : 1 ≤ hold) (k : Nat) (y : Bool) (hD : D k = y) : ∃ c h h' L, lorun D hold k = ⟨c, h⟩ ∧ lorun D hold (k + 1) = ⟨y, h'⟩ ∧ losc ⟨c, h⟩ y hold = ⟨y, h'⟩ ∧ (0 ≤ h ∧ h ≤ hold) ∧ lolast D hold (k + 1) = L ∧ (-1 - hold ≤ L ∧ L ≤ (k : Int)) ∧ lokd ⟨y, h'⟩ = decide ((k : Int) - L < hold) ∧ ((y = true ∧ L = (k : Int)) ∨ (y = false ∧ lolast D hold k = L)) := by
  have hc : (lorun D hold (k + 1)).c = y := by rw [← hD]; exact losc_c _ _ _
  have e1 : lorun D hold (k + 1) = ⟨y, (lorun D hold (k + 1)).h⟩ := by rw [← hc]
  have hr := lorun_rng D hold k
  have hl := lolast_rng D hold (by omega) (k + 1)
  have hn := lolast_next D hold k
  rw [hD] at hn
  refine ⟨(lorun D hold k).c, (lorun D hold k).h, (lorun D hold (k + 1)).h, _, rfl, e1, ?_, by omega, rfl, by omega, ?_, ?_⟩
  · rw [← e1, lorun_next, hD]
  · rw [← e1]; exact lorun_locked D hold h1 k
  · cases y
    · exact .inr ⟨rfl, by rw [hn, if_neg (by decide)]⟩
    · exact .inl ⟨rfl, by rw [hn, if_pos rfl]⟩
/-- What holds longer is locked whenever what holds shorter is. -/
theorem losc_more {a b : Lo} {hold more : Int} (may : Bool) (hm : hold ≤ more) (h : a.h ≤ b.h) : (losc a may hold).c = (losc b may more).c ∧ (losc a may hold).h ≤ (losc b may more).h ∧ (lokd (losc a may hold) = true → lokd (losc b may more) = true) := by
  cases may
  · rw [losc_no, losc_no]
    refine ⟨rfl, ?_, fun hl => ?_⟩
    · show max _ _ ≤ max _ _; omega
    · unfold lokd at hl ⊢
      simp at hl ⊢
      omega
  · rw [losc_yes, losc_yes]
    exact ⟨rfl, by show max _ _ ≤ max _ _; omega, fun _ => rfl⟩
theorem lorun_more (D : Nat → Bool) {hold more : Int} (hm : hold ≤ more) : ∀ i : Nat, (lorun D hold i).h ≤ (lorun D more i).h
  | 0 => Int.le_refl _
  | i + 1 => (losc_more (D i) hm (lorun_more D hm i)).2.1
/-- A tick of two rows, one of which holds longer. -/
theorem lorun_both (D : Nat → Bool) {hold more : Int} (hm : hold ≤ more) (k : Nat) (y : Bool) (hD : D k = y) : ∃ c h c2 h2 h' h2', lorun D hold k = ⟨c, h⟩ ∧ lorun D more k = ⟨c2, h2⟩ ∧ lorun D hold (k + 1) = ⟨y, h'⟩ ∧ lorun D more (k + 1) = ⟨y, h2'⟩ ∧ losc ⟨c, h⟩ y hold = ⟨y, h'⟩ ∧ losc ⟨c2, h2⟩ y more = ⟨y, h2'⟩ ∧ (0 ≤ h ∧ h ≤ max hold 0) ∧ (0 ≤ h2 ∧ h2 ≤ max more 0) ∧ (lokd ⟨y, h'⟩ = true → lokd ⟨y, h2'⟩ = true) := by
  have e1 : ∀ z, lorun D z (k + 1) = ⟨y, (lorun D z (k + 1)).h⟩ := fun z => by
    have hc : (lorun D z (k + 1)).c = y := by rw [← hD]; exact losc_c _ _ _
    rw [← hc]
  refine ⟨(lorun D hold k).c, (lorun D hold k).h, (lorun D more k).c, (lorun D more k).h, (lorun D hold (k + 1)).h, (lorun D more (k + 1)).h, rfl, rfl, e1 _, e1 _, ?_, ?_, lorun_rng D hold k, lorun_rng D more k, ?_⟩
  · rw [← e1, lorun_next, hD]
  · rw [← e1, lorun_next, hD]
  · rw [← e1, ← e1]; exact (losc_more (D k) hm (lorun_more D hm k)).2.2
theorem losc_clear (x : Lo) (may : Bool) (hold : Int) : ((may = true) ∨ (losc x may hold).h < max x.h 1) ∧ (may = true → losc ⟨false, 0⟩ may hold = losc x may hold) ∧ lokd (losc x may hold) = (may || decide (1 < x.h)) := by
  cases may
  · rw [losc_no]
    refine ⟨Or.inr (by show max _ _ < max _ _; omega), fun h => (by cases h), ?_⟩
    unfold lokd
    simp
    omega
  · exact ⟨Or.inl rfl, fun _ => rfl, rfl⟩
end Go.Proofs.Ytdgaaikmhbppeaa

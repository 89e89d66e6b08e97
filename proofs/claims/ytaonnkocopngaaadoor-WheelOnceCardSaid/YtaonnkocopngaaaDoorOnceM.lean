/-
  Timers that are armed at once, as lists: which fire at which tick, and how often each has.
-/
import Derived.Test.YtaonnkocopngaaaDoorMine
namespace Go.Proofs.YtaonnkocopngaaaDoor

/-- The ticks of timer i. -/
def tk (xs : List Int) (i : Nat) : Nat := (xs.getD i 0).toNat
/-- The first j timers, all armed at once. -/
def Put (xs : List Int) (j : Nat) : List Tm := (List.range j).map fun i => ⟨i, (i : Int), tk xs i⟩
theorem put_next (xs : List Int) (j : Nat) : Put xs j ++ [⟨j, (j : Int), 0 + tk xs j⟩] = Put xs (j + 1) := by simp [Put, List.range_succ]
theorem put_least (xs : List Int) (n i : Nat) (h : i < n) : Least n (Put xs i) i :=
  ⟨h, fun a ha => by obtain ⟨j, hj, rfl⟩ := List.mem_map.1 ha; have := List.mem_range.1 hj; show j ≠ i; omega, fun j hj => ⟨⟨j, (j : Int), tk xs j⟩, List.mem_map.2 ⟨j, List.mem_range.2 hj, rfl⟩, rfl⟩⟩
/-- Those that are left behind s ticks. -/
def Rem (xs : List Int) (n s : Nat) : List Tm := (Put xs n).filter fun a => decide (s < a.due)
/-- Those that fire at the next tick. -/
def Fd (xs : List Int) (n s : Nat) : List Nat := (List.range n).filter fun i => tk xs i == s + 1
/-- How often each has fired, q of the next ones counted. -/
def Cq (xs : List Int) (n s q : Nat) : List Int := (List.range n).map fun i => if tk xs i ≤ s ∨ i ∈ (Fd xs n s).take q then 1 else 0
theorem rem_fire (xs : List Int) (n s : Nat) : ((Rem xs n s).filter fun a => a.due == s + 1).map Tm.tag = (Fd xs n s).map fun i : Nat => (i : Int) := by
  unfold Rem Put Fd
  rw [List.filter_filter, List.filter_map, List.map_map]
  rw [show (List.range n).filter ((fun a : Tm => a.due == s + 1 && decide (s < a.due)) ∘ fun i => (⟨i, (i : Int), tk xs i⟩ : Tm)) = (List.range n).filter fun i => tk xs i == s + 1 from ?_]
  · rfl
  · apply List.filter_congr
    intro i _
    rw [Bool.eq_iff_iff]
    simp
    omega
theorem rem_rest (xs : List Int) (n s : Nat) : (Rem xs n s).filter (fun a => a.due != s + 1) = Rem xs n (s + 1) := by
  unfold Rem
  rw [List.filter_filter]
  apply List.filter_congr
  intro a _
  rw [Bool.eq_iff_iff]
  simp
  omega
theorem rem_zero (xs : List Int) (n : Nat) (h : ∀ i, i < n → 1 ≤ tk xs i) : Rem xs n 0 = Put xs n := by
  unfold Rem
  rw [List.filter_eq_self]
  intro a ha
  obtain ⟨i, hi, rfl⟩ := List.mem_map.1 ha
  have := h i (List.mem_range.1 hi)
  simp
  omega
theorem rem_end (xs : List Int) (n mo : Nat) (h : ∀ i, i < n → tk xs i ≤ mo) : Rem xs n mo = [] := by
  unfold Rem
  rw [List.filter_eq_nil_iff]
  intro a ha
  obtain ⟨i, hi, rfl⟩ := List.mem_map.1 ha
  have := h i (List.mem_range.1 hi)
  simp
  omega
theorem fd_mem {xs : List Int} {n s p : Nat} (h : p ∈ Fd xs n s) : p < n ∧ tk xs p = s + 1 := by
  obtain ⟨h1, h2⟩ := List.mem_filter.1 h
  exact ⟨List.mem_range.1 h1, by simpa using h2⟩
theorem fd_lt {xs : List Int} {n s i j a c : Nat} (hij : i < j) (hi : (Fd xs n s)[i]? = some a) (hj : (Fd xs n s)[j]? = some c) : a < c := by
  have hp : (Fd xs n s).Pairwise (· < ·) := List.Pairwise.sublist List.filter_sublist List.pairwise_lt_range
  obtain ⟨h1, e1⟩ := List.getElem?_eq_some_iff.1 hi
  obtain ⟨h2, e2⟩ := List.getElem?_eq_some_iff.1 hj
  have := List.pairwise_iff_getElem.1 hp i j h1 h2 hij
  rw [e1, e2] at this
  exact this
theorem cq_at (xs : List Int) (n s q p : Nat) (h : p < n) : (Cq xs n s q)[p]? = some (if tk xs p ≤ s ∨ p ∈ (Fd xs n s).take q then 1 else 0) := by
  unfold Cq
  rw [List.getElem?_map, List.getElem?_range h]
  rfl
theorem cq_len (xs : List Int) (n s q : Nat) : (Cq xs n s q).length = n := by simp [Cq]
theorem fd_new {xs : List Int} {n s q p : Nat} (h : (Fd xs n s)[q]? = some p) : p ∉ (Fd xs n s).take q := by
  intro hm
  obtain ⟨i, hi, e⟩ := List.mem_take_iff_getElem.1 hm
  have := fd_lt (xs := xs) (n := n) (s := s) (i := i) (j := q) (a := p) (c := p) (by omega) (by rw [List.getElem?_eq_getElem (by omega), e]) h
  omega
theorem cq_zero {xs : List Int} {n s q p : Nat} (h : (Fd xs n s)[q]? = some p) : (Cq xs n s q)[p]? = some 0 := by
  obtain ⟨h1, h2⟩ := fd_mem (List.mem_of_getElem? h)
  rw [cq_at _ _ _ _ _ h1, if_neg]
  rintro (h3 | h3)
  · omega
  · exact fd_new h h3
theorem cq_next {xs : List Int} {n s q p : Nat} (h : (Fd xs n s)[q]? = some p) : (Cq xs n s q).set p 1 = Cq xs n s (q + 1) := by
  obtain ⟨h1, h2⟩ := fd_mem (List.mem_of_getElem? h)
  apply List.ext_getElem?
  intro i
  rw [List.getElem?_set]
  by_cases e : p = i
  · subst e
    rw [if_pos rfl, if_pos (by rw [cq_len]; exact h1), cq_at _ _ _ _ _ h1, if_pos]
    right
    rw [List.take_add_one, h]
    simp
  · rw [if_neg e]
    by_cases hi : i < n
    · rw [cq_at _ _ _ _ _ hi, cq_at _ _ _ _ _ hi, List.take_add_one, h]
      have : i ≠ p := fun h => e h.symm
      simp [this]
    · rw [List.getElem?_eq_none (by rw [cq_len]; omega), List.getElem?_eq_none (by rw [cq_len]; omega)]
theorem cq_end (xs : List Int) (n s : Nat) : Cq xs n s (Fd xs n s).length = Cq xs n (s + 1) 0 := by
  unfold Cq
  apply List.map_congr_left
  intro i hi
  rw [List.take_length, List.take_zero]
  have : (tk xs i ≤ s ∨ i ∈ Fd xs n s) ↔ (tk xs i ≤ s + 1 ∨ i ∈ ([] : List Nat)) := by
    constructor
    · rintro (h | h)
      · left; omega
      · left; have := (fd_mem h).2; omega
    · rintro (h | h)
      · by_cases c : tk xs i ≤ s
        · exact .inl c
        · right
          exact List.mem_filter.2 ⟨hi, by simp; omega⟩
      · simp at h
  simp only [this]
theorem cq_start (xs : List Int) (n : Nat) (h : ∀ i, i < n → 1 ≤ tk xs i) : Cq xs n 0 0 = List.replicate n 0 := by
  apply List.ext_getElem?
  intro i
  by_cases hi : i < n
  · rw [cq_at _ _ _ _ _ hi, if_neg, List.getElem?_replicate, if_pos hi]
    have := h i hi
    simp
    omega
  · rw [List.getElem?_eq_none (by rw [cq_len]; omega), List.getElem?_eq_none (by simp; omega)]
theorem cq_final (xs : List Int) (n mo i : Nat) (h : ∀ i, i < n → tk xs i ≤ mo) (hi : i < n) : (Cq xs n mo 0)[i]? = some 1 := by
  rw [cq_at _ _ _ _ _ hi, if_pos (.inl (h i hi))]
end Go.Proofs.YtaonnkocopngaaaDoor

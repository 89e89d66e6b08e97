/-
  Timers in a wheel of four levels, as numbers and lists: in which slot a timer lies, what sinking does, which timers fire. No program is named.
-/
namespace Go.Proofs.YtaonnkocopngaaaDoor

/-- A timer that is armed: its number, its tag, the time at which it fires. -/
structure Tm where
  num : Nat
  tag : Int
  due : Nat

/-- The slot of a timer, no level below m counted. -/
def six3 (due : Nat) : Nat := 192 + due / 262144 % 64
def six2 (now due : Nat) : Nat := if due / 262144 = now / 262144 then 128 + due / 4096 % 64 else six3 due
def six1 (now due : Nat) : Nat := if due / 4096 = now / 4096 then 64 + due / 64 % 64 else six2 now due
def six (now due : Nat) : Nat := if due / 64 = now / 64 then due % 64 else six1 now due

theorem six_lt (now due : Nat) : six now due < 256 := by unfold six six1 six2 six3; (repeat' split) <;> omega

theorem sink0 (now due : Nat) (h : (now + 1) % 64 ≠ 0) : six now due = six (now + 1) due := by
  have h1 : now / 64 = (now + 1) / 64 := by omega
  have h2 : now / 4096 = (now + 1) / 4096 := by omega
  have h3 : now / 262144 = (now + 1) / 262144 := by omega
  unfold six six1 six2
  rw [h1, h2, h3]
theorem sink1 (now due : Nat) (hd : now < due) (h : (now + 1) % 64 = 0) (h' : (now + 1) % 4096 ≠ 0) : six now due = six1 (now + 1) due := by
  have h1 : ¬ due / 64 = now / 64 := by omega
  have h2 : now / 4096 = (now + 1) / 4096 := by omega
  have h3 : now / 262144 = (now + 1) / 262144 := by omega
  unfold six six1 six2
  rw [if_neg h1, h2, h3]
theorem sink2 (now due : Nat) (hd : now < due) (h : (now + 1) % 4096 = 0) (h' : (now + 1) % 262144 ≠ 0) : six now due = six2 (now + 1) due := by
  have h1 : ¬ due / 64 = now / 64 := by omega
  have h2 : ¬ due / 4096 = now / 4096 := by omega
  have h3 : now / 262144 = (now + 1) / 262144 := by omega
  unfold six six1 six2
  rw [if_neg h1, if_neg h2, h3]
theorem sink3 (now due : Nat) (hd : now < due) (h : (now + 1) % 262144 = 0) : six now due = six3 due := by
  have h1 : ¬ due / 64 = now / 64 := by omega
  have h2 : ¬ due / 4096 = now / 4096 := by omega
  have h3 : ¬ due / 262144 = now / 262144 := by omega
  unfold six six1 six2
  rw [if_neg h1, if_neg h2, if_neg h3]
theorem low3 (now due : Nat) (h : now % 262144 = 0) (h1 : now ≤ due) (h2 : due < now + 16777216) : (if six3 due = 192 + now / 262144 % 64 then 128 + due / 4096 % 64 else six3 due) = six2 now due := by
  unfold six2 six3
  by_cases c : due / 262144 = now / 262144
  · rw [if_pos c, if_pos (by omega)]
  · rw [if_neg c, if_neg (by omega)]
theorem low2 (now due : Nat) : (if six2 now due = 128 + now / 4096 % 64 then 64 + due / 64 % 64 else six2 now due) = six1 now due := by
  unfold six1
  by_cases c : due / 4096 = now / 4096
  · rw [if_pos c, if_pos]
    unfold six2
    rw [if_pos (by omega)]
    omega
  · rw [if_neg c, if_neg]
    unfold six2 six3
    split <;> omega
theorem low1 (now due : Nat) : (if six1 now due = 64 + now / 64 % 64 then due % 64 else six1 now due) = six now due := by
  unfold six
  by_cases c : due / 64 = now / 64
  · rw [if_pos c, if_pos]
    unfold six1
    rw [if_pos (by omega)]
    omega
  · rw [if_neg c, if_neg]
    unfold six1 six2 six3
    repeat' split
    all_goals omega
theorem six3_ge (due : Nat) : 192 ≤ six3 due := by unfold six3; omega
theorem six2_ge (now due : Nat) : 128 ≤ six2 now due := by unfold six2 six3; split <;> omega
theorem six1_ge (now due : Nat) : 64 ≤ six1 now due := by unfold six1 six2 six3; (repeat' split) <;> omega
/-- In the slot of now there lie just those that fire now. -/
theorem six_now (now due : Nat) : six now due = now % 64 ↔ due = now := by
  unfold six
  by_cases c : due / 64 = now / 64
  · rw [if_pos c]; omega
  · rw [if_neg c]
    have := six1_ge now due
    omega

/-- The timers of a slot, in their order. -/
def slo (f : Tm → Nat) (A : List Tm) (k : Nat) : List Nat := (A.filter fun a => f a == k).map Tm.num
/-- What lowering leaves: the slot k is empty, and its timers lie behind those of the slots that t tells. -/
def low (S : Nat → List Nat) (k : Nat) (t : Nat → Nat) (j : Nat) : List Nat := if j = k then [] else S j ++ (S k).filter fun i => t i == j

theorem low_slo (f g : Tm → Nat) (A : List Tm) (k : Nat) (t : Nat → Nat) (ht : ∀ a ∈ A, t a.num = g a) (hg : ∀ a ∈ A, g a ≠ k) (he : ∀ a ∈ A, ∀ c ∈ A, f a ≠ g c) (j : Nat) :
    low (slo f A) k t j = slo (fun a => if f a = k then g a else f a) A j := by
  unfold low
  split
  · rename_i h
    subst h
    unfold slo
    rw [List.filter_eq_nil_iff.2]
    · rfl
    · intro a ha
      have := hg a ha
      simp only [beq_iff_eq]
      split <;> simp_all
  · rename_i hj
    have e2 : (slo f A k).filter (fun i => t i == j) = (A.filter fun a => f a == k && g a == j).map Tm.num := by
      unfold slo
      rw [List.filter_map, List.filter_filter]
      congr 1
      apply List.filter_congr
      intro a ha
      simp only [Function.comp, ht a ha]
      rw [Bool.and_comm]
    rw [e2]
    by_cases hex : ∃ c ∈ A, f c = k ∧ g c = j
    · obtain ⟨c, hc, hck, hcj⟩ := hex
      have e1 : slo f A j = [] := by
        unfold slo
        rw [List.filter_eq_nil_iff.2]
        · rfl
        · intro a ha
          have := he a ha c hc
          simp; omega
      rw [e1, List.nil_append]
      unfold slo
      congr 1
      apply List.filter_congr
      intro a ha
      have h1 := he a ha c hc
      by_cases h : f a = k
      · simp [h]
      · have h3 : f a ≠ j := by omega
        simp only [if_neg h, beq_false_of_ne h, beq_false_of_ne h3, Bool.false_and]
    · have e3 : (A.filter fun a => f a == k && g a == j) = [] := by
        rw [List.filter_eq_nil_iff]
        intro a ha
        simp
        intro h1 h2
        exact hex ⟨a, ha, h1, h2⟩
      rw [e3, List.map_nil, List.append_nil]
      unfold slo
      congr 1
      apply List.filter_congr
      intro a ha
      by_cases h : f a = k
      · have : g a ≠ j := fun h2 => hex ⟨a, ha, h, h2⟩
        have h3 : k ≠ j := fun h => hj h.symm
        simp only [h, beq_false_of_ne h3, if_true, beq_false_of_ne this]
      · simp [h]

theorem slo_congr (f g : Tm → Nat) (A : List Tm) (h : ∀ a ∈ A, f a = g a) (j : Nat) : slo f A j = slo g A j := by
  unfold slo
  congr 1
  apply List.filter_congr
  intro a ha
  rw [h a ha]

/-- What sinking leaves at the time now. -/
def sunk (S : Nat → List Nat) (now : Nat) (d : Nat → Nat) : Nat → List Nat :=
  if now % 262144 = 0 then low (low (low S (192 + now / 262144 % 64) fun i => 128 + d i / 4096 % 64) (128 + now / 4096 % 64) fun i => 64 + d i / 64 % 64) (64 + now / 64 % 64) fun i => d i % 64
  else if now % 4096 = 0 then low (low S (128 + now / 4096 % 64) fun i => 64 + d i / 64 % 64) (64 + now / 64 % 64) fun i => d i % 64
  else if now % 64 = 0 then low S (64 + now / 64 % 64) fun i => d i % 64
  else S

theorem sunk_slo (now : Nat) (A : List Tm) (d : Nat → Nat) (hd : ∀ a ∈ A, d a.num = a.due) (h1 : ∀ a ∈ A, now < a.due) (h2 : ∀ a ∈ A, a.due ≤ now + 16777216) (j : Nat) :
    sunk (slo (fun a => six now a.due) A) (now + 1) d j = slo (fun a => six (now + 1) a.due) A j := by
  have last : ∀ j, low (slo (fun a => six1 (now + 1) a.due) A) (64 + (now + 1) / 64 % 64) (fun i => d i % 64) j = slo (fun a => six (now + 1) a.due) A j := by
    intro j
    rw [low_slo _ (fun a => a.due % 64) A _ _ (fun a ha => by simp only [hd a ha]) (fun a _ => by omega) (fun a _ c _ => by have := six1_ge (now + 1) a.due; omega)]
    apply slo_congr
    intro a _
    exact low1 _ _
  have mid : ∀ j, low (slo (fun a => six2 (now + 1) a.due) A) (128 + (now + 1) / 4096 % 64) (fun i => 64 + d i / 64 % 64) j = slo (fun a => six1 (now + 1) a.due) A j := by
    intro j
    rw [low_slo _ (fun a => 64 + a.due / 64 % 64) A _ _ (fun a ha => by simp only [hd a ha]) (fun a _ => by omega) (fun a _ c _ => by have := six2_ge (now + 1) a.due; omega)]
    apply slo_congr
    intro a _
    exact low2 _ _
  unfold sunk
  split
  · rename_i hc
    have top : ∀ j, low (slo (fun a => six now a.due) A) (192 + (now + 1) / 262144 % 64) (fun i => 128 + d i / 4096 % 64) j = slo (fun a => six2 (now + 1) a.due) A j := by
      intro j
      rw [low_slo _ (fun a => 128 + a.due / 4096 % 64) A _ _ (fun a ha => by simp only [hd a ha]) (fun a _ => by omega) (fun a ha c _ => by have := six3_ge a.due; rw [sink3 now a.due (h1 a ha) hc]; omega)]
      apply slo_congr
      intro a ha
      rw [sink3 now a.due (h1 a ha) hc]
      exact low3 _ _ hc (by have := h1 a ha; omega) (by have := h2 a ha; omega)
    rw [funext top, funext mid, last]
  · split
    · rename_i hn hc
      rw [show slo (fun a => six now a.due) A = slo (fun a => six2 (now + 1) a.due) A from funext fun j => slo_congr _ _ A (fun a ha => sink2 now a.due (h1 a ha) hc hn) j, funext mid, last]
    · split
      · rename_i hn hc
        rw [show slo (fun a => six now a.due) A = slo (fun a => six1 (now + 1) a.due) A from funext fun j => slo_congr _ _ A (fun a ha => sink1 now a.due (h1 a ha) hc hn) j, last]
      · rename_i hc
        exact slo_congr _ _ A (fun a _ => sink0 now a.due hc) j
end Go.Proofs.YtaonnkocopngaaaDoor

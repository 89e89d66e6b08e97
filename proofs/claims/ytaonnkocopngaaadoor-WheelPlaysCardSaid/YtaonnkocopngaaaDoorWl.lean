/-
  A wheel as what it is for its caller: its time, and its timers that are armed, in the order in which they were armed.
-/
import Derived.Test.YtaonnkocopngaaaDoorTick
namespace Go.Proofs.YtaonnkocopngaaaDoor
open Go.RowKit

theorem sub_len : ∀ (l m : List Nat), l.Nodup → (∀ x ∈ l, x ∈ m) → l.length ≤ m.length
  | [], _, _, _ => Nat.zero_le _
  | x :: t, m, hd, hs => by
    have hx : x ∈ m := hs x (by simp)
    obtain ⟨hn, ht⟩ := List.nodup_cons.1 hd
    have := sub_len t (m.erase x) ht (fun y hy => by
      have : y ≠ x := fun e => hn (e ▸ hy)
      exact (List.mem_erase_of_ne this).2 (hs y (by simp [hy])))
    rw [List.length_erase_of_mem hx] at this
    have : 0 < m.length := List.length_pos_of_mem hx
    simp only [List.length_cons]
    omega
theorem nodup_lt (n : Nat) (l : List Nat) (hd : l.Nodup) (hl : ∀ x ∈ l, x < n) : l.length ≤ n := by
  have := sub_len l (List.range n) hd (fun x hx => List.mem_range.2 (hl x hx))
  simpa using this

/-- The pool's timers are as the list says. -/
structure Fits (n now : Nat) (A : List Tm) (en : Nat → Ent) : Prop where
  nod : (A.map Tm.num).Nodup
  num : ∀ a ∈ A, a.num < n
  due : ∀ a ∈ A, now < a.due ∧ a.due ≤ now + 16777215
  ent : ∀ a ∈ A, en a.num = ⟨true, a.tag, a.due⟩
  free : ∀ i, (∀ a ∈ A, a.num ≠ i) → en i = ⟨false, 0, 0⟩
  n64 : n ≤ 64
theorem Fits.len {n now : Nat} {A : List Tm} {en : Nat → Ent} (h : Fits n now A en) : A.length ≤ n := by
  have := nodup_lt n (A.map Tm.num) h.nod (fun x hx => by obtain ⟨a, ha, rfl⟩ := List.mem_map.1 hx; exact h.num a ha)
  simpa using this
theorem Fits.tim {n now : Nat} {A : List Tm} {en : Nat → Ent} (h : Fits n now A en) (hn : now ≤ 1000000000) (i : Nat) : Tim (en i).due := by
  by_cases c : ∃ a ∈ A, a.num = i
  · obtain ⟨a, ha, rfl⟩ := c
    rw [h.ent a ha]
    have := (h.due a ha).2
    show a.due < _
    omega
  · rw [h.free i (fun a ha e => c ⟨a, ha, e⟩)]
    show 0 < _
    omega
theorem Fits.armed {n now : Nat} {A : List Tm} {en : Nat → Ent} (h : Fits n now A en) (i : Nat) : (en i).armed = true ↔ ∃ a ∈ A, a.num = i := by
  by_cases c : ∃ a ∈ A, a.num = i
  · obtain ⟨a, ha, rfl⟩ := c
    rw [h.ent a ha]
    simp
    exact ⟨a, ha, rfl⟩
  · rw [h.free i (fun a ha e => c ⟨a, ha, e⟩)]
    simp
    exact fun a ha e => c ⟨a, ha, e⟩
theorem Fits.count {n now : Nat} {A : List Tm} {en : Nat → Ent} (h : Fits n now A en) : (List.range n).countP (fun i => !(en i).armed) + A.length = n := by
  have e := List.length_eq_countP_add_countP (fun i => (en i).armed) (l := List.range n)
  have e2 : (List.range n).countP (fun i => (en i).armed) = A.length := by
    rw [List.countP_eq_length_filter]
    apply Nat.le_antisymm
    · have := sub_len ((List.range n).filter fun i => (en i).armed) (A.map Tm.num) (List.Nodup.sublist List.filter_sublist List.nodup_range) (fun x hx => by
        obtain ⟨a, ha, e⟩ := (h.armed x).1 (List.mem_filter.1 hx).2
        exact List.mem_map.2 ⟨a, ha, e⟩)
      simpa using this
    · have := sub_len (A.map Tm.num) ((List.range n).filter fun i => (en i).armed) h.nod (fun x hx => by
        obtain ⟨a, ha, e⟩ := List.mem_map.1 hx
        exact List.mem_filter.2 ⟨List.mem_range.2 (by rw [← e]; exact h.num a ha), (h.armed x).2 ⟨a, ha, e⟩⟩)
      simpa using this
  rw [e2] at e
  simp only [List.length_range] at e
  have e3 : (List.range n).countP (fun i => !(en i).armed) = (List.range n).countP (fun a => decide ¬((en a).armed = true)) := by
    apply List.countP_congr
    intro x _
    simp
  omega
theorem slo_len (f : Tm → Nat) (A : List Tm) (k : Nat) : (slo f A k).length ≤ A.length := by
  unfold slo
  rw [List.length_map]
  exact List.length_filter_le _ _
theorem slo_mem {f : Tm → Nat} {A : List Tm} {k i : Nat} (h : i ∈ slo f A k) : ∃ a ∈ A, a.num = i ∧ f a = k := by
  obtain ⟨a, ha, e⟩ := List.mem_map.1 h
  obtain ⟨h1, h2⟩ := List.mem_filter.1 ha
  exact ⟨a, h1, e, by simpa using h2⟩
theorem slo_nodup (f : Tm → Nat) (A : List Tm) (k : Nat) (h : (A.map Tm.num).Nodup) : (slo f A k).Nodup :=
  List.Nodup.sublist (List.Sublist.map _ List.filter_sublist) h

/-- A wheel at block b of n timers, at the time now, of which those of A are armed; its blocks are those of fp. -/
def Wl (w : World) (b n now : Nat) (A : List Tm) (fp : Nat → Prop) : Prop :=
  ∃ tb vs en, Wh w b tb n now vs en (slo (fun a => six now a.due) A) ∧ Fits n now A en ∧ fp = Fp b tb vs

variable {b n now : Nat} {A : List Tm} {fp : Nat → Prop} {w w' : World}
theorem Wl.keep {F : Nat → Prop} (h : Wl w b n now A fp) (hk : Keep F w w') (hn : ∀ g, fp g → ¬ F g) : Wl w' b n now A fp := by
  obtain ⟨tb, vs, en, h1, h2, rfl⟩ := h
  exact ⟨tb, vs, en, h1.keep hk hn, h2, rfl⟩
theorem Wl.below (h : Wl w b n now A fp) (hb : Below w.heap.size w w') : Wl w' b n now A fp := h.keep (Keep.of_below (F := fun _ => False) hb) (fun _ _ h => h)
theorem Wl.lt (h : Wl w b n now A fp) : ∀ g, fp g → g < w.heap.size := by
  obtain ⟨tb, vs, en, h1, h2, rfl⟩ := h
  exact h1.flt
theorem Wl.len (h : Wl w b n now A fp) : A.length ≤ n ∧ n ≤ 64 := by
  obtain ⟨tb, vs, en, h1, h2, rfl⟩ := h
  exact ⟨h2.len, h2.n64⟩

/-- What is left of a wheel behind a call of its own. -/
def After (w w' : World) (b n now : Nat) (A : List Tm) (fp : Nat → Prop) : Prop :=
  ∃ fp', Wl w' b n now A fp' ∧ Keep fp w w' ∧ ∀ g, fp' g → fp g ∨ w.heap.size ≤ g

theorem tick_list (A : List Tm) (now : Nat) : slo (fun a => six now a.due) A (now % 64) = (A.filter fun a => a.due == now).map Tm.num := by
  unfold slo
  congr 1
  apply List.filter_congr
  intro a _
  rw [Bool.eq_iff_iff]
  simp only [beq_iff_eq]
  exact six_now now a.due
theorem tick_rest (A : List Tm) (now : Nat) : upd (slo (fun a => six now a.due) A) (now % 64) [] = slo (fun a => six now a.due) (A.filter fun a => a.due != now) := by
  funext j
  unfold slo
  rw [List.filter_filter]
  by_cases e : j = now % 64
  · subst e
    rw [upd_same, List.filter_eq_nil_iff.2]
    · rfl
    · intro a _
      simp
      intro h
      exact (six_now now a.due).1 h
  · rw [upd_other _ _ _ e]
    congr 1
    apply List.filter_congr
    intro a _
    by_cases c : a.due = now
    · have : six now a.due ≠ j := fun h => e (by rw [← h]; exact (six_now now a.due).2 c)
      simp [c, beq_false_of_ne]
      rw [c] at this
      exact this
    · simp [c]
theorem Fits.tick {en : Nat → Ent} (h : Fits n now A en) : Fits n (now + 1) (A.filter fun a => a.due != now + 1) (freed en ((A.filter fun a => a.due == now + 1).map Tm.num)) := by
  have key : ∀ a ∈ A, a.num ∈ (A.filter fun a => a.due == now + 1).map Tm.num → a.due = now + 1 := by
    intro a ha hm
    obtain ⟨c, hc, e⟩ := List.mem_map.1 hm
    obtain ⟨h1, h2⟩ := List.mem_filter.1 hc
    obtain ⟨i, hi, ei⟩ := List.mem_iff_getElem.1 ha
    obtain ⟨j, hj, ej⟩ := List.mem_iff_getElem.1 h1
    have h3 := List.pairwise_iff_getElem.1 (List.nodup_iff_pairwise_ne.1 h.nod)
    have hij : i = j := by
      rcases Nat.lt_trichotomy i j with hlt | heq | hgt
      · have := h3 i j (by simpa using hi) (by simpa using hj) hlt
        simp only [List.getElem_map, ei, ej] at this
        exact absurd e.symm this
      · exact heq
      · have := h3 j i (by simpa using hj) (by simpa using hi) hgt
        simp only [List.getElem_map, ei, ej] at this
        exact absurd e this
    subst hij
    have : a = c := by rw [← ei, ej]
    rw [this]
    simpa using h2
  refine ⟨?_, fun a ha => h.num a (List.mem_filter.1 ha).1, fun a ha => ?_, fun a ha => ?_, fun i hi => ?_, h.n64⟩
  · exact List.Nodup.sublist (List.Sublist.map _ List.filter_sublist) h.nod
  · obtain ⟨h1, h2⟩ := List.mem_filter.1 ha
    have := h.due a h1
    have : a.due ≠ now + 1 := by simpa using h2
    omega
  · obtain ⟨h1, h2⟩ := List.mem_filter.1 ha
    unfold freed
    rw [if_neg (fun hm => by have := key a h1 hm; simp [this] at h2)]
    exact h.ent a h1
  · unfold freed
    split
    · rfl
    · rename_i hm
      apply h.free
      intro a ha e
      by_cases c : a.due = now + 1
      · exact hm (List.mem_map.2 ⟨a, List.mem_filter.2 ⟨ha, by simp [c]⟩, e⟩)
      · exact hi a (List.mem_filter.2 ⟨ha, by simpa using c⟩) e

theorem tick_any (h : Wl w b n now A fp) (hn : now ≤ 100000000) :
    Calls Tryd.prog 17 #[.pointer (some ⟨b, 0, none⟩)] w fun e w' => ∃ v, e = .returned v ∧ Own (Value.int .i64) w' v ((A.filter fun a => a.due == now + 1).map Tm.tag) ∧
      ∃ fp', Wl w' b n (now + 1) (A.filter fun a => a.due != now + 1) fp' ∧ Keep fp w w' ∧ (∀ g, fp' g → fp g ∨ w.heap.size ≤ g) ∧ ∀ g, v.ownBlock = some g → w.heap.size ≤ g ∧ ¬ fp' g := by
  obtain ⟨tb, vs, en, h1, h2, rfl⟩ := h
  have hsl : ∀ j, sunk (slo (fun a => six now a.due) A) (now + 1) (fun i => (en i).due) j = slo (fun a => six (now + 1) a.due) A j :=
    sunk_slo now A (fun i => (en i).due) (fun a ha => by rw [h2.ent a ha]) (fun a ha => (h2.due a ha).1) (fun a ha => by have := (h2.due a ha).2; omega)
  have hL : sunk (slo (fun a => six now a.due) A) (now + 1) (fun i => (en i).due) ((now + 1) % 64) = (A.filter fun a => a.due == now + 1).map Tm.num := by
    rw [hsl]; exact tick_list A (now + 1)
  have hlen := h2.len
  have hn64 := h2.n64
  refine (tick_mem h1 (by show _ < _; omega) (fun i => h2.tim (by omega) i) (fun j i hi => ?_) (fun j => ?_) _ hL.symm (fun i hi => ?_) ?_ ?_).mono ?_
  · obtain ⟨a, ha, e, _⟩ := slo_mem hi
    rw [← e]; exact h2.num a ha
  · have := slo_len (fun a => six now a.due) A j
    omega
  · obtain ⟨a, ha, e⟩ := List.mem_map.1 hi
    rw [← e]; exact h2.num a (List.mem_filter.1 ha).1
  · rw [List.length_map]
    have := List.length_filter_le (fun a => a.due == now + 1) A
    omega
  · exact List.Nodup.sublist (List.Sublist.map _ List.filter_sublist) h2.nod
  · rintro e w' ⟨v, rfl, ho, vs1, hw, hk, hf, hv⟩
    refine ⟨v, rfl, ?_, _, ⟨tb, vs1, _, ?_, h2.tick, rfl⟩, hk, hf, hv⟩
    · rw [List.map_map] at ho
      rw [show ((A.filter fun a => a.due == now + 1).map Tm.tag) = (A.filter fun a => a.due == now + 1).map ((fun i => (en i).tag) ∘ Tm.num) from ?_]
      · exact ho
      · apply List.map_congr_left
        intro a ha
        show a.tag = (en a.num).tag
        rw [h2.ent a (List.mem_filter.1 ha).1]
    · rw [funext hsl, tick_rest] at hw
      exact hw
end Go.Proofs.YtaonnkocopngaaaDoor

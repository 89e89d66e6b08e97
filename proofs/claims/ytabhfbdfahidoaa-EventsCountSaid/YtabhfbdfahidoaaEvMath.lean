/-
  Events, and the last of them in a ring: no type of the program is named.
-/
import Derived.Test.YtabhfbdfahidoaaCore
namespace Go.Proofs.Ytabhfbdfahidoaa

structure Ev where
  t : Int
  c : Int
  a : Int

/-- The ring ev, of room r, that lost k, has the last of the events xs. -/
structure Ring (r : Nat) (xs ev : List Ev) (k : Nat) : Prop where
  lost : k = xs.length - r
  len : ev.length = xs.length - k
  at_ : ∀ j, k ≤ j → j < xs.length → ev[j % r]? = xs[j]?
theorem ring_nil (r : Nat) : Ring r [] [] 0 := ⟨by simp, rfl, fun j _ h => by simp at h⟩
theorem ring_more {r : Nat} {xs ev : List Ev} {k : Nat} (h : Ring r xs ev k) (hl : ev.length < r) (e : Ev) : Ring r (xs ++ [e]) (ev ++ [e]) k := by
  obtain ⟨h1, h2, h3⟩ := h
  have hn : xs.length < r := by omega
  obtain rfl : k = 0 := by omega
  refine ⟨by simp; omega, by simp; omega, fun j _ hj => ?_⟩
  rw [List.length_append, List.length_singleton] at hj
  have hm : j % r = j := Nat.mod_eq_of_lt (by omega)
  rw [hm]
  by_cases hjn : j < xs.length
  · have := h3 j (Nat.zero_le _) hjn
    rw [hm] at this
    rw [List.getElem?_append_left (by omega), List.getElem?_append_left hjn, this]
  · obtain rfl : j = xs.length := by omega
    rw [List.getElem?_append_right (by omega), List.getElem?_append_right (by omega), h2]
    simp
theorem mod_ne {r k j : Nat} (h1 : k < j) (h2 : j < k + r) : k % r ≠ j % r := by
  intro h
  have e := Nat.sub_mod_eq_zero_of_mod_eq h.symm
  rw [Nat.mod_eq_of_lt (by omega)] at e
  omega
theorem ring_full {r : Nat} {xs ev : List Ev} {k : Nat} (h : Ring r xs ev k) (hl : ¬ ev.length < r) (h0 : 0 < r) (e : Ev) : Ring r (xs ++ [e]) (ev.set (k % r) e) (k + 1) := by
  obtain ⟨h1, h2, h3⟩ := h
  have hn : xs.length = k + r := by omega
  have hk : k % r < r := Nat.mod_lt _ h0
  refine ⟨by simp; omega, by simp; omega, fun j h4 hj => ?_⟩
  rw [List.length_append, List.length_singleton] at hj
  by_cases hjn : j < xs.length
  · rw [List.getElem?_set_ne (mod_ne (by omega) (by omega)), List.getElem?_append_left hjn]
    exact h3 j (by omega) hjn
  · obtain rfl : j = xs.length := by omega
    rw [hn, Nat.add_mod_right, List.getElem?_set_self (by omega), List.getElem?_append_right (by omega), hn]
    simp
theorem Ring.first {r : Nat} {xs ev : List Ev} {k : Nat} (h : Ring r xs ev k) (h0 : 0 < r) : k % r ≤ ev.length ∧ ev.length ≤ r := by
  obtain ⟨h1, h2, _⟩ := h
  have hk : k % r < r := Nat.mod_lt _ h0
  have := Nat.mod_le k r
  omega
theorem ring_all {r : Nat} {xs ev : List Ev} {k : Nat} (h : Ring r xs ev k) (h0 : 0 < r) : ev.drop (k % r) ++ ev.take (k % r) = xs.drop k := by
  have hf := h.first h0
  obtain ⟨h1, h2, h3⟩ := h
  have hk : k % r < r := Nat.mod_lt _ h0
  obtain ⟨m, hm⟩ : ∃ m, m = k % r := ⟨_, rfl⟩
  have hz : k = 0 → m = 0 := fun e => by rw [hm, e, Nat.zero_mod]
  have e1 : ∀ i, i < r → (k + i) % r = (m + i) % r := fun i hi => by rw [Nat.add_mod, ← hm, Nat.mod_eq_of_lt hi]
  rw [← hm] at hf hk ⊢
  clear hm
  apply List.ext_getElem?
  intro i
  rw [List.getElem?_drop]
  by_cases hi : i < ev.length
  · have hx := h3 (k + i) (by omega) (by omega)
    rw [← hx, e1 i (by omega)]
    by_cases hc : i < ev.length - m
    · rw [List.getElem?_append_left (by rw [List.length_drop]; exact hc), List.getElem?_drop, Nat.mod_eq_of_lt (by omega)]
    · have hr : ev.length = r := by
        rcases Nat.eq_zero_or_pos k with hk0 | hk0
        · have := hz hk0
          omega
        · omega
      rw [List.getElem?_append_right (by rw [List.length_drop]; omega), List.length_drop, List.getElem?_take, if_pos (by omega), Nat.mod_eq_sub_mod (by omega), Nat.mod_eq_of_lt (by omega)]
      congr 1
      omega
  · rw [List.getElem?_eq_none (by simp; omega), List.getElem?_eq_none (by omega)]
theorem ring_len {r : Nat} {xs ev : List Ev} {k : Nat} (h : Ring r xs ev k) : (xs.drop k).length = ev.length := by rw [List.length_drop, h.len]
end Go.Proofs.Ytabhfbdfahidoaa

/-
  One byte turned: what was a Seal is none.
-/
import Derived.Test.YthjpacdhaeoecaaDoorCrcOpens
namespace Go.Proofs.YthjpacdhaeoecaaDoor

theorem high_inj : ∀ e : BitVec 8, wide e <<< 8 = 0#16 → e = 0#8 := by decide +kernel
theorem set_split {xs : List (BitVec 8)} {i : Nat} {x : BitVec 8} (h : xs[i]? = some x) (y : BitVec 8) : ∃ a b, xs = a ++ x :: b ∧ xs.set i y = a ++ y :: b := by
  obtain ⟨hl, hx⟩ := List.getElem?_eq_some_iff.1 h
  refine ⟨xs.take i, xs.drop (i + 1), ?_, ?_⟩
  · rw [← hx, List.getElem_cons_drop, List.take_append_drop]
  · rw [List.set_eq_take_append_cons_drop, if_pos hl]
theorem turned_no {xs : List (BitVec 8)} (ho : opens xs = true) {i : Nat} {x e : BitVec 8} (h : xs[i]? = some x) (he : e ≠ 0#8) : opens (xs.set i (x ^^^ e)) = false := by
  have hs : crcSum xs = 0#16 := by simp [opens] at ho; exact ho.2
  obtain ⟨a, b, e1, e2⟩ := set_split h (x ^^^ e)
  have : crcSum (xs.set i (x ^^^ e)) ≠ 0#16 := by
    intro hz
    rw [e2] at hz
    rw [e1] at hs
    unfold crcSum at hz hs
    rw [crcAdd_append, crcAdd_cons] at hz hs
    rw [crcByte_turn, crcAdd_turn, hs, BitVec.zero_xor] at hz
    exact he (high_inj _ (stps_inj (stps_inj hz)))
  unfold opens
  rw [decide_eq_false this, Bool.and_false]
end Go.Proofs.YthjpacdhaeoecaaDoor

/-
  A channel some ticks behind its telegram.
-/
import Derived.Test.YtmfgfjkpijmgoaaDoorLnk
namespace Go.Proofs.YtmfgfjkpijmgoaaDoor
open Go.RowKit

def aged (F : Nat) (q : Int) (xs : List (BitVec 8)) (n : Nat) : Ch := ⟨true, q, min n (F + 1), if n ≤ F then xs else []⟩
theorem aged_zero (F : Nat) (q : Int) (xs : List (BitVec 8)) : aged F q xs 0 = ⟨true, q, 0, xs⟩ := by
  unfold aged; rw [if_pos (Nat.zero_le _), Nat.min_eq_left (Nat.zero_le _)]
theorem aged_fresh (F : Nat) (q : Int) (xs : List (BitVec 8)) (n : Nat) : isF F (aged F q xs n) = decide (n ≤ F) := by
  unfold isF aged
  simp only [Bool.true_and, decide_eq_decide]
  omega
theorem older_aged (F : Nat) (q : Int) (xs : List (BitVec 8)) (n : Nat) : older F (aged F q xs n) = aged F q xs (n + 1) := by
  by_cases h : n ≤ F
  · have hf : isF F (aged F q xs n) = true := by rw [aged_fresh]; simpa using h
    have ha : (aged F q xs n).age = n := by unfold aged; simp only; omega
    have hx : (aged F q xs n).xs = xs := by unfold aged; simp only; rw [if_pos h]
    by_cases h2 : n + 1 ≤ F
    · rw [older_stays hf (by rw [ha]; exact h2), ha, hx]
      unfold aged
      rw [if_pos h2, Nat.min_eq_left (a := n + 1) (by omega)]
    · rw [older_ends hf (by rw [ha]; omega), ha]
      unfold aged
      rw [if_neg h2, Nat.min_eq_left (a := n + 1) (by omega)]
  · have hf : isF F (aged F q xs n) = false := by rw [aged_fresh]; simpa using h
    rw [older_stale hf]
    unfold aged
    rw [if_neg h, if_neg (by omega), Nat.min_eq_right (by omega), Nat.min_eq_right (by omega)]
/-- One channel that spoke, and all others not. -/
def one (k : Nat) (c : Ch) : Nat → Ch := upd (fun _ => noCh) k c
theorem older_none (F : Nat) : (fun k => older F ((fun _ : Nat => noCh) k)) = fun _ : Nat => noCh := by funext k; exact older_stale rfl
theorem older_one (F k : Nat) (c : Ch) : (fun j => older F (one k c j)) = one k (older F c) := by
  funext j
  unfold one
  by_cases e : j = k
  · subst e; rw [upd_same, upd_same]
  · rw [upd_other _ _ _ e, upd_other _ _ _ e]; exact older_stale rfl
theorem peek_one (k : Nat) (hk : k < 16) (c : Ch) (ch : Int) (hc : ch = (k : Int)) : peek (one k c) ch = c := by
  rw [peek_in _ hc hk]; exact upd_same _ _ _
theorem one_again (k : Nat) (c c' : Ch) : upd (one k c) k c' = one k c' := by
  funext j
  unfold one
  by_cases e : j = k
  · subst e; rw [upd_same, upd_same]
  · rw [upd_other _ _ _ e, upd_other _ _ _ e, upd_other _ _ _ e]
end Go.Proofs.YtmfgfjkpijmgoaaDoor

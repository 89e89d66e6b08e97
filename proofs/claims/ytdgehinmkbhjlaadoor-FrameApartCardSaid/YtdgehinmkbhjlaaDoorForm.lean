/-
  frame.formed: which opened bytes are a telegram, by contract.
-/
import Derived.Test.YtdgehinmkbhjlaaDoorEnc
namespace Go.Proofs.YtdgehinmkbhjlaaDoor
open Go.RowKit

/-- The bytes are those of a telegram, ahead of its sum. -/
def Form : List (BitVec 8) → Prop
  | x :: _ :: z :: xs => x.toNat ≤ 15 ∧ z.toNat ≤ 16 ∧ xs.length = z.toNat
  | _ => False
theorem form_frm {ys : List (BitVec 8)} (h : Form ys) : ∃ x y xs, ys = frm x y xs ∧ x.toNat ≤ 15 ∧ xs.length ≤ 16 := by
  match ys, h with
  | x :: y :: z :: xs, h =>
    obtain ⟨h1, h2, h3⟩ := h
    refine ⟨x, y, xs, ?_, h1, by omega⟩
    unfold frm
    rw [h3]
    simp
theorem frm_form (x y : BitVec 8) (xs : List (BitVec 8)) (hx : x.toNat ≤ 15) (hl : xs.length ≤ 16) : Form (frm x y xs) := by
  have : (BitVec.ofNat 8 xs.length).toNat = xs.length := by simp; omega
  exact ⟨hx, by omega, by omega⟩

theorem formed_short (u : Value) (ys : List (BitVec 8)) (w : World) (hu : Byts w u ys) (h : ys.length < 3) :
    Calls Tryd.prog 21 #[u] w fun e w' => e = .returned (.bool false) ∧ Below w.heap.size w w' := by
  obtain ⟨av, cv, ev⟩ := hu.len
  have q1 : decide ((3 : Int) ≤ (ys.length : Int)) = false := decide_eq_false (by omega)
  clear hu
  subst ev
  go_enter Tryd.func21, Tryd.ntmps21
  go_wp2_with fail
  go_ret
  exact ⟨rfl, Below.refl _ _⟩
theorem formed_long (g o n cap : Nat) (x z : BitVec 8) (b : Bool) (w : World) (hn : 3 ≤ n) (hm : n ≤ 1000000) (h0 : w.cell? ⟨g, o, none⟩ = some (.int .u8 (x.toNat : Int))) (h2 : w.cell? ⟨g, o + 2, none⟩ = some (.int .u8 (z.toNat : Int)))
    (hb : b = decide (x.toNat ≤ 15 ∧ z.toNat ≤ 16 ∧ n = 3 + z.toNat)) :
    Calls Tryd.prog 21 #[.slice (some ⟨g, o, none⟩) n cap] w fun e w' => e = .returned (.bool b) ∧ Below w.heap.size w w' := by
  have q1 : decide ((3 : Int) ≤ (n : Int)) = true := decide_eq_true (by omega)
  have i0 : (0 : Int) < (n : Int) := by omega
  have i2 : (2 : Int) < (n : Int) := by omega
  have hz := z.isLt
  by_cases h3 : x.toNat ≤ 15
  · have q2 : decide ((x.toNat : Int) ≤ 15) = true := decide_eq_true (by omega)
    by_cases h4 : z.toNat ≤ 16
    · have q3 : decide ((z.toNat : Int) ≤ 16) = true := decide_eq_true (by omega)
      by_cases h5 : n = 3 + z.toNat
      · obtain rfl : b = true := by rw [hb]; simp [h3, h4, h5]
        have q4 : ((n : Int) - 3 == (z.toNat : Int)) = true := by simp; omega
        clear hb h3 h4 h5
        go_enter Tryd.func21, Tryd.ntmps21
        go_wp2_with fail
        go_ret
        exact ⟨rfl, Below.refl _ _⟩
      · obtain rfl : b = false := by rw [hb]; simp [h5]
        have q4 : ((n : Int) - 3 == (z.toNat : Int)) = false := by simp; omega
        clear hb h3 h4 h5
        go_enter Tryd.func21, Tryd.ntmps21
        go_wp2_with fail
        go_ret
        exact ⟨rfl, Below.refl _ _⟩
    · obtain rfl : b = false := by rw [hb]; simp [h4]
      have q3 : decide ((z.toNat : Int) ≤ 16) = false := decide_eq_false (by omega)
      clear hb h3 h4
      go_enter Tryd.func21, Tryd.ntmps21
      go_wp2_with fail
      go_ret
      exact ⟨rfl, Below.refl _ _⟩
  · obtain rfl : b = false := by rw [hb]; simp [h3]
    have q2 : decide ((x.toNat : Int) ≤ 15) = false := decide_eq_false (by omega)
    clear hb h3
    go_enter Tryd.func21, Tryd.ntmps21
    go_wp2_with fail
    go_ret
    exact ⟨rfl, Below.refl _ _⟩
theorem formed_yes (u : Value) (ys : List (BitVec 8)) (w : World) (hu : Byts w u ys) (hm : ys.length ≤ 1000000) (h : Form ys) :
    Calls Tryd.prog 21 #[u] w fun e w' => e = .returned (.bool true) ∧ Below w.heap.size w w' := by
  match ys, h with
  | x :: y :: z :: xs, h =>
    obtain ⟨h1, h2, h3⟩ := h
    obtain ⟨g, o, cap, a0, hv, _, _, e0, c0⟩ := hu.at_ 0 (by simp)
    obtain ⟨g', o', cap', a2, hv', _, _, e2, c2⟩ := hu.at_ 2 (by simp)
    subst hv
    simp only [Value.slice.injEq, Option.some.injEq, Addr.mk.injEq, true_and, and_true] at hv'
    obtain ⟨⟨rfl, rfl⟩, rfl⟩ := hv'
    simp at e0 e2
    subst e0 e2
    exact formed_long g o _ cap x z true w (by simp) hm c0 c2 (by simp; omega)
theorem formed_no (u : Value) (ys : List (BitVec 8)) (w : World) (hu : Byts w u ys) (hm : ys.length ≤ 1000000) (h : ¬ Form ys) :
    Calls Tryd.prog 21 #[u] w fun e w' => e = .returned (.bool false) ∧ Below w.heap.size w w' := by
  match ys with
  | [] => exact formed_short u _ w hu (by simp)
  | [_] => exact formed_short u _ w hu (by simp)
  | [_, _] => exact formed_short u _ w hu (by simp)
  | x :: y :: z :: xs =>
    obtain ⟨g, o, cap, a0, hv, _, _, e0, c0⟩ := hu.at_ 0 (by simp)
    obtain ⟨g', o', cap', a2, hv', _, _, e2, c2⟩ := hu.at_ 2 (by simp)
    subst hv
    simp only [Value.slice.injEq, Option.some.injEq, Addr.mk.injEq, true_and, and_true] at hv'
    obtain ⟨⟨rfl, rfl⟩, rfl⟩ := hv'
    simp at e0 e2
    subst e0 e2
    exact formed_long g o _ cap x z false w (by simp) hm c0 c2 (by
      symm
      refine decide_eq_false fun hh => h ⟨hh.1, hh.2.1, ?_⟩
      have := hh.2.2
      simp at this
      omega)
end Go.Proofs.YtdgehinmkbhjlaaDoor

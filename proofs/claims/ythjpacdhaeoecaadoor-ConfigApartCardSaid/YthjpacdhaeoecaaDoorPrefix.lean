/-
  bytes.Equal, HasPrefix, CutPrefix by contract.
-/
import Derived.Test.YthjpacdhaeoecaaDoorTxt
namespace Go.Proofs.YthjpacdhaeoecaaDoor
open Go.RowKit

/-- b[:k]. -/
theorem cutL {w : World} {v : Value} {xs : List (BitVec 8)} (h : Byts w v xs) (k : Nat) (hk : k ≤ xs.length) : ∃ v1,
    (∀ w', (Instr.slice 27 v none (some (.int .i64 (k : Int))) none).run Tryd.prog w' = .ok v1 w') ∧ Byts w v1 (xs.take k) := by
  have hu : Tryd.prog.underlying 27 = some (.slice (Tryd.prog.elem 27)) := by rw [elemB]; exact Tryd.underlying27
  rcases h with ⟨rfl, rfl | ⟨a, c, rfl⟩⟩ | ⟨g, o, cap, rfl, hc, h⟩
  · obtain rfl : k = 0 := by simpa using hk
    refine ⟨.slice none 0 0, fun w' => ?_, .inl ⟨rfl, .inl rfl⟩⟩
    rw [run_slice_h _ _ _ _ _ hu _ _ (by simp) (by simp), elemB, sizeU8]; rfl
  · obtain rfl : k = 0 := by simpa using hk
    refine ⟨.slice (some a) 0 c, fun w' => ?_, .inl ⟨rfl, .inr ⟨a, c, rfl⟩⟩⟩
    rw [run_slice_h _ _ _ _ _ hu _ _ (by simp) (by simp), elemB, sizeU8]
    simp [Result.andThen, sliced, add_zero]
  · refine ⟨.slice (some ⟨g, o, none⟩) k cap, fun w' => ?_, Byts.take h hc k hk⟩
    rw [run_slice_h _ _ _ _ _ hu _ _ (by omega) (by omega), elemB, sizeU8]
    simp [Result.andThen, sliced, add_zero]
theorem equal_any (v u : Value) (xs ys : List (BitVec 8)) (r : Bool) (hr : r = decide (xs = ys)) (w : World) (hv : Byts w v xs) (hu : Byts w u ys) :
    Calls Tryd.prog 60 #[v, u] w fun e w' => e = .returned (.bool r) ∧ w = w' := by
  have c1 := txt_run _ _ _ hv
  have c2 := txt_run _ _ _ hu
  clear hv hu
  by_cases h : xs = ys
  · subst h
    have q := txt_same xs
    rw [hr, decide_eq_true rfl]
    clear hr
    go_enter Tryd.func60, Tryd.ntmps60
    go_wp2_with fail
    go_ret
    exact ⟨rfl, rfl⟩
  · have q := txt_other h
    rw [hr, decide_eq_false h]
    clear hr h
    go_enter Tryd.func60, Tryd.ntmps60
    go_wp2_with fail
    go_ret
    exact ⟨rfl, rfl⟩
theorem hasPrefix_any (v u : Value) (xs ys : List (BitVec 8)) (r : Bool) (hr : r = decide (ys.length ≤ xs.length ∧ xs.take ys.length = ys)) (w : World) (hv : Byts w v xs) (hu : Byts w u ys) :
    Calls Tryd.prog 49 #[v, u] w fun e w' => e = .returned (.bool r) ∧ w = w' := by
  obtain ⟨av, cv, ev⟩ := hv.len
  obtain ⟨au, cu, eu⟩ := hu.len
  by_cases h : ys.length ≤ xs.length
  · obtain ⟨v1, r1, b1⟩ := cutL hv ys.length h
    have HE := Lib.hid (equal_any v1 u _ ys r (by rw [hr]; simp [h]) w b1 hu)
    obtain ⟨n, hn⟩ : ∃ n, n = xs.length := ⟨_, rfl⟩
    obtain ⟨m, hm⟩ : ∃ m, m = ys.length := ⟨_, rfl⟩
    rw [← hm] at r1 eu h
    rw [← hn] at ev h
    have q0 : decide ((m : Int) ≤ (n : Int)) = true := by simp; omega
    have q1 : decide (m ≤ n) = true := by simp; omega
    clear hr hv hu b1 hn hm
    subst ev eu
    go_enter Tryd.func49, Tryd.ntmps49
    go_wp2_with fail
    (with_reducible refine HE.out.mono ?_)
    rintro e w1 ⟨rfl, rfl⟩
    go_wp2_with fail
    go_ret
    exact ⟨rfl, rfl⟩
  · have e : r = false := by rw [hr]; simp; omega
    obtain ⟨n, hn⟩ : ∃ n, n = xs.length := ⟨_, rfl⟩
    obtain ⟨m, hm⟩ : ∃ m, m = ys.length := ⟨_, rfl⟩
    rw [← hm] at eu h
    rw [← hn] at ev h
    have q0 : decide ((m : Int) ≤ (n : Int)) = false := by simp; omega
    have q1 : decide (m ≤ n) = false := by simp; omega
    clear hr hv hu hn hm
    subst ev eu e
    go_enter Tryd.func49, Tryd.ntmps49
    go_wp2_with fail
    go_ret
    exact ⟨rfl, rfl⟩
theorem cutPrefix_yes (v u : Value) (xs ys : List (BitVec 8)) (h : ys.length ≤ xs.length ∧ xs.take ys.length = ys) (w : World) (hv : Byts w v xs) (hu : Byts w u ys) :
    Calls Tryd.prog 38 #[v, u] w fun e w' => ∃ r, e = .returned (.tuple #[r, .bool true]) ∧ Byts w' r (xs.drop ys.length) ∧ w = w' := by
  obtain ⟨au, cu, eu⟩ := hu.len
  obtain ⟨v2, r2, b2, _⟩ := cutR hv ys.length h.1
  have HH := Lib.hid (hasPrefix_any v u xs ys true (decide_eq_true h).symm w hv hu)
  have HB := Lib.hid b2
  obtain ⟨m, hm⟩ : ∃ m, m = ys.length := ⟨_, rfl⟩
  rw [← hm] at r2 eu
  clear hv hu b2 h hm
  subst eu
  go_enter Tryd.func38, Tryd.ntmps38
  go_wp2_with fail
  (with_reducible refine HH.out.mono ?_)
  rintro e w1 ⟨rfl, rfl⟩
  go_wp2_with fail
  go_ret2
  exact ⟨_, rfl, HB.out, rfl⟩
theorem cutPrefix_no (v u : Value) (xs ys : List (BitVec 8)) (h : ¬ (ys.length ≤ xs.length ∧ xs.take ys.length = ys)) (w : World) (hv : Byts w v xs) (hu : Byts w u ys) :
    Calls Tryd.prog 38 #[v, u] w fun e w' => e = .returned (.tuple #[v, .bool false]) ∧ w = w' := by
  have HH := Lib.hid (hasPrefix_any v u xs ys false (decide_eq_false h).symm w hv hu)
  clear hv hu h
  go_enter Tryd.func38, Tryd.ntmps38
  go_wp2_with fail
  (with_reducible refine HH.out.mono ?_)
  rintro e w1 ⟨rfl, rfl⟩
  go_wp2_with fail
  go_ret2
  exact ⟨rfl, rfl⟩
end Go.Proofs.YthjpacdhaeoecaaDoor

/-
  Same: whether two rows of numbers are one.
-/
import Derived.Test.YtaonnkocopngaaaDoorCancel
import Derived.Test.YtaonnkocopngaaaDoorNew
namespace Go.Proofs.YtaonnkocopngaaaDoor
open Go.RowKit

variable {w w' : World}
abbrev Ints (w : World) (v : Value) (xs : List Int) : Prop := Own (Value.int .i64) w v xs
theorem own_one (w : World) (x : Int) : Ints (w.alloc (.cells #[.int .i64 x] 3)) (.slice (some ⟨w.heap.size, 0, none⟩) 1 1) [x] := by
  have := World.ownsRow_lit (base := 0) (e := 3) (size := 1) w #[.int .i64 x] 1 (Nat.zero_le _) (by decide) (by simp)
  exact this
theorem take_eq {xs ys : List Int} {j : Nat} {x y : Int} (h : xs.take j = ys.take j) (hx : xs[j]? = some x) (hy : ys[j]? = some y) (e : x = y) : xs.take (j + 1) = ys.take (j + 1) := by
  rw [List.take_add_one, List.take_add_one, hx, hy, h, e]
set_option maxHeartbeats 1000000 in
theorem same_len (u v : Value) (xs ys : List Int) (hu : Ints w u xs) (hv : Ints w v ys) (hl : xs.length = ys.length) (hm : xs.length ≤ 1000000) (r : Bool) (hr : r = decide (xs = ys)) :
    Calls Tryd.prog 18 #[u, v] w fun e w' => e = .returned (.bool r) ∧ ∃ m, w' = w.drewN m := by
  obtain ⟨a, c, eu⟩ := hu.len
  obtain ⟨a', c', ev⟩ := hv.len
  obtain ⟨N, HN⟩ : ∃ N, Hid (N = xs.length) := ⟨_, Lib.hid rfl⟩
  rw [← HN.out] at eu hm
  rw [← hl, ← HN.out] at ev
  have HU := Lib.hid hu
  have HV := Lib.hid hv
  have HL := Lib.hid hl
  have HR := Lib.hid hr
  clear hu hv hl hr
  subst eu ev
  go_enter Tryd.func18, Tryd.ntmps18
  go_wp2_with fail
  go_loopw [5] (fun i wr => ∃ (j m : Nat), j ≤ N ∧ i = .int .i64 (j : Int) ∧ Hid (wr = w.drewN m) ∧ Hid (xs.take j = ys.take j)) (fun i _ => N - (intOf i).toNat)
  case atStart => exact ⟨0, 0, by omega, rfl, Lib.hid rfl, Lib.hid rfl⟩
  case round =>
    obtain ⟨j, m, hj, rfl, HW, HT⟩ := hrel
    by_cases hlt : j < N
    · obtain ⟨x, hx⟩ : ∃ x, xs[j]? = some x := ⟨_, List.getElem?_eq_getElem (by rw [← HN.out]; exact hlt)⟩
      obtain ⟨y, hy⟩ : ∃ y, ys[j]? = some y := ⟨_, List.getElem?_eq_getElem (by rw [← HL.out, ← HN.out]; exact hlt)⟩
      obtain ⟨g, cap, e1, _, hcx, _⟩ := HU.out.at_ j x hx
      obtain ⟨g', cap', e2, _, hcy, _⟩ := HV.out.at_ j y hy
      simp only [Value.slice.injEq] at e1 e2
      obtain ⟨rfl, _, rfl⟩ := e1
      obtain ⟨rfl, _, rfl⟩ := e2
      have hcx2 : wr.cell? ⟨g, j, none⟩ = some (.int .i64 x) := by rw [HW.out]; exact hcx
      have hcy2 : wr.cell? ⟨g', j, none⟩ = some (.int .i64 y) := by rw [HW.out]; exact hcy
      have HX := Lib.hid hx
      have HY := Lib.hid hy
      clear hx hy hcx hcy
      have hltz : (j : Int) < (N : Int) := by omega
      by_cases hxy : x = y
      · have q0 : (x == y) = true := by simp [hxy]
        have HXY := Lib.hid hxy
        clear hxy
        go_wp2_with fail
        go_quiet (fail)
        go_wp2_with fail
        go_roundw
        case rel => exact ⟨j + 1, m + nq, by omega, by go_num, Lib.hid (by rw [HW.out, World.drewN_drewN]), Lib.hid (take_eq HT.out HX.out HY.out HXY.out)⟩
        case measure => simp [intOf]; omega
      · have q0 : (x == y) = false := by simp [hxy]
        have HXY := Lib.hid hxy
        clear hxy
        go_wp2_with fail
        go_quiet (fail)
        go_wp2_with fail
        go_ret
        refine ⟨?_, _, by rw [HW.out, World.drewN_drewN]⟩
        have hne : xs ≠ ys := fun hh => HXY.out (by have h1 := HX.out; rw [hh, HY.out] at h1; injection h1 with h1; exact h1.symm)
        rw [HR.out, show decide (xs = ys) = false from decide_eq_false hne]
        rfl
    · obtain rfl : j = N := by omega
      go_wp2_with fail
      go_ret
      refine ⟨?_, _, HW.out⟩
      have h1 : xs = ys := by
        have := HT.out
        rwa [HN.out, List.take_length, HL.out, List.take_length] at this
      rw [HR.out, show decide (xs = ys) = true from decide_eq_true h1]
      rfl
theorem same_short (u v : Value) (xs ys : List Int) (hu : Ints w u xs) (hv : Ints w v ys) (hl : xs.length ≠ ys.length) (r : Bool) (hr : r = decide (xs = ys)) :
    Calls Tryd.prog 18 #[u, v] w fun e w' => e = .returned (.bool r) ∧ ∃ m, w' = w.drewN m := by
  obtain ⟨a, c, eu⟩ := hu.len
  obtain ⟨a', c', ev⟩ := hv.len
  have q0 : ((xs.length : Int) == (ys.length : Int)) = false := by simp; omega
  have HR := Lib.hid (show r = false by rw [hr, decide_eq_false (fun h => hl (by rw [h]))])
  clear hu hv hl hr
  subst eu ev
  generalize xs.length = N at *
  generalize ys.length = M at *
  go_enter Tryd.func18, Tryd.ntmps18
  go_wp2_with fail
  go_ret
  rw [HR.out]
  exact ⟨rfl, 0, rfl⟩
theorem same_any (u v : Value) (xs ys : List Int) (hu : Ints w u xs) (hv : Ints w v ys) (hm : xs.length ≤ 1000000) (r : Bool) (hr : r = decide (xs = ys)) :
    Calls Tryd.prog 18 #[u, v] w fun e w' => e = .returned (.bool r) ∧ ∃ m, w' = w.drewN m := by
  by_cases hl : xs.length = ys.length
  · exact same_len u v xs ys hu hv hl hm r hr
  · exact same_short u v xs ys hu hv hl r hr
end Go.Proofs.YtaonnkocopngaaaDoor

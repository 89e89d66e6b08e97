/-
  bank.Blank, by contract.
-/
import Derived.Test.YtecfobmmbdmdgaaBkMath
import Derived.Test.YtecfobmmbdmdgaaKeep
import Derived.Deep.DeepCutAuto
namespace Go.Proofs.Ytecfobmmbdmdgaa
open Go.RowKit

theorem bblank_yes {xs : List (BitVec 8)} {o : Nat} (h : ∀ (j : Nat) (y : BitVec 8), (xs.drop o)[j]? = some y → y = 255#8) : bblank xs o = true := by
  unfold bblank
  rw [List.all_eq_true]
  intro y hy
  obtain ⟨j, hj⟩ := List.getElem?_of_mem hy
  simp [h j y hj]
theorem bblank_no {xs : List (BitVec 8)} {o j : Nat} {y : BitVec 8} (h : (xs.drop o)[j]? = some y) (hy : y ≠ 255#8) : bblank xs o = false := by
  unfold bblank
  rw [List.all_eq_false]
  exact ⟨y, List.mem_of_getElem? h, by simpa using hy⟩
theorem ff_yes : (((255#8 : BitVec 8).toNat : Int) != 255) = false := by decide
theorem ff_no {y : BitVec 8} (h : y ≠ 255#8) : ((y.toNat : Int) != 255) = true := by
  simp
  intro h'
  exact h (BitVec.eq_of_toNat_eq (by simp; omega))
theorem drop_min (xs : List (BitVec 8)) (m : Nat) : xs.drop (min m xs.length) = xs.drop m := by
  rcases Nat.le_total m xs.length with h | h
  · rw [Nat.min_eq_left h]
  · rw [Nat.min_eq_right h, List.drop_eq_nil_of_le (Nat.le_refl _), List.drop_eq_nil_of_le h]

set_option maxHeartbeats 1000000 in
theorem blank_any (v : Value) (xs : List (BitVec 8)) (w : World) (hv : Byts w v xs) (hl : xs.length ≤ 140737488355328) (o : Int) (ho : -9223372036854775808 ≤ o ∧ o ≤ 9223372036854775807) :
    Calls Try.prog 12 #[v, .int .i64 o] w fun e w' => e = .returned (.bool (bblank xs o.toNat)) ∧ w = w' := by
  obtain ⟨av, cv, ev⟩ := hv.len
  obtain ⟨m, hm⟩ : ∃ m : Nat, m = min o.toNat xs.length := ⟨_, rfl⟩
  have hval : (if (xs.length : Int) < if o < 0 then 0 else o then (xs.length : Int) else if o < 0 then 0 else o) = (m : Int) := by
    split <;> split at * <;> omega
  obtain ⟨v2, hrun, hv2, _⟩ := cutR hv m (by omega)
  obtain ⟨a2, c2, e2⟩ := hv2.len
  have HV := Lib.hid hv2
  have hd : xs.drop o.toNat = xs.drop m := by rw [hm, drop_min]
  have HE : Hid (bblank xs o.toNat = bblank xs m) := Lib.hid (by unfold bblank; rw [hd])
  obtain ⟨n, hn⟩ : ∃ n, n = (xs.drop m).length := ⟨_, rfl⟩
  rw [← hn] at e2
  have HN := Lib.hid hn
  have hnl : n ≤ 140737488355328 := by rw [hn, List.length_drop]; omega
  clear hv hv2 hm hd hn ho
  subst ev e2
  go_enter Try.func12, Try.ntmps12
  go_upto_region 2 with fail
  clear hval
  generalize (if o < 0 then 0 else o) = oo at *
  go_wp2_with fail
  clear hrun
  go_loop [16] (fun i => ∃ k : Nat, k ≤ n ∧ i = .int .i64 k ∧ ∀ (j : Nat) (y : BitVec 8), j < k → (xs.drop m)[j]? = some y → y = 255#8) (fun i => n - (intOf i).toNat)
  case atStart => exact ⟨0, by omega, rfl, fun j y h => by omega⟩
  case round =>
    obtain ⟨k, hk, rfl, hall⟩ := hrel
    by_cases hlt : k < n
    · obtain ⟨g, p, c, x, e1, hc1, hg1, hx, h1⟩ := HV.out.at_ k (by rw [← HN.out]; exact hlt)
      rw [← HN.out] at e1
      simp only [Value.slice.injEq] at e1
      obtain ⟨rfl, _, rfl⟩ := e1
      by_cases hff : x = 255#8
      · subst hff
        have HA : Hid (∀ (j : Nat) (y : BitVec 8), j < k + 1 → (xs.drop m)[j]? = some y → y = 255#8) := Lib.hid (fun j y hj hy => by
          by_cases hjk : j = k
          · subst hjk
            rw [hx] at hy
            cases hy
            rfl
          · exact hall j y (by omega) hy)
        have h1' : w.cell? ⟨g, p + k, none⟩ = some (.int .u8 255) := h1
        clear hx hall h1
        go_wp2
        go_round
        case rel => exact ⟨k + 1, by omega, by go_num, HA.out⟩
        case measure => simp [intOf]; omega
      · have hne := ff_no hff
        have HB := Lib.hid (bblank_no hx hff)
        clear hx hall hff
        go_wp2
        go_ret
        exact ⟨by rw [HE.out, HB.out]; rfl, rfl⟩
    · have HB := Lib.hid (bblank_yes fun j y hy => hall j y (by have := (List.getElem?_eq_some_iff.1 hy).1; rw [← HN.out] at this; omega) hy)
      clear hall
      go_wp2
      go_ret
      exact ⟨by rw [HE.out, HB.out]; rfl, rfl⟩

theorem rblank_any (v : Value) (xs : List (BitVec 8)) (w : World) (hv : Byts w v xs) (hl : xs.length ≤ 140737488355328) (o : Int) (ho : -9223372036854775808 ≤ o ∧ o ≤ 9223372036854775807) :
    Calls Try.prog 13 #[v, .int .i64 o] w fun e w' => e = .returned (.bool (bblank xs o.toNat)) ∧ w = w' := by
  obtain ⟨av, cv, ev⟩ := hv.len
  obtain ⟨m, hm⟩ : ∃ m : Nat, m = o.toNat := ⟨_, rfl⟩
  have hmb : m ≤ 9223372036854775807 := by omega
  have hval : (if o < 0 then 0 else o) = (m : Int) := by split <;> omega
  have HV := Lib.hid hv
  rw [← hm]
  clear hv hm ho
  subst ev
  go_enter Try.func13, Try.ntmps13
  go_upto_region 2 with fail
  clear hval
  go_loop [5] (fun i => ∃ k : Nat, m ≤ k ∧ (k = m ∨ k ≤ xs.length) ∧ i = .int .i64 k ∧ ∀ (j : Nat) (y : BitVec 8), m ≤ j → j < k → xs[j]? = some y → y = 255#8) (fun i => xs.length - (intOf i).toNat)
  case atStart => exact ⟨m, Nat.le_refl _, .inl rfl, rfl, fun j y h => by omega⟩
  case round =>
    obtain ⟨k, hmk, hk, rfl, hall⟩ := hrel
    by_cases hlt : k < xs.length
    · obtain ⟨g, p, c, x, e1, hc1, hg1, hx, h1⟩ := HV.out.at_ k hlt
      simp only [Value.slice.injEq] at e1
      obtain ⟨rfl, _, rfl⟩ := e1
      by_cases hff : x = 255#8
      · subst hff
        have HA : Hid (∀ (j : Nat) (y : BitVec 8), m ≤ j → j < k + 1 → xs[j]? = some y → y = 255#8) := Lib.hid (fun j y hmj hj hy => by
          by_cases hjk : j = k
          · subst hjk
            rw [hx] at hy
            cases hy
            rfl
          · exact hall j y hmj (by omega) hy)
        have h1' : w.cell? ⟨g, p + k, none⟩ = some (.int .u8 255) := h1
        clear hx hall h1 hk
        go_wp2
        go_round
        case rel => exact ⟨k + 1, by omega, by omega, by go_num, HA.out⟩
        case measure => simp [intOf]; omega
      · have hne := ff_no hff
        have HB := Lib.hid (bblank_no (o := m) (j := k - m) (by rw [List.getElem?_drop, show m + (k - m) = k by omega]; exact hx) hff)
        clear hx hall hff hk
        go_wp2
        go_ret
        exact ⟨by rw [HB.out]; rfl, rfl⟩
    · have HB := Lib.hid (bblank_yes (xs := xs) (o := m) fun j y hy => by
        rw [List.getElem?_drop] at hy
        have h1 := (List.getElem?_eq_some_iff.1 hy).1
        exact hall _ y (by omega) (by omega) hy)
      have hnl : decide ((k : Int) < (xs.length : Int)) = false := by simp; omega
      clear hall hk
      go_wp2
      go_ret
      exact ⟨by rw [HB.out]; rfl, rfl⟩
end Go.Proofs.Ytecfobmmbdmdgaa

/-
  crc.Add, crc.Sum and the document's own: the sum of a slice of bytes, by contract.
-/
import Derived.Test.YtbhbckfonnagdaaByte
import Derived.Below
import Derived.Laws.OwnMore
namespace Go.Proofs.Ytbhbckfonnagdaa
open Go.RowKit

/-- A byte as a cell. -/
def cel (x : BitVec 8) : Value := .int .u8 (x.toNat : Int)
/-- The slice v holds the bytes xs. -/
def Byts (w : World) (v : Value) (xs : List (BitVec 8)) : Prop :=
  (xs = [] ∧ (v = .slice none 0 0 ∨ ∃ a c, v = .slice (some a) 0 c)) ∨ ∃ g o cap, v = .slice (some ⟨g, o, none⟩) xs.length cap ∧ xs.length ≤ cap ∧ ∀ (j : Nat) x, xs[j]? = some x → w.cell? ⟨g, o + j, none⟩ = some (cel x)

theorem lt_of_cell {w : World} {g o : Nat} {s : Option Nat} {v : Value} (h : w.cell? ⟨g, o, s⟩ = some v) : g < w.heap.size := by
  rcases Nat.lt_or_ge g w.heap.size with h1 | h1
  · exact h1
  · simp [World.cell?, Array.getElem?_eq_none h1] at h
theorem Byts.below {w w' : World} {v : Value} {xs : List (BitVec 8)} (h : Byts w v xs) (hb : Below w.heap.size w w') : Byts w' v xs := by
  rcases h with h | ⟨g, o, cap, hv, hc, h⟩
  · exact .inl h
  · refine .inr ⟨g, o, cap, hv, hc, fun j x hx => ?_⟩
    have hj := h j x hx
    rw [hb.cell (p := ⟨g, o + j, none⟩) (lt_of_cell hj)]
    exact hj
theorem Byts.len {w : World} {v : Value} {xs : List (BitVec 8)} (h : Byts w v xs) : ∃ a c, v = .slice a xs.length c := by
  rcases h with ⟨h2, h | ⟨a, c, h⟩⟩ | ⟨g, o, cap, hv, _⟩
  · subst h2; exact ⟨_, _, h⟩
  · subst h2; exact ⟨_, _, h⟩
  · exact ⟨_, _, hv⟩
theorem Byts.at_ {w : World} {v : Value} {xs : List (BitVec 8)} (h : Byts w v xs) (k : Nat) (hk : k < xs.length) :
    ∃ g o cap x, v = .slice (some ⟨g, o, none⟩) xs.length cap ∧ xs.length ≤ cap ∧ g < w.heap.size ∧ xs[k]? = some x ∧ w.cell? ⟨g, o + k, none⟩ = some (.int .u8 (x.toNat : Int)) := by
  rcases h with ⟨h, _⟩ | ⟨g, o, cap, hv, hc, h⟩
  · subst h; simp at hk
  · have hx := h k _ (List.getElem?_eq_getElem hk)
    exact ⟨g, o, cap, xs[k], hv, hc, lt_of_cell hx, List.getElem?_eq_getElem hk, hx⟩
theorem crcAdd_next (s : BitVec 16) (xs : List (BitVec 8)) (k : Nat) (x : BitVec 8) (h : xs[k]? = some x) : crcAdd s (xs.take (k + 1)) = crcByte (crcAdd s (xs.take k)) x := by
  have : xs.take (k + 1) = xs.take k ++ [x] := by
    rw [List.take_add_one, h]; rfl
  rw [this, crcAdd_append]
  rfl

set_option maxHeartbeats 1000000 in
theorem add_any (s : BitVec 16) (v : Value) (xs : List (BitVec 8)) (w : World) (hv : Byts w v xs) (hl : xs.length ≤ maxLen) :
    Calls Try.prog 16 #[.int .u16 (s.toNat : Int), v] w fun e w' => e = .returned (.int .u16 ((crcAdd s xs).toNat : Int)) ∧ w = w' := by
  obtain ⟨av, cv, ev⟩ := hv.len
  have HV := Lib.hid hv
  clear hv
  subst ev
  unfold maxLen at hl
  go_enter Try.func16, Try.ntmps16
  go_wp2
  go_loop [0, 9] (fun t i => ∃ k : Nat, k ≤ xs.length ∧ i = .int .i64 k ∧ t = .int .u16 ((crcAdd s (xs.take k)).toNat : Int)) (fun _ i => xs.length - (intOf i).toNat)
  case atStart => exact ⟨0, by omega, rfl, rfl⟩
  case round =>
    obtain ⟨k, hk, rfl, rfl⟩ := hrel
    by_cases hlt : k < xs.length
    · obtain ⟨g, o, c, x, e1, hc1, hg1, hx, h1⟩ := HV.out.at_ k hlt
      have HS := Lib.hid (crcAdd_next s xs k x hx)
      clear hx
      simp only [Value.slice.injEq] at e1
      obtain ⟨rfl, _, rfl⟩ := e1
      generalize crcAdd s (xs.take k) = r at *
      go_wp2_with fail
      (with_reducible refine (byte_any _ _ _).mono ?_)
      rintro e w1 ⟨rfl, rfl⟩
      go_wp2_with fail
      go_round
      case rel => exact ⟨k + 1, by omega, by go_num, by rw [HS.out]⟩
      case measure => simp [intOf]; omega
    · go_wp2
      go_ret
      obtain rfl : k = xs.length := by omega
      exact ⟨by rw [List.take_length]; rfl, rfl⟩

set_option maxHeartbeats 1000000 in
theorem radd_any (s : BitVec 16) (v : Value) (xs : List (BitVec 8)) (w : World) (hv : Byts w v xs) (hl : xs.length ≤ maxLen) :
    Calls Try.prog 17 #[.int .u16 (s.toNat : Int), v] w fun e w' => e = .returned (.int .u16 ((crcAdd s xs).toNat : Int)) ∧ w = w' := by
  obtain ⟨av, cv, ev⟩ := hv.len
  have HV := Lib.hid hv
  clear hv
  subst ev
  unfold maxLen at hl
  go_enter Try.func17, Try.ntmps17
  go_wp2
  go_loop [0, 5] (fun t i => ∃ k : Nat, k ≤ xs.length ∧ i = .int .i64 k ∧ t = .int .u16 ((crcAdd s (xs.take k)).toNat : Int)) (fun _ i => xs.length - (intOf i).toNat)
  case atStart => exact ⟨0, by omega, rfl, rfl⟩
  case round =>
    obtain ⟨k, hk, rfl, rfl⟩ := hrel
    by_cases hlt : k < xs.length
    · obtain ⟨g, o, c, x, e1, hc1, hg1, hx, h1⟩ := HV.out.at_ k hlt
      have HS := Lib.hid (crcAdd_next s xs k x hx)
      clear hx
      simp only [Value.slice.injEq] at e1
      obtain ⟨rfl, _, rfl⟩ := e1
      generalize crcAdd s (xs.take k) = r at *
      go_wp2_with fail
      (with_reducible refine (one_any _ _ _).mono ?_)
      rintro e w1 ⟨rfl, rfl⟩
      go_wp2_with fail
      go_round
      case rel => exact ⟨k + 1, by omega, by go_num, by rw [HS.out]⟩
      case measure => simp [intOf]; omega
    · go_wp2
      go_ret
      obtain rfl : k = xs.length := by omega
      exact ⟨by rw [List.take_length]; rfl, rfl⟩

theorem ffff : (65535 : Int) = (((0xffff#16 : BitVec 16).toNat : Nat) : Int) := by decide

theorem sum_any (v : Value) (xs : List (BitVec 8)) (w : World) (hv : Byts w v xs) (hl : xs.length ≤ maxLen) :
    Calls Try.prog 14 #[v] w fun e w' => e = .returned (.int .u16 ((crcSum xs).toNat : Int)) ∧ w = w' := by
  have HV := Lib.hid hv
  clear hv
  have HA := Lib.hid (add_any 0xffff#16 v xs w HV.out hl)
  rw [← ffff] at HA
  go_enter Try.func14, Try.ntmps14
  go_wp2_with fail
  (with_reducible refine HA.out.mono ?_)
  rintro e w1 ⟨rfl, rfl⟩
  go_wp2_with fail
  go_ret
  exact ⟨rfl, rfl⟩
theorem rsum_any (v : Value) (xs : List (BitVec 8)) (w : World) (hv : Byts w v xs) (hl : xs.length ≤ maxLen) :
    Calls Try.prog 15 #[v] w fun e w' => e = .returned (.int .u16 ((crcSum xs).toNat : Int)) ∧ w = w' := by
  have HV := Lib.hid hv
  clear hv
  have HA := Lib.hid (radd_any 0xffff#16 v xs w HV.out hl)
  rw [← ffff] at HA
  go_enter Try.func15, Try.ntmps15
  go_wp2_with fail
  (with_reducible refine HA.out.mono ?_)
  rintro e w1 ⟨rfl, rfl⟩
  go_wp2_with fail
  go_ret
  exact ⟨rfl, rfl⟩
end Go.Proofs.Ytbhbckfonnagdaa

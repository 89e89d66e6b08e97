/-
  crc.Add, crc.Sum and the document's own: the sum of a slice of bytes, by contract.
-/
import Derived.Test.YtdgehinmkbhjlaaDoorCrcByte
import Derived.Test.YtdgehinmkbhjlaaDoorBytes
import Derived.Below
import Derived.Laws.OwnMore
namespace Go.Proofs.YtdgehinmkbhjlaaDoor
open Go.RowKit

theorem crcAdd_next (s : BitVec 16) (xs : List (BitVec 8)) (k : Nat) (x : BitVec 8) (h : xs[k]? = some x) : crcAdd s (xs.take (k + 1)) = crcByte (crcAdd s (xs.take k)) x := by
  have : xs.take (k + 1) = xs.take k ++ [x] := by
    rw [List.take_add_one, h]; rfl
  rw [this, crcAdd_append]
  rfl

set_option maxHeartbeats 1000000 in
theorem add_any (s : BitVec 16) (v : Value) (xs : List (BitVec 8)) (w : World) (hv : Byts w v xs) (hl : xs.length ≤ maxLen) :
    Calls Tryd.prog 29 #[.int .u16 (s.toNat : Int), v] w fun e w' => e = .returned (.int .u16 ((crcAdd s xs).toNat : Int)) ∧ w = w' := by
  obtain ⟨av, cv, ev⟩ := hv.len
  have HV := Lib.hid hv
  clear hv
  subst ev
  unfold maxLen at hl
  go_enter Tryd.func29, Tryd.ntmps29
  go_wp2
  go_loop [0, 9] (fun t i => ∃ k : Nat, k ≤ xs.length ∧ i = .int .i64 k ∧ t = .int .u16 ((crcAdd s (xs.take k)).toNat : Int)) (fun _ i => xs.length - (intOf i).toNat)
  case atStart => exact ⟨0, by omega, rfl, rfl⟩
  case round =>
    obtain ⟨k, hk, rfl, rfl⟩ := hrel
    by_cases hlt : k < xs.length
    · obtain ⟨g, o, c, x, e1, hc1, hg1, hx, h1⟩ := HV.out.at_ k hlt
      have HS := Lib.hid (crcAdd_next s xs k x hx)
      clear hx
      simp only [Value.slice.injEq] at e1
      obtain ⟨rfl, _, rfl⟩ := e1
      generalize crcAdd s (xs.take k) = r at *
      go_wp2_with fail
      (with_reducible refine (byte_any _ _ _).mono ?_)
      rintro e w1 ⟨rfl, rfl⟩
      go_wp2_with fail
      go_round
      case rel => exact ⟨k + 1, by omega, by go_num, by rw [HS.out]⟩
      case measure => simp [intOf]; omega
    · go_wp2
      go_ret
      obtain rfl : k = xs.length := by omega
      exact ⟨by rw [List.take_length]; rfl, rfl⟩

set_option maxHeartbeats 1000000 in
theorem radd_any (s : BitVec 16) (v : Value) (xs : List (BitVec 8)) (w : World) (hv : Byts w v xs) (hl : xs.length ≤ maxLen) :
    Calls Tryd.prog 28 #[.int .u16 (s.toNat : Int), v] w fun e w' => e = .returned (.int .u16 ((crcAdd s xs).toNat : Int)) ∧ w = w' := by
  obtain ⟨av, cv, ev⟩ := hv.len
  have HV := Lib.hid hv
  clear hv
  subst ev
  unfold maxLen at hl
  go_enter Tryd.func28, Tryd.ntmps28
  go_wp2
  go_loop [0, 5] (fun t i => ∃ k : Nat, k ≤ xs.length ∧ i = .int .i64 k ∧ t = .int .u16 ((crcAdd s (xs.take k)).toNat : Int)) (fun _ i => xs.length - (intOf i).toNat)
  case atStart => exact ⟨0, by omega, rfl, rfl⟩
  case round =>
    obtain ⟨k, hk, rfl, rfl⟩ := hrel
    by_cases hlt : k < xs.length
    · obtain ⟨g, o, c, x, e1, hc1, hg1, hx, h1⟩ := HV.out.at_ k hlt
      have HS := Lib.hid (crcAdd_next s xs k x hx)
      clear hx
      simp only [Value.slice.injEq] at e1
      obtain ⟨rfl, _, rfl⟩ := e1
      generalize crcAdd s (xs.take k) = r at *
      go_wp2_with fail
      (with_reducible refine (one_any _ _ _).mono ?_)
      rintro e w1 ⟨rfl, rfl⟩
      go_wp2_with fail
      go_round
      case rel => exact ⟨k + 1, by omega, by go_num, by rw [HS.out]⟩
      case measure => simp [intOf]; omega
    · go_wp2
      go_ret
      obtain rfl : k = xs.length := by omega
      exact ⟨by rw [List.take_length]; rfl, rfl⟩

theorem ffff : (65535 : Int) = (((0xffff#16 : BitVec 16).toNat : Nat) : Int) := by decide

theorem sum_any (v : Value) (xs : List (BitVec 8)) (w : World) (hv : Byts w v xs) (hl : xs.length ≤ maxLen) :
    Calls Tryd.prog 25 #[v] w fun e w' => e = .returned (.int .u16 ((crcSum xs).toNat : Int)) ∧ w = w' := by
  have HV := Lib.hid hv
  clear hv
  have HA := Lib.hid (add_any 0xffff#16 v xs w HV.out hl)
  rw [← ffff] at HA
  go_enter Tryd.func25, Tryd.ntmps25
  go_wp2_with fail
  (with_reducible refine HA.out.mono ?_)
  rintro e w1 ⟨rfl, rfl⟩
  go_wp2_with fail
  go_ret
  exact ⟨rfl, rfl⟩
theorem rsum_any (v : Value) (xs : List (BitVec 8)) (w : World) (hv : Byts w v xs) (hl : xs.length ≤ maxLen) :
    Calls Tryd.prog 24 #[v] w fun e w' => e = .returned (.int .u16 ((crcSum xs).toNat : Int)) ∧ w = w' := by
  have HV := Lib.hid hv
  clear hv
  have HA := Lib.hid (radd_any 0xffff#16 v xs w HV.out hl)
  rw [← ffff] at HA
  go_enter Tryd.func24, Tryd.ntmps24
  go_wp2_with fail
  (with_reducible refine HA.out.mono ?_)
  rintro e w1 ⟨rfl, rfl⟩
  go_wp2_with fail
  go_ret
  exact ⟨rfl, rfl⟩
end Go.Proofs.YtdgehinmkbhjlaaDoor

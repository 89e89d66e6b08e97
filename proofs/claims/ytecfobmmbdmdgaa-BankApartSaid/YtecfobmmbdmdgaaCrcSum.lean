/-
  crc's sum of a byte, Add and Sum, by contract.
-/
import Derived.Test.YtecfobmmbdmdgaaCrcFacts
namespace Go.Proofs.Ytecfobmmbdmdgaa
open Go.RowKit

set_option maxHeartbeats 1000000 in
theorem byte_any (s : BitVec 16) (x : BitVec 8) (w : World) :
    Calls Try.prog 43 #[.int .u16 (s.toNat : Int), .int .u8 (x.toNat : Int)] w fun e w' => e = .returned (.int .u16 ((crcByte s x).toNat : Int)) ∧ w = w' := by
  have h1 := s.isLt
  have h2 := x.isLt
  have e0 := first16 s x
  have HC := Lib.hid (show crcByte s x = stps 8 (s ^^^ (wide x <<< 8)) from rfl)
  generalize s ^^^ (wide x <<< 8) = r0 at *
  go_enter Try.func43, Try.ntmps43
  go_wp2
  clear e0
  go_loop [0, 11] (fun t i => ∃ k : Nat, k ≤ 8 ∧ i = .int .i64 k ∧ t = .int .u16 ((stps k r0).toNat : Int)) (fun _ i => 8 - (intOf i).toNat)
  case atStart => exact ⟨0, by omega, rfl, rfl⟩
  case round =>
    obtain ⟨k, hk, rfl, rfl⟩ := hrel
    have hA := and_high (stps k r0)
    have hr := (stps k r0).isLt
    have HS := Lib.hid (show stps (k + 1) r0 = stp (stps k r0) from rfl)
    by_cases hlt : k < 8
    · generalize stps k r0 = r at *
      by_cases hm : 32768 ≤ r.toNat
      · have HN := Lib.hid (stp_high hm)
        have hb : r.msb = true := by rw [high16]; simp; omega
        simp only [hb, if_true] at hA
        clear hb
        go_wp2
        go_round
        case rel => exact ⟨k + 1, by omega, by go_num, by rw [HS.out, HN.out]⟩
        case measure => simp [intOf]; omega
      · have hm' : r.toNat < 32768 := by omega
        have HN := Lib.hid (stp_low hm')
        have hb : r.msb = false := by rw [high16]; simp; omega
        simp only [hb] at hA
        clear hb hm
        go_wp2
        go_round
        case rel => exact ⟨k + 1, by omega, by go_num, by rw [HS.out, HN.out]⟩
        case measure => simp [intOf]; omega
    · go_wp2
      go_ret
      obtain rfl : k = 8 := by omega
      exact ⟨by rw [HC.out]; rfl, rfl⟩

set_option maxHeartbeats 1000000 in
theorem add_any (s : BitVec 16) (v : Value) (xs : List (BitVec 8)) (w : World) (hv : Byts w v xs) (hl : xs.length ≤ maxLen) :
    Calls Try.prog 36 #[.int .u16 (s.toNat : Int), v] w fun e w' => e = .returned (.int .u16 ((crcAdd s xs).toNat : Int)) ∧ w = w' := by
  obtain ⟨av, cv, ev⟩ := hv.len
  have HV := Lib.hid hv
  clear hv
  subst ev
  unfold maxLen at hl
  go_enter Try.func36, Try.ntmps36
  go_wp2
  go_loop [0, 9] (fun t i => ∃ k : Nat, k ≤ xs.length ∧ i = .int .i64 k ∧ t = .int .u16 ((crcAdd s (xs.take k)).toNat : Int)) (fun _ i => xs.length - (intOf i).toNat)
  case atStart => exact ⟨0, by omega, rfl, rfl⟩
  case round =>
    obtain ⟨k, hk, rfl, rfl⟩ := hrel
    by_cases hlt : k < xs.length
    · obtain ⟨g, o, c, x, e1, hc1, hg1, hx, h1⟩ := HV.out.at_ k hlt
      have HS := Lib.hid (crcAdd_next s xs k x hx)
      clear hx
      simp only [Value.slice.injEq] at e1
      obtain ⟨rfl, _, rfl⟩ := e1
      generalize crcAdd s (xs.take k) = r at *
      go_wp2_with fail
      (with_reducible refine (byte_any _ _ _).mono ?_)
      rintro e w1 ⟨rfl, rfl⟩
      go_wp2_with fail
      go_round
      case rel => exact ⟨k + 1, by omega, by go_num, by rw [HS.out]⟩
      case measure => simp [intOf]; omega
    · go_wp2
      go_ret
      obtain rfl : k = xs.length := by omega
      exact ⟨by rw [List.take_length]; rfl, rfl⟩

theorem sum_any (v : Value) (xs : List (BitVec 8)) (w : World) (hv : Byts w v xs) (hl : xs.length ≤ maxLen) :
    Calls Try.prog 28 #[v] w fun e w' => e = .returned (.int .u16 ((crcSum xs).toNat : Int)) ∧ w = w' := by
  have HV := Lib.hid hv
  clear hv
  have HA := Lib.hid (add_any 0xffff#16 v xs w HV.out hl)
  rw [← ffff] at HA
  go_enter Try.func28, Try.ntmps28
  go_wp2_with fail
  (with_reducible refine HA.out.mono ?_)
  rintro e w1 ⟨rfl, rfl⟩
  go_wp2_with fail
  go_ret
  exact ⟨rfl, rfl⟩
end Go.Proofs.Ytecfobmmbdmdgaa

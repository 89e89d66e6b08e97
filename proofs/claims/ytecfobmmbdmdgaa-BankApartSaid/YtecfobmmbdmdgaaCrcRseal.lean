/-
  The document's own sum of a byte, Add, Sum and Seal, by contract.
-/
import Derived.Test.YtecfobmmbdmdgaaCrcFacts
namespace Go.Proofs.Ytecfobmmbdmdgaa
open Go.RowKit

set_option maxHeartbeats 1000000 in
theorem one_any (s : BitVec 16) (x : BitVec 8) (w : World) :
    Calls Try.prog 42 #[.int .u16 (s.toNat : Int), .int .u8 (x.toNat : Int)] w fun e w' => e = .returned (.int .u16 ((crcByte s x).toNat : Int)) ∧ w = w' := by
  have h1 := s.isLt
  have h2 := x.isLt
  have e0 := first16 s x
  have HC := Lib.hid (show crcByte s x = stps 8 (s ^^^ (wide x <<< 8)) from rfl)
  generalize s ^^^ (wide x <<< 8) = r0 at *
  go_enter Try.func42, Try.ntmps42
  go_wp2
  clear e0
  go_loop [0, 5] (fun t i => ∃ k : Nat, k ≤ 8 ∧ i = .int .i64 k ∧ t = .int .u16 ((stps k r0).toNat : Int)) (fun _ i => 8 - (intOf i).toNat)
  case atStart => exact ⟨0, by omega, rfl, rfl⟩
  case round =>
    obtain ⟨k, hk, rfl, rfl⟩ := hrel
    have hr := (stps k r0).isLt
    have HS := Lib.hid (show stps (k + 1) r0 = stp (stps k r0) from rfl)
    by_cases hlt : k < 8
    · generalize stps k r0 = r at *
      by_cases hm : 32768 ≤ r.toNat
      · have HN := Lib.hid (stp_high hm)
        have hd : decide ((32768 : Int) ≤ (r.toNat : Int)) = true := by simp; omega
        go_wp2
        go_round
        case rel => exact ⟨k + 1, by omega, by go_num, by rw [HS.out, HN.out]⟩
        case measure => simp [intOf]; omega
      · have hm' : r.toNat < 32768 := by omega
        have HN := Lib.hid (stp_low hm')
        have hd : decide ((32768 : Int) ≤ (r.toNat : Int)) = false := by simp; omega
        clear hm
        go_wp2
        go_round
        case rel => exact ⟨k + 1, by omega, by go_num, by rw [HS.out, HN.out]⟩
        case measure => simp [intOf]; omega
    · go_wp2
      go_ret
      obtain rfl : k = 8 := by omega
      exact ⟨by rw [HC.out]; rfl, rfl⟩
set_option maxHeartbeats 1000000 in
theorem radd_any (s : BitVec 16) (v : Value) (xs : List (BitVec 8)) (w : World) (hv : Byts w v xs) (hl : xs.length ≤ maxLen) :
    Calls Try.prog 35 #[.int .u16 (s.toNat : Int), v] w fun e w' => e = .returned (.int .u16 ((crcAdd s xs).toNat : Int)) ∧ w = w' := by
  obtain ⟨av, cv, ev⟩ := hv.len
  have HV := Lib.hid hv
  clear hv
  subst ev
  unfold maxLen at hl
  go_enter Try.func35, Try.ntmps35
  go_wp2
  go_loop [0, 5] (fun t i => ∃ k : Nat, k ≤ xs.length ∧ i = .int .i64 k ∧ t = .int .u16 ((crcAdd s (xs.take k)).toNat : Int)) (fun _ i => xs.length - (intOf i).toNat)
  case atStart => exact ⟨0, by omega, rfl, rfl⟩
  case round =>
    obtain ⟨k, hk, rfl, rfl⟩ := hrel
    by_cases hlt : k < xs.length
    · obtain ⟨g, o, c, x, e1, hc1, hg1, hx, h1⟩ := HV.out.at_ k hlt
      have HS := Lib.hid (crcAdd_next s xs k x hx)
      clear hx
      simp only [Value.slice.injEq] at e1
      obtain ⟨rfl, _, rfl⟩ := e1
      generalize crcAdd s (xs.take k) = r at *
      go_wp2_with fail
      (with_reducible refine (one_any _ _ _).mono ?_)
      rintro e w1 ⟨rfl, rfl⟩
      go_wp2_with fail
      go_round
      case rel => exact ⟨k + 1, by omega, by go_num, by rw [HS.out]⟩
      case measure => simp [intOf]; omega
    · go_wp2
      go_ret
      obtain rfl : k = xs.length := by omega
      exact ⟨by rw [List.take_length]; rfl, rfl⟩

theorem rsum_any (v : Value) (xs : List (BitVec 8)) (w : World) (hv : Byts w v xs) (hl : xs.length ≤ maxLen) :
    Calls Try.prog 26 #[v] w fun e w' => e = .returned (.int .u16 ((crcSum xs).toNat : Int)) ∧ w = w' := by
  have HV := Lib.hid hv
  clear hv
  have HA := Lib.hid (radd_any 0xffff#16 v xs w HV.out hl)
  rw [← ffff] at HA
  go_enter Try.func26, Try.ntmps26
  go_wp2_with fail
  (with_reducible refine HA.out.mono ?_)
  rintro e w1 ⟨rfl, rfl⟩
  go_wp2_with fail
  go_ret
  exact ⟨rfl, rfl⟩
set_option maxHeartbeats 1000000 in
theorem rseal_any (v : Value) (xs : List (BitVec 8)) (w : World) (hv : Byts w v xs) (hl : xs.length ≤ 1000000) :
    Calls Try.prog 19 #[v] w fun e w' => ∃ r, e = .returned r ∧ Own w' w.heap.size r (sealed xs) ∧ Below w.heap.size w w' := by
  obtain ⟨av, cv, ev⟩ := hv.len
  have HV := Lib.hid hv
  have hs := (crcSum xs).isLt
  have HX := Lib.hid (show sealed xs = xs ++ [hi (crcSum xs), lo (crcSum xs)] from rfl)
  clear hv
  subst ev
  go_enter Try.func19, Try.ntmps19
  go_wp2_with fail
  (with_reducible refine (rsum_any _ xs _ HV.out (by unfold maxLen; omega)).mono ?_)
  rintro e w1 ⟨rfl, rfl⟩
  generalize crcSum xs = s at *
  have HO := Lib.hid (own_lit w w.heap.size [] (Nat.le_refl _) (by unfold maxLen; simp))
  have HB := Lib.hid ((Below.refl w.heap.size w).alloc (Nat.le_refl _) (.cells #[] 5))
  have HV1 := Lib.hid (HV.out.below HB.out)
  have tok1 : True := trivial
  have hsz := HB.out.size
  go_wp2_with (first
    | (at_builtin; have _t := tok1; refine wpList_app rfl _ _ rfl w.heap.size _ [] rfl HO.out _ xs rfl HV1.out (by simp; omega) hsz ?_; intro v1 w1 hown1 hg1; have HO1 := Lib.hid hown1; have HB1 := Lib.hid (HO.out.grown HB.out hg1); have hsz1 := HB1.out.size; clear hown1 hg1 tok1 _t HO HB HV1 hsz)
    | (at_builtin; refine wpList_app rfl _ _ rfl w.heap.size _ _ rfl (HO1.out.alloc _) _ [hi s, lo s] rfl (two_src _ _) (by simp; omega) (le_alloc hsz1 _) ?_; intro v2 w2 hown2 hg2; have HO2 := Lib.hid hown2; have HB2 := Lib.hid ((HO1.out.alloc _).grown (below_alloc HB1.out _) hg2); clear hown2 hg2 HO1 HB1 hsz1))
  go_ret
  exact ⟨_, rfl, by rw [HX.out]; simpa using HO2.out, HB2.out⟩
end Go.Proofs.Ytecfobmmbdmdgaa

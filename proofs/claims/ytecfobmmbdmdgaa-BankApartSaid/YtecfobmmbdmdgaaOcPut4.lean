/-
  octet.Put32 and the document's Put, by contracts.
-/
import Derived.Test.YtecfobmmbdmdgaaOcTake
import Derived.Laws.ShiftsVarLaws
namespace Go.Proofs.Ytecfobmmbdmdgaa
open Go.RowKit

theorem oc_four (w : World) (n : BitVec 32) : Byts (w.alloc (.cells #[.int .u8 ((n.toNat : Int) / 16777216), .int .u8 ((n.toNat : Int) / 65536 % 256), .int .u8 ((n.toNat : Int) / 256 % 256), .int .u8 ((n.toNat : Int) % 256)] 5)) (.slice (some ⟨w.heap.size, 0, none⟩) 4 4) (lay4 n) := by
  have h := n.isLt
  refine lit_byts w _ 4 (0, 0) (lay4 n) ?_ rfl
  simp [lay4, cel]
  omega

theorem put32_any (v : Value) (n : BitVec 32) (xs : List (BitVec 8)) (w : World) (hv : Byts w v xs) (hl : xs.length ≤ 1000000) :
    Calls Try.prog 21 #[v, .int .u32 (n.toNat : Int)] w fun e w' => ∃ r, e = .returned r ∧ Own w' w.heap.size r (xs ++ lay4 n) ∧ Below w.heap.size w w' := by
  have hn := n.isLt
  have HV := Lib.hid hv
  have HL := Lib.hid (oc_four w n)
  clear hv
  go_enter Try.func21, Try.ntmps21
  go_wp2_with fail
  (with_reducible refine (lay_any _ _ xs (lay4 n) _ (HV.out.below (below_alloc (Below.refl _ w) _)) HL.out (by simp [lay4]; omega)).mono ?_)
  rintro e w1 ⟨r, rfl, hown, hb⟩
  have HO := Lib.hid (hown.mono (le_alloc (Nat.le_refl _) _))
  have HB := Lib.hid (below_call (below_alloc (Below.refl _ w) _) hb)
  clear hown hb HL HV
  go_wp2_with fail
  go_ret
  exact ⟨_, rfl, HO.out, HB.out⟩

theorem oc_one (w : World) (n i : Nat) : Byts (w.alloc (.cells #[.int .u8 ((n : Int) / 2 ^ (8 * i) % 256)] 5)) (.slice (some ⟨w.heap.size, 0, none⟩) 1 1) [BitVec.ofNat 8 (n / 2 ^ (8 * i))] := by
  refine lit_byts w _ 1 (0, 0) _ ?_ rfl
  simp [cel]
set_option maxHeartbeats 1000000 in
set_option maxRecDepth 100000 in
theorem rput_any (v : Value) (n : Nat) (size : Nat) (xs : List (BitVec 8)) (w : World) (hv : Byts w v xs) (hl : xs.length ≤ 1000000) (_ : n < 4294967296) (hs : size ≤ 4) :
    Calls Try.prog 23 #[v, .int .u32 (n : Int), .int .i64 (size : Int)] w fun e w' => ∃ r, e = .returned r ∧ Own w' w.heap.size r (xs ++ tops n size size) ∧ Below w.heap.size w w' := by
  obtain ⟨av, cv, ev⟩ := hv.len
  have HV := Lib.hid hv
  clear hv
  subst ev
  have HO := Lib.hid (own_lit w w.heap.size [] (Nat.le_refl _) (by unfold maxLen; simp))
  have HB := Lib.hid ((Below.refl w.heap.size w).alloc (Nat.le_refl _) (.cells #[] 5))
  have HV1 := Lib.hid (HV.out.below HB.out)
  have hsz := HB.out.size
  go_enter Try.func23, Try.ntmps23
  go_wp2_with (at_builtin; refine wpList_app rfl _ _ rfl w.heap.size _ [] rfl HO.out _ xs rfl HV1.out (by simp; omega) hsz ?_; intro v1 w1 hown1 hg1; have HO1 := Lib.hid hown1; have HB1 := Lib.hid (HO.out.grown HB.out hg1); clear hown1 hg1 HO HB HV1 hsz)
  go_loopw [7, 8] (fun o k wr => ∃ d : Nat, d ≤ size ∧ k = .int .i64 ((size : Int) - 1 - d) ∧ Own wr w.heap.size o (xs ++ tops n size d) ∧ Below w.heap.size w wr) (fun _ k _ => (intOf k + 1).toNat)
  case atStart => exact ⟨0, by omega, by simp, by simpa [tops] using HO1.out, HB1.out⟩
  case round =>
    obtain ⟨d, hd, hk, ho, hb⟩ := hrel
    have HOW := Lib.hid ho
    have HBW := Lib.hid hb
    clear ho hb HO1 HB1
    by_cases hlt : d < size
    · obtain ⟨i, hi⟩ : ∃ i, i = size - 1 - d := ⟨_, rfl⟩
      have hi3 : i ≤ 3 := by omega
      rw [show (size : Int) - 1 - d = (i : Int) by omega] at hk
      subst hk
      have HT := Lib.hid (show tops n size (d + 1) = tops n size d ++ [BitVec.ofNat 8 (n / 2 ^ (8 * i))] by rw [hi]; rfl)
      have HI := Lib.hid hi
      have hz1 := HBW.out.size
      clear hi
      go_wp2_with (at_builtin; refine wpList_app rfl _ _ rfl w.heap.size _ _ rfl (HOW.out.alloc _) _ [BitVec.ofNat 8 (n / 2 ^ (8 * i))] rfl (oc_one _ n i) (by simp [tops_length]; omega) (le_alloc hz1 _) ?_; intro v2 w2 hown2 hg2; have HO2 := Lib.hid hown2; have HB2 := Lib.hid ((HOW.out.alloc _).grown (below_alloc HBW.out _) hg2); clear hown2 hg2 HOW HBW hz1)
      go_roundw
      case rel => exact ⟨d + 1, by omega, by have := HI.out; congr 1; omega, by rw [HT.out, ← List.append_assoc]; exact HO2.out, HB2.out⟩
      case measure => simp [intOf]
    · obtain rfl : d = size := by omega
      have hneg : decide ((0 : Int) ≤ (d : Int) - 1 - (d : Int)) = false := by simp; omega
      subst hk
      go_wp2
      go_ret
      exact ⟨_, rfl, HOW.out, HBW.out⟩
end Go.Proofs.Ytecfobmmbdmdgaa

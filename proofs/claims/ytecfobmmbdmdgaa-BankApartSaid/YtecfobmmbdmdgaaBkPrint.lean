/-
  bank.fits, Print, by contract.
-/
import Derived.Test.YtecfobmmbdmdgaaBkMath
import Derived.Test.YtecfobmmbdmdgaaOcPut4
import Derived.Test.YtecfobmmbdmdgaaCrcSeal
namespace Go.Proofs.Ytecfobmmbdmdgaa
open Go.RowKit

theorem fits_yes (n : Nat) (h1 : 1 ≤ n) (h2 : n ≤ 40) (w : World) : Calls Try.prog 20 #[.int .i64 (n : Int)] w fun e w' => e = .returned (.bool true) ∧ w = w' := by
  have b1 : (1 : Int) ≤ (n : Int) := by omega
  have b2 : (n : Int) ≤ 40 := by omega
  go_enter Try.func20, Try.ntmps20
  go_wp2
  go_ret
  exact ⟨rfl, rfl⟩
theorem fits_no (n : Nat) (h : n = 0 ∨ 40 < n) (w : World) : Calls Try.prog 20 #[.int .i64 (n : Int)] w fun e w' => e = .returned (.bool false) ∧ w = w' := by
  rcases h with rfl | h
  · go_enter Try.func20, Try.ntmps20
    go_wp2
    go_ret
    exact ⟨rfl, rfl⟩
  · have b1 : decide ((1 : Int) ≤ (n : Int)) = true := by simp; omega
    have b2 : decide ((n : Int) ≤ 40) = false := by simp; omega
    go_enter Try.func20, Try.ntmps20
    go_wp2
    go_ret
    exact ⟨rfl, rfl⟩

theorem print_no (s : Int) (v : Value) (xs : List (BitVec 8)) (w : World) (hv : Byts w v xs) (h : xs.length = 0 ∨ 40 < xs.length) :
    Calls Try.prog 10 #[.int .u32 s, v] w fun e w' => e = .returned (.tuple #[.slice none 0 0, .bool false]) ∧ w = w' := by
  obtain ⟨av, cv, ev⟩ := hv.len
  have HF := Lib.hid (fits_no xs.length h w)
  clear hv h
  subst ev
  go_enter Try.func10, Try.ntmps10
  go_wp2_with fail
  (with_reducible refine HF.out.mono ?_)
  rintro e w1 ⟨rfl, rfl⟩
  go_wp2_with fail
  go_ret2
  exact ⟨rfl, rfl⟩

theorem bk_one (w : World) (n : Nat) (hn : n < 256) : Byts (w.alloc (.cells #[.int .u8 (n : Int)] 5)) (.slice (some ⟨w.heap.size, 0, none⟩) 1 1) [BitVec.ofNat 8 n] := by
  refine lit_byts w _ 1 (0, 0) _ ?_ rfl
  simp [cel]
  omega
theorem bk_zero (w : World) : Byts (w.alloc (.cells #[.int .u8 0] 5)) (.slice (some ⟨w.heap.size, 0, none⟩) 1 1) [0#8] := lit_byts w _ 1 (0, 0) _ rfl rfl

set_option maxHeartbeats 1000000 in
theorem print_yes (s : BitVec 32) (v : Value) (xs : List (BitVec 8)) (w : World) (hv : Byts w v xs) (h1 : 1 ≤ xs.length) (h2 : xs.length ≤ 40) :
    Calls Try.prog 10 #[.int .u32 (s.toNat : Int), v] w fun e w' => ∃ r, e = .returned (.tuple #[r, .bool true]) ∧ Own w' w.heap.size r (pr s.toNat xs) ∧ Below w.heap.size w w' := by
  obtain ⟨av, cv, ev⟩ := hv.len
  have HF := Lib.hid (fits_yes xs.length h1 h2 w)
  have HV := Lib.hid hv
  have HP := Lib.hid (show pr s.toNat xs = sealed (([BitVec.ofNat 8 xs.length] ++ lay4 s) ++ xs) ++ [0#8] by unfold pr hd; rw [BitVec.ofNat_toNat, BitVec.setWidth_eq]; rfl)
  have hw : IntKind.u8.wrap (xs.length : Int) = (xs.length : Int) := by simp [IntKind.wrap, IntKind.bits, IntKind.signed]; omega
  have HB0 := Lib.hid (below_alloc (Below.refl _ w) (.cells #[.int .u8 (xs.length : Int)] 5))
  have HT := Lib.hid (put32_any _ s _ _ (bk_one w xs.length (by omega)) (by simp))
  have HL := Lib.hid h2
  clear hv h1 h2
  subst ev
  go_enter Try.func10, Try.ntmps10
  go_wp2_with fail
  (with_reducible refine HF.out.mono ?_)
  rintro e w1 ⟨rfl, rfl⟩
  go_wp2_with fail
  (with_reducible refine HT.out.mono ?_)
  rintro e w2 ⟨r, rfl, hown, hb⟩
  have HO := Lib.hid (hown.mono (le_alloc (Nat.le_refl _) _))
  have HB := Lib.hid (below_call HB0.out hb)
  have HV1 := Lib.hid (HV.out.below HB.out)
  have hsz := HB.out.size
  have hn : xs.length ≤ 40 := HL.out
  clear hown hb HF HT HB0
  go_wp2_with (at_builtin; refine wpList_app rfl _ _ rfl w.heap.size _ _ rfl HO.out _ xs rfl HV1.out (by simp [lay4]; omega) hsz ?_; intro v3 w3 hown3 hg3; have HO3 := Lib.hid hown3; have HB3 := Lib.hid (HO.out.grown HB.out hg3); clear hown3 hg3 HO HB HV1 hsz)
  (with_reducible refine (seal_any _ _ _ HO3.out.byts (by simp [lay4]; omega)).mono ?_)
  rintro e w4 ⟨r4, rfl, hown, hb⟩
  have HO4 := Lib.hid (hown.mono HB3.out.size)
  have HB4 := Lib.hid (below_call HB3.out hb)
  have hsz := HB4.out.size
  clear hown hb HO3 HB3
  go_wp2_with (at_builtin; refine wpList_app rfl _ _ rfl w.heap.size _ _ rfl (HO4.out.alloc _) _ [0#8] rfl (bk_zero _) (by simp [len_sealed, lay4]; omega) (le_alloc hsz _) ?_; intro v5 w5 hown5 hg5; have HO5 := Lib.hid hown5; have HB5 := Lib.hid ((HO4.out.alloc _).grown (below_alloc HB4.out _) hg5); clear hown5 hg5 HO4 HB4 hsz)
  go_ret2
  exact ⟨_, rfl, by rw [HP.out]; exact HO5.out, HB5.out⟩
end Go.Proofs.Ytecfobmmbdmdgaa

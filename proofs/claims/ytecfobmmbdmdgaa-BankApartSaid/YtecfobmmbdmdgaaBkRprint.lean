/-
  The document's own Print of a record, by contract.
-/
import Derived.Test.YtecfobmmbdmdgaaBkPrint
import Derived.Test.YtecfobmmbdmdgaaCrcRseal
namespace Go.Proofs.Ytecfobmmbdmdgaa
open Go.RowKit

theorem rprint_no (s : Int) (v : Value) (xs : List (BitVec 8)) (w : World) (hv : Byts w v xs) (h : xs.length = 0 ∨ 40 < xs.length) :
    Calls Try.prog 11 #[.int .u32 s, v] w fun e w' => e = .returned (.tuple #[.slice none 0 0, .bool false]) ∧ w = w' := by
  obtain ⟨av, cv, ev⟩ := hv.len
  clear hv
  subst ev
  rcases h with h | h
  · rw [h]
    go_enter Try.func11, Try.ntmps11
    go_wp2
    go_ret2
    exact ⟨rfl, rfl⟩
  · have b1 : decide ((xs.length : Int) < 1) = false := by simp; omega
    have b2 : decide ((40 : Int) < (xs.length : Int)) = true := by simp; omega
    go_enter Try.func11, Try.ntmps11
    go_wp2
    go_ret2
    exact ⟨rfl, rfl⟩

set_option maxHeartbeats 1000000 in
theorem rprint_yes (s : BitVec 32) (v : Value) (xs : List (BitVec 8)) (w : World) (hv : Byts w v xs) (h1 : 1 ≤ xs.length) (h2 : xs.length ≤ 40) :
    Calls Try.prog 11 #[.int .u32 (s.toNat : Int), v] w fun e w' => ∃ r, e = .returned (.tuple #[r, .bool true]) ∧ Own w' w.heap.size r (pr s.toNat xs) ∧ Below w.heap.size w w' := by
  obtain ⟨av, cv, ev⟩ := hv.len
  have HV := Lib.hid hv
  have HP := Lib.hid (show pr s.toNat xs = sealed (([BitVec.ofNat 8 xs.length] ++ tops s.toNat 4 4) ++ xs) ++ [0#8] by unfold pr hd; rw [BitVec.ofNat_toNat, BitVec.setWidth_eq, tops_four]; rfl)
  have hw : IntKind.u8.wrap (xs.length : Int) = (xs.length : Int) := by simp [IntKind.wrap, IntKind.bits, IntKind.signed]; omega
  have HB0 := Lib.hid (below_alloc (Below.refl _ w) (.cells #[.int .u8 (xs.length : Int)] 5))
  have HT := Lib.hid (rput_any _ s.toNat 4 _ _ (bk_one w xs.length (by omega)) (by simp) (by have := s.isLt; omega) (by decide))
  rw [show ((4 : Nat) : Int) = 4 from rfl] at HT
  have HL := Lib.hid h2
  have b1 : decide ((xs.length : Int) < 1) = false := by simp; omega
  have b2 : decide ((40 : Int) < (xs.length : Int)) = false := by simp; omega
  clear hv h1 h2
  subst ev
  go_enter Try.func11, Try.ntmps11
  go_wp2_with fail
  (with_reducible refine HT.out.mono ?_)
  rintro e w2 ⟨r, rfl, hown, hb⟩
  have HO := Lib.hid (hown.mono (le_alloc (Nat.le_refl _) _))
  have HB := Lib.hid (below_call HB0.out hb)
  have HV1 := Lib.hid (HV.out.below HB.out)
  have hsz := HB.out.size
  have hn : xs.length ≤ 40 := HL.out
  clear hown hb HT HB0 b1 b2
  go_wp2_with (at_builtin; refine wpList_app rfl _ _ rfl w.heap.size _ _ rfl HO.out _ xs rfl HV1.out (by simp [tops_length]; omega) hsz ?_; intro v3 w3 hown3 hg3; have HO3 := Lib.hid hown3; have HB3 := Lib.hid (HO.out.grown HB.out hg3); clear hown3 hg3 HO HB HV1 hsz)
  (with_reducible refine (rseal_any _ _ _ HO3.out.byts (by simp [tops_length]; omega)).mono ?_)
  rintro e w4 ⟨r4, rfl, hown, hb⟩
  have HO4 := Lib.hid (hown.mono HB3.out.size)
  have HB4 := Lib.hid (below_call HB3.out hb)
  have hsz := HB4.out.size
  clear hown hb HO3 HB3
  go_wp2_with (at_builtin; refine wpList_app rfl _ _ rfl w.heap.size _ _ rfl (HO4.out.alloc _) _ [0#8] rfl (bk_zero _) (by simp [len_sealed, tops_length]; omega) (le_alloc hsz _) ?_; intro v5 w5 hown5 hg5; have HO5 := Lib.hid hown5; have HB5 := Lib.hid ((HO4.out.alloc _).grown (below_alloc HB4.out _) hg5); clear hown5 hg5 HO4 HB4 hsz)
  go_ret2
  exact ⟨_, rfl, by rw [HP.out]; exact HO5.out, HB5.out⟩
end Go.Proofs.Ytecfobmmbdmdgaa

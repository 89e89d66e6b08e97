/-
  The small case of every law of layer 2: true.
-/
import Derived.Test.YtbhbckfonnagdaaRopen
import Derived.Lib.SlBytesConst
namespace Go.Proofs.Ytbhbckfonnagdaa
open Go.RowKit

theorem lit_byts (w : World) (C : Array Value) (n : Nat) (fr : Nat × Nat) (xs : List (BitVec 8)) (hC : C.toList = xs.map cel) (hn : xs.length = n) : Byts (w.alloc (.cells C 5 fr)) (.slice (some ⟨w.heap.size, 0, none⟩) n n) xs := by
  subst hn
  refine .inr ⟨w.heap.size, 0, xs.length, rfl, Nat.le_refl _, fun j x hx => ?_⟩
  have h := heap_alloc_new w (.cells C 5 fr)
  rw [cell_of_row _ _ _ _ _ _ h, ← Array.getElem?_toList, hC]
  simp [hx]

theorem byts_nil (w : World) : Byts w (.slice none 0 0) [] := .inl ⟨rfl, .inl rfl⟩
theorem opens_one : opens [1#8] = false := by decide +kernel
theorem opens_00 : opens [0#8, 0#8] = false := by decide +kernel
theorem below_call {w w1 w2 : World} (h : Below w.heap.size w w1) (h2 : Below w1.heap.size w1 w2) : Below w.heap.size w w2 := h.trans (h2.mono h.size)
theorem sum_digits : ((crcSum [49#8, 50#8, 51#8, 52#8, 53#8, 54#8, 55#8, 56#8, 57#8]).toNat : Int) = 10673 := by decide +kernel
theorem sum_none : ((crcSum []).toNat : Int) = 65535 := by decide +kernel
theorem sum_rest : ((crcAdd (crcSum [49#8, 50#8, 51#8, 52#8]) [53#8, 54#8, 55#8, 56#8, 57#8]).toNat : Int) = 10673 := by decide +kernel
theorem str_ab : strOfNums ([97#8, 98#8].map fun x => (x.toNat : Int)) = ⟨#[97, 98]⟩ := by decide +kernel

set_option maxHeartbeats 4000000 in
set_option maxRecDepth 100000 in
theorem small_true (w : World) : Calls Try.prog 9 #[] w fun e w' => e = .returned (.bool true) ∧ Below w.heap.size w w' := by
  have kc := fun (w : World) (C : Array Value) (n c : Nat) => Lib.run_convert_bytes_const (P := Try.prog) w 23 5 C n c Try.underlying23 Try.underlying5
  have L := Lib.hid (lit_byts w #[.int .u8 97, .int .u8 98] 2 (2, 3) [97#8, 98#8] rfl rfl)
  go_enter Try.func9, Try.ntmps9
  go_wp2_with fail
  (with_reducible refine (seal_any _ [97#8, 98#8] _ L.out (by decide)).mono ?_)
  rintro e w1 ⟨r, rfl, hown, hb⟩
  have HB := Lib.hid (below_call (below_alloc (Below.refl _ w) _) hb)
  obtain ⟨ar, cr, er⟩ := hown.byts.len
  have HV := Lib.hid hown.byts
  clear hown hb L
  subst er
  have h4 : (sealed [97#8, 98#8]).length = 4 := rfl
  rw [h4] at HV ⊢
  clear h4
  go_wp2_with fail
  (with_reducible refine (open_t _ (sealed [97#8, 98#8]) _ HV.out (by decide) (opens_sealed _)).mono ?_)
  rintro e w2 ⟨r2, rfl, hown, hb⟩
  rw [front_sealed] at hown
  have HB2 := Lib.hid (below_call HB.out hb)
  obtain ⟨ar2, cr2, er⟩ := hown.byts.len
  have HV2 := Lib.hid hown.byts
  clear hown hb HB HV
  subst er
  have L := Lib.hid (lit_byts w2 #[.int .u8 1] 1 (0, 0) [1#8] rfl rfl)
  go_wp2_with fail
  (with_reducible refine (open_f _ [1#8] _ L.out (by decide) opens_one).mono ?_)
  rintro e w3 ⟨rfl, hb⟩
  have HB3 := Lib.hid (below_call (below_alloc HB2.out _) hb)
  have HV3 := Lib.hid (HV2.out.below (below_call (below_alloc (Below.refl _ w2) _) hb))
  clear hb L HV2 HB2
  have L := Lib.hid (lit_byts w3 #[.int .u8 0, .int .u8 0] 2 (0, 0) [0#8, 0#8] rfl rfl)
  go_wp2_with fail
  (with_reducible refine (open_f _ [0#8, 0#8] _ L.out (by decide) opens_00).mono ?_)
  rintro e w4 ⟨rfl, hb⟩
  have HB4 := Lib.hid (below_call (below_alloc HB3.out _) hb)
  have HV4 := Lib.hid (HV3.out.below (below_call (below_alloc (Below.refl _ w3) _) hb))
  clear hb L HV3 HB3
  have L := Lib.hid (lit_byts w4 #[.int .u8 49, .int .u8 50, .int .u8 51, .int .u8 52, .int .u8 53, .int .u8 54, .int .u8 55, .int .u8 56, .int .u8 57] 9 (9, 10) [49#8, 50#8, 51#8, 52#8, 53#8, 54#8, 55#8, 56#8, 57#8] rfl rfl)
  go_wp2_with fail
  (with_reducible refine (sum_any _ [49#8, 50#8, 51#8, 52#8, 53#8, 54#8, 55#8, 56#8, 57#8] _ L.out (by unfold maxLen; simp)).mono ?_)
  rintro e w5 ⟨rfl, rfl⟩
  clear L
  rw [sum_digits]
  go_wp2_with fail
  (with_reducible refine (sum_any _ [] _ (byts_nil _) (by unfold maxLen; simp)).mono ?_)
  rintro e w5 ⟨rfl, rfl⟩
  rw [sum_none]
  have hstr : ∀ o, (convert 23 9 (.slice ar2 2 cr2)).run Try.prog (w4.alloc o) = .ok (.string ⟨#[97, 98]⟩) (w4.alloc o) := fun o => by
    rw [← str_ab]
    exact strNums [97#8, 98#8] _ _ (HV4.out.below (below_alloc (Below.refl _ w4) _))
  clear HV4
  have HB5 := Lib.hid (below_alloc HB4.out (.cells #[.int .u8 49, .int .u8 50, .int .u8 51, .int .u8 52, .int .u8 53, .int .u8 54, .int .u8 55, .int .u8 56, .int .u8 57] 5 (9, 10)))
  clear HB4
  generalize hw5 : w4.alloc (.cells #[.int .u8 49, .int .u8 50, .int .u8 51, .int .u8 52, .int .u8 53, .int .u8 54, .int .u8 55, .int .u8 56, .int .u8 57] 5 (9, 10)) = w5 at *
  have hs5 : (convert 23 9 (.slice ar2 2 cr2)).run Try.prog w5 = .ok (.string ⟨#[97, 98]⟩) w5 := by rw [← hw5]; exact hstr _
  clear hstr hw5
  have L := Lib.hid (lit_byts w5 #[.int .u8 49, .int .u8 50, .int .u8 51, .int .u8 52] 4 (4, 5) [49#8, 50#8, 51#8, 52#8] rfl rfl)
  go_wp2_with fail
  (with_reducible refine (sum_any _ [49#8, 50#8, 51#8, 52#8] _ L.out (by unfold maxLen; simp)).mono ?_)
  rintro e w6 ⟨rfl, rfl⟩
  clear L hs5
  have HB6 := Lib.hid (below_alloc HB5.out (.cells #[.int .u8 49, .int .u8 50, .int .u8 51, .int .u8 52] 5 (4, 5)))
  clear HB5
  generalize w5.alloc (.cells #[.int .u8 49, .int .u8 50, .int .u8 51, .int .u8 52] 5 (4, 5)) = w6 at *
  have L := Lib.hid (lit_byts w6 #[.int .u8 53, .int .u8 54, .int .u8 55, .int .u8 56, .int .u8 57] 5 (5, 6) [53#8, 54#8, 55#8, 56#8, 57#8] rfl rfl)
  have HR := Lib.hid sum_rest
  generalize crcSum [49#8, 50#8, 51#8, 52#8] = s at *
  go_wp2_with fail
  (with_reducible refine (add_any s _ [53#8, 54#8, 55#8, 56#8, 57#8] _ L.out (by unfold maxLen; simp)).mono ?_)
  rintro e w7 ⟨rfl, rfl⟩
  rw [HR.out]
  go_wp2_with fail
  go_ret
  exact ⟨rfl, below_alloc HB6.out _⟩
end Go.Proofs.Ytbhbckfonnagdaa

/-
  The document's own Open, by contract.
-/
import Derived.Test.YtecfobmmbdmdgaaCrcOpens
import Derived.Test.YtecfobmmbdmdgaaCrcRseal
namespace Go.Proofs.Ytecfobmmbdmdgaa
open Go.RowKit

theorem rshort_no (v : Value) (xs : List (BitVec 8)) (w : World) (hv : Byts w v xs) (hl : xs.length < 2) :
    Calls Try.prog 32 #[v] w fun e w' => e = .returned (.tuple #[.slice none 0 0, .bool false]) ∧ Below w.heap.size w w' := by
  obtain ⟨av, cv, ev⟩ := hv.len
  clear hv
  subst ev
  go_enter Try.func32, Try.ntmps32
  go_wp2
  go_ret2
  exact ⟨rfl, Below.refl _ _⟩

theorem neq8 {a b : BitVec 8} (h : a ≠ b) : ((a.toNat : Int) != (b.toNat : Int)) = true := by
  simp
  intro he
  exact h (BitVec.eq_of_toNat_eq (by omega))
theorem eq8 (a : BitVec 8) : ((a.toNat : Int) != (a.toNat : Int)) = false := by simp

set_option maxHeartbeats 1000000 in
theorem rother_no (g o n m cap : Nat) (xs : List (BitVec 8)) (h l : BitVec 8) (w : World) (hv : Byts w (.slice (some ⟨g, o, none⟩) n cap) xs) (hh : w.cell? ⟨g, o + n, none⟩ = some (.int .u8 (h.toNat : Int))) (hl : w.cell? ⟨g, o + (n + 1), none⟩ = some (.int .u8 (l.toNat : Int)))
    (hx : xs.length ≤ 140737488351232) (hm : m = n + 2) (hn : n ≤ 140737488351232) (hc : m ≤ cap) (hne : cat h l ≠ crcSum xs) :
    Calls Try.prog 32 #[.slice (some ⟨g, o, none⟩) m cap] w fun e w' => e = .returned (.tuple #[.slice none 0 0, .bool false]) ∧ Below w.heap.size w w' := by
  have h1 := h.isLt
  have h2 := l.isLt
  have b1 : (n : Int) < (m : Int) := by omega
  have b2 : (n : Int) + 1 < (m : Int) := by omega
  have b3 : n ≤ cap := by omega
  have b4 : n < m := by omega
  have b5 : n + 1 < m := by omega
  have e1 : (m : Int) - 2 = (n : Int) := by omega
  have hs := (crcSum xs).isLt
  have v1 := hi_val (crcSum xs)
  have v2 := lo_val (crcSum xs)
  have HM := Lib.hid hm
  have HV := Lib.hid hv
  have hcase : h ≠ hi (crcSum xs) ∨ (h = hi (crcSum xs) ∧ l ≠ lo (crcSum xs)) := by
    by_cases ha : h = hi (crcSum xs)
    · refine .inr ⟨ha, fun hb => hne ?_⟩
      rw [ha, hb, cat_hilo]
    · exact .inl ha
  clear hm hv hne
  rcases hcase with ha | ⟨ha, hb⟩
  · have n1 := neq8 ha
    clear ha
    go_enter Try.func32, Try.ntmps32
    go_wp2_with fail
    (with_reducible refine (rsum_any _ xs _ HV.out (by unfold maxLen; omega)).mono ?_)
    rintro e w1 ⟨rfl, rfl⟩
    generalize crcSum xs = s at *
    go_wp2_with fail
    go_ret2
    exact ⟨rfl, Below.refl _ _⟩
  · have n1 := neq8 hb
    have n2 := eq8 (hi (crcSum xs))
    subst ha
    clear hb
    go_enter Try.func32, Try.ntmps32
    go_wp2_with fail
    (with_reducible refine (rsum_any _ xs _ HV.out (by unfold maxLen; omega)).mono ?_)
    rintro e w1 ⟨rfl, rfl⟩
    generalize crcSum xs = s at *
    go_wp2_with fail
    go_ret2
    exact ⟨rfl, Below.refl _ _⟩

set_option maxHeartbeats 1000000 in
theorem ropen_yes (g o n m cap : Nat) (xs : List (BitVec 8)) (w : World) (hx : xs.length = n) (hv : Byts w (.slice (some ⟨g, o, none⟩) n cap) xs) (hh : w.cell? ⟨g, o + n, none⟩ = some (.int .u8 ((hi (crcSum xs)).toNat : Int))) (hl : w.cell? ⟨g, o + (n + 1), none⟩ = some (.int .u8 ((lo (crcSum xs)).toNat : Int)))
    (hm : m = n + 2) (hn : n ≤ 140737488351232) (hc : m ≤ cap) :
    Calls Try.prog 32 #[.slice (some ⟨g, o, none⟩) m cap] w fun e w' => ∃ r, e = .returned (.tuple #[r, .bool true]) ∧ Own w' w.heap.size r xs ∧ Below w.heap.size w w' := by
  have b1 : (n : Int) < (m : Int) := by omega
  have b2 : (n : Int) + 1 < (m : Int) := by omega
  have b3 : n ≤ cap := by omega
  have b4 : n < m := by omega
  have b5 : n + 1 < m := by omega
  have e1 : (m : Int) - 2 = (n : Int) := by omega
  have hs := (crcSum xs).isLt
  have v1 := hi_val (crcSum xs)
  have v2 := lo_val (crcSum xs)
  have n1 := eq8 (hi (crcSum xs))
  have n2 := eq8 (lo (crcSum xs))
  have HM := Lib.hid hm
  have HV := Lib.hid hv
  have HX := Lib.hid hx
  clear hm hv hx
  have HXX := Lib.hid (show xs.length ≤ maxLen by rw [HX.out]; unfold maxLen; omega)
  have HX2 := Lib.hid (show ([] : List (BitVec 8)).length + xs.length ≤ 140737488355328 by rw [HX.out]; simp; omega)
  have HO := Lib.hid (own_lit w w.heap.size [] (Nat.le_refl _) (by unfold maxLen; simp))
  have HB := Lib.hid ((Below.refl w.heap.size w).alloc (Nat.le_refl _) (.cells #[] 5))
  have HV1 := Lib.hid (HV.out.below HB.out)
  have hsz := HB.out.size
  go_enter Try.func32, Try.ntmps32
  go_wp2_with fail
  (with_reducible refine (rsum_any _ xs _ HV.out HXX.out).mono ?_)
  rintro e w1 ⟨rfl, rfl⟩
  generalize crcSum xs = s at *
  go_wp2_with (at_builtin; refine wpList_app rfl _ _ rfl w.heap.size _ [] rfl HO.out _ xs rfl HV1.out HX2.out hsz ?_; intro v1 w1 hown1 hg1; have HO1 := Lib.hid hown1; have HB1 := Lib.hid (HO.out.grown HB.out hg1); clear hown1 hg1 HO HB HV1 hsz)
  go_ret2
  exact ⟨_, rfl, HO1.out, HB1.out⟩

theorem ropen_t (v : Value) (xs : List (BitVec 8)) (w : World) (hv : Byts w v xs) (hl : xs.length ≤ 140737488351232) (ho : opens xs = true) :
    Calls Try.prog 32 #[v] w fun e w' => ∃ r, e = .returned (.tuple #[r, .bool true]) ∧ Own w' w.heap.size r (front xs) ∧ Below w.heap.size w w' := by
  have h2 : 2 ≤ xs.length := by simp [opens] at ho; exact ho.1
  obtain ⟨f, a, b, rfl⟩ := split_two h2
  rw [opens_two] at ho
  have ho := of_decide_eq_true ho
  obtain ⟨g, o, cap, rfl, hc, hf, hcs, hh, hb⟩ := hv.two
  rw [front_two]
  obtain ⟨ea, eb⟩ := cat_inj ho
  rw [ea] at hh
  rw [eb] at hb
  exact ropen_yes g o f.length (f.length + 2) cap f w rfl hf hh hb rfl (by simp at hl; omega) hc
theorem ropen_f (v : Value) (xs : List (BitVec 8)) (w : World) (hv : Byts w v xs) (hl : xs.length ≤ 140737488351232) (ho : opens xs = false) :
    Calls Try.prog 32 #[v] w fun e w' => e = .returned (.tuple #[.slice none 0 0, .bool false]) ∧ Below w.heap.size w w' := by
  rcases Nat.lt_or_ge xs.length 2 with h2 | h2
  · exact rshort_no v xs w hv h2
  · obtain ⟨f, a, b, rfl⟩ := split_two h2
    rw [opens_two] at ho
    have ho := of_decide_eq_false ho
    obtain ⟨g, o, cap, rfl, hc, hf, hcs, hh, hb⟩ := hv.two
    simp at hl
    exact rother_no g o f.length (f.length + 2) cap f a b w hf hh hb (by omega) rfl (by omega) hc ho
end Go.Proofs.Ytecfobmmbdmdgaa

/-
  crc.Open and the document's own, by contract.
-/
import Derived.Test.YtecfobmmbdmdgaaCrcSum
import Derived.Deep.QuietTactic
import Derived.BigQuiet
import Derived.IntWalk
import Derived.Laws.CopyOwn
namespace Go.Proofs.Ytecfobmmbdmdgaa
open Go.RowKit

theorem below_drewN {B : Nat} {a w : World} (h : Below B a w) (n : Nat) : Below B a (w.drewN n) := ⟨h.os, h.tape, h.output, h.size, h.block⟩
theorem Byts.drewN {w : World} {v : Value} {xs : List (BitVec 8)} (h : Byts w v xs) (n : Nat) : Byts (w.drewN n) v xs := h
theorem or_cat (h l : BitVec 8) : bits .or .u16 ((h.toNat : Int) * 256) (l.toNat : Int) = ((cat h l).toNat : Int) := by
  have h1 := h.isLt
  have h2 := l.isLt
  rw [show (h.toNat : Int) * 256 = ((h.toNat * 256 : Nat) : Int) by simp, or16 _ _ (by omega) (by omega), or_parts _ _ (by omega), cat_toNat]

theorem neq16 {a b : BitVec 16} (h : a ≠ b) : ((a.toNat : Int) != (b.toNat : Int)) = true := by
  simp
  intro he
  exact h (BitVec.eq_of_toNat_eq (by omega))

theorem short_no (v : Value) (xs : List (BitVec 8)) (w : World) (hv : Byts w v xs) (hl : xs.length < 2) :
    Calls Try.prog 38 #[v] w fun e w' => e = .returned (.tuple #[.slice none 0 0, .bool false]) ∧ Below w.heap.size w w' := by
  obtain ⟨av, cv, ev⟩ := hv.len
  clear hv
  subst ev
  go_enter Try.func38, Try.ntmps38
  go_wp2
  go_ret2
  exact ⟨rfl, Below.refl _ _⟩

set_option maxHeartbeats 1000000 in
theorem other_no (g o n m cap : Nat) (xs : List (BitVec 8)) (h l : BitVec 8) (w : World) (hv : Byts w (.slice (some ⟨g, o, none⟩) n cap) xs) (hh : w.cell? ⟨g, o + n, none⟩ = some (.int .u8 (h.toNat : Int))) (hl : w.cell? ⟨g, o + (n + 1), none⟩ = some (.int .u8 (l.toNat : Int)))
    (hx : xs.length ≤ 140737488351232) (hm : m = n + 2) (hn : n ≤ 140737488351232) (hc : m ≤ cap) (hne : cat h l ≠ crcSum xs) :
    Calls Try.prog 38 #[.slice (some ⟨g, o, none⟩) m cap] w fun e w' => e = .returned (.tuple #[.slice none 0 0, .bool false]) ∧ Below w.heap.size w w' := by
  have hor := or_cat h l
  have h1 := h.isLt
  have h2 := l.isLt
  have b1 : (n : Int) < (m : Int) := by omega
  have b2 : (n : Int) + 1 < (m : Int) := by omega
  have b3 : n ≤ cap := by omega
  have e1 : (m : Int) - 2 = (n : Int) := by omega
  have e2 : IntKind.i64.wrap ((n : Int) + 1) = (n : Int) + 1 := IntWalk.i64_in _ (by omega)
  have e3 : ((n : Int) + 1).toNat = n + 1 := by omega
  have e4 : (0 : Int) ≤ (n : Int) + 1 := by omega
  have HM := Lib.hid hm
  have HV := Lib.hid hv
  have HE := Lib.hid (neq16 hne)
  clear hm hv hne
  go_enter Try.func38, Try.ntmps38
  go_wp2
  go_quiet (fail)
  go_wp2_with fail
  (with_reducible refine (sum_any _ xs _ (HV.out.drewN _) (by unfold maxLen; omega)).mono ?_)
  rintro e w1 ⟨rfl, rfl⟩
  have he := HE.out
  go_wp2_with fail
  go_ret2
  exact ⟨rfl, below_drewN (Below.refl _ _) _⟩

theorem own_block {w : World} {B g : Nat} {xs : List (BitVec 8)} (h : w.heap[g]? = some (.cells (xs.map cel).toArray 5 (0, 0))) (hB : B ≤ g) (hm : xs.length ≤ maxLen) : Own w B (.slice (some ⟨g, 0, none⟩) xs.length xs.length) xs :=
  ⟨by simp, .inr ⟨g, xs.length, _, rfl, hB, h, Nat.le_refl _, hm, by simp, by simp [List.take_of_length_le]⟩⟩
theorem szU8 : (Try.prog.info? 5).map (·.size) = some 1 := by kernel_rfl
theorem splice_all {α : Type} (a b : List α) (h : a.length = b.length) : splice a 0 b = b := by
  simp [splice, h]

set_option maxHeartbeats 1000000 in
set_option maxRecDepth 10000 in
theorem open_yes (g o n m cap : Nat) (xs : List (BitVec 8)) (h l : BitVec 8) (w : World) (hx : xs.length = n) (hv : Byts w (.slice (some ⟨g, o, none⟩) n cap) xs) (hcs : ∀ (j : Nat) x, xs[j]? = some x → w.cell? ⟨g, o + j, none⟩ = some (cel x)) (hh : w.cell? ⟨g, o + n, none⟩ = some (.int .u8 (h.toNat : Int))) (hl : w.cell? ⟨g, o + (n + 1), none⟩ = some (.int .u8 (l.toNat : Int)))
    (hm : m = n + 2) (hn : n ≤ 140737488351232) (hc : m ≤ cap) (hne : cat h l = crcSum xs) :
    Calls Try.prog 38 #[.slice (some ⟨g, o, none⟩) m cap] w fun e w' => ∃ r, e = .returned (.tuple #[r, .bool true]) ∧ Own w' w.heap.size r xs ∧ Below w.heap.size w w' := by
  have hor := or_cat h l
  have h1 := h.isLt
  have h2 := l.isLt
  have b1 : (n : Int) < (m : Int) := by omega
  have b2 : (n : Int) + 1 < (m : Int) := by omega
  have b3 : n ≤ cap := by omega
  have e1 : (m : Int) - 2 = (n : Int) := by omega
  have e2 : IntKind.i64.wrap ((n : Int) + 1) = (n : Int) + 1 := IntWalk.i64_in _ (by omega)
  have e3 : ((n : Int) + 1).toNat = n + 1 := by omega
  have e4 : (0 : Int) ≤ (n : Int) + 1 := by omega
  obtain ⟨M, hM, _, hmk⟩ := run_make_u8 n (by omega) n (by omega)
  have HM := Lib.hid hm
  have HV := Lib.hid hv
  have HX := Lib.hid hx
  have HC := Lib.hid hcs
  have HMS := Lib.hid hM
  rw [hne] at hor
  clear hm hv hne hx hcs hM
  go_enter Try.func38, Try.ntmps38
  go_wp2
  go_quiet (fail)
  have HXX := Lib.hid (show xs.length ≤ maxLen by rw [HX.out]; unfold maxLen; omega)
  have HN1 := Lib.hid (show (xs.map cel).length = Nat.min m n by rw [List.length_map, HX.out, HM.out]; simp)
  have HN2 := Lib.hid (show 0 + (xs.map cel).length ≤ M.toList.length by rw [List.length_map, HX.out, Array.length_toList, HMS.out]; omega)
  have HN3 := Lib.hid (show M.toList.length = (xs.map cel).length by rw [List.length_map, HX.out, Array.length_toList, HMS.out])
  clear hor hh hl b1 b2 e2 e3 e4 e1 HM
  go_wp2_with fail
  (with_reducible refine (sum_any _ xs _ (HV.out.drewN _) HXX.out).mono ?_)
  rintro e w1 ⟨rfl, rfl⟩
  have he : (((crcSum xs).toNat : Int) != ((crcSum xs).toNat : Int)) = false := by simp
  have HB : Hid (∀ k, Below w.heap.size w ((w.drewN k).alloc (.cells M 5))) := fun k => (below_drewN (Below.refl w.heap.size w) k).alloc (Nat.le_refl _) _
  have HG : Hid (∀ k, ((w.drewN k).alloc (.cells M 5)).heap[w.heap.size]? = some (.cells M.toList.toArray 5 (0, 0))) := fun k => by
    have := heap_alloc_new (w.drewN k) (.cells M 5)
    simpa using this
  have HS : Hid (∀ k, ∀ (j : Nat) v, (xs.map cel)[j]? = some v → ((w.drewN k).alloc (.cells M 5)).cell? ((⟨g, o, none⟩ : Addr).add j) = some v) := fun k j v hj => by
    rw [List.getElem?_map] at hj
    cases hy : xs[j]? with
    | none => rw [hy] at hj; cases hj
    | some y =>
      rw [hy] at hj
      cases hj
      have hc := HC.out j y hy
      rw [plain_add]
      exact (Below.cell (HB.out k) (p := ⟨g, o + j, none⟩) (lt_of_cell hc)).trans hc
  go_wp2_with ((refine wpList_copy_splice (o := ⟨some 35, _, _, _, _, _⟩) rfl _ _ 23 23 rfl 5 Try.underlying23 szU8 _ _ _ _ _ _ rfl rfl w.heap.size 0 M.toList 5 (HG.out _) (xs.map cel) HN1.out (fun _ => ⟨rfl, _, rfl, HS.out _⟩) HN2.out (cel_one xs) w.heap.size w (HB.out _) (Nat.le_refl _) ?_; intro w2 hg2 hb2))
  go_ret2
  refine ⟨_, rfl, ?_, hb2⟩
  have hg := hg2.out
  rw [splice_all _ _ HN3.out] at hg
  have := own_block hg (Nat.le_refl _) HXX.out
  rwa [HX.out] at this
end Go.Proofs.Ytecfobmmbdmdgaa

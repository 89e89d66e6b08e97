/-
  Two stores with the same bytes: the program's and the document's.
-/
import Derived.Test.YtekackglcapppaaGreatDoorYJn
import Derived.Test.YtekackglcapppaaGreatDoorJnRst

namespace Go.Proofs.YtekackglcapppaaGreatDoor
open Go.RowKit

set_option maxRecDepth 10000 in
theorem both_to {w0 w : World} (v : Value) (xs : List (BitVec 8)) (hv : Byts w0 v xs) (hl : xs.length ≤ 600) (hb : Below w0.heap.size w0 w) :
    Calls Tryz.prog 6 #[v] w fun e w' => ∃ s B x y t, e = .returned (.tuple #[.pointer (some ⟨s, 0, none⟩), .pointer (some ⟨x, 0, none⟩)]) ∧ MineS w0 w' s B (xs.length / 2) ⟨xs, false, none⟩ ∧ RSt w' x y ⟨xs, false, none⟩ ∧ (s < t ∧ B < t ∧ t ≤ x ∧ t ≤ y ∧ w0.heap.size ≤ t) := by
  obtain ⟨av, cv, ev⟩ := hv.len
  have HV := Lib.hid hv
  obtain ⟨n, hn⟩ : ∃ n, n = xs.length := ⟨_, rfl⟩
  have HN := Lib.hid hn
  rw [← hn] at ev hl
  rw [← hn]
  subst ev
  have HNEW := Lib.hid (new_S (w0 := w0) (n : Int) n (by omega) hb)
  have HP : Hid (sput ⟨List.replicate n 255#8, false, none⟩ 0 xs = (⟨xs, false, none⟩, 0)) := Lib.hid (by
    unfold sput
    simp only
    rw [if_neg (by decide), splice_whole _ _ (by simp [HN.out])])
  clear hv hn hb
  go_enter Tryz.func6, Tryz.ntmps6
  go_wp2_with fail
  (with_reducible refine HNEW.out.mono ?_)
  rintro e w1 ⟨s, B, rfl, hM, _⟩
  have HM1 := Lib.hid hM
  have HR := Lib.hid (rsnew_to (n : Int) n (by omega) w1)
  clear hM HNEW
  go_wp2_with fail
  (with_reducible refine HR.out.mono ?_)
  rintro e w2 ⟨x, y, rfl, hx, hy, hR, hb⟩
  have HM2 := Lib.hid (HM1.out.below hb)
  have HR2 := Lib.hid hR
  have HT := Lib.hid (show s < w1.heap.size ∧ B < w1.heap.size ∧ w1.heap.size ≤ x ∧ w1.heap.size ≤ y ∧ w0.heap.size ≤ w1.heap.size from ⟨HM1.out.sto.lt.1, HM1.out.sto.lt.2, hx, hy, HM1.out.bel.size⟩)
  have HW := Lib.hid (write_S HM2.out.sto 0 0 rfl _ xs (HV.out.below HM2.out.bel) (by simp [HN.out]))
  rw [HP.out] at HW
  clear HM1 HR hx hy hR hb
  go_wp2_with fail
  (with_reducible refine HW.out.mono ?_)
  rintro e w3 ⟨u, rfl, _, hS, hk⟩
  have HM3 : Hid (MineS w0 w3 s B (n / 2) ⟨xs, false, none⟩) := Lib.hid ⟨hS, by rw [HN.out], below_keep HM2.out.bel hk fun g hg => by rcases hg with rfl | rfl; exact HM2.out.s_; exact HM2.out.B_, HM2.out.s_, HM2.out.B_⟩
  have HR3 := Lib.hid (HR2.out.keep hk (fun h => by have := HT.out; rcases h with h | h <;> omega) (fun h => by have := HT.out; rcases h with h | h <;> omega))
  have HW := Lib.hid (rswrite_to HR3.out 0 0 rfl _ xs (fun w' hk => HV.out.below (below_keep HM3.out.bel hk fun g hg => by have := HT.out; omega)) (by simp [HN.out]))
  rw [HP.out] at HW
  clear HM2 HR2 hS hk
  go_wp2_with fail
  (with_reducible refine HW.out.mono ?_)
  rintro e w4 ⟨c, rfl, _, hR, hk⟩
  have HM4 : Hid (MineS w0 w4 s B (n / 2) ⟨xs, false, none⟩) := Lib.hid ⟨HM3.out.sto.keep hk (fun h => by have := HT.out; rcases h with h | h <;> omega) (fun h => by have := HT.out; rcases h with h | h <;> omega), HM3.out.he, below_keep HM3.out.bel hk fun g hg => by have := HT.out; omega, HM3.out.s_, HM3.out.B_⟩
  have HR4 := Lib.hid hR
  clear HM3 HR3 HW hR hk
  go_wp2_with fail
  go_ret2
  exact ⟨s, B, x, y, w1.heap.size, rfl, HM4.out, HR4.out, HT.out⟩
end Go.Proofs.YtekackglcapppaaGreatDoor

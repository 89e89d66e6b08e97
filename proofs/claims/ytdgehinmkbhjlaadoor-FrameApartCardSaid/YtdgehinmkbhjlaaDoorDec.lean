/-
  frame.Decode, by contract.
-/
import Derived.Test.YtdgehinmkbhjlaaDoorForm
import Derived.RegionTactic
import Derived.ChangeAlike
namespace Go.Proofs.YtdgehinmkbhjlaaDoor
open Go.RowKit

/-- Three cells of a block that is no older than w0 are stored into. -/
theorem below_three {w0 w : World} {g : Nat} (h : Below w0.heap.size w0 w) (hg : w0.heap.size ≤ g) (a b c : Value) : Below w0.heap.size w0 (((w.setCell ⟨g, 0, none⟩ a).setCell ⟨g, 1, none⟩ b).setCell ⟨g, 2, none⟩ c) :=
  ((h.setCell (p := ⟨g, 0, none⟩) hg a).setCell (p := ⟨g, 1, none⟩) hg b).setCell (p := ⟨g, 2, none⟩) hg c

theorem Byts.apart {w w' : World} {v : Value} {xs : List (BitVec 8)} {b : Nat} (h : Byts w v xs) (ha : Apart b w w') (hn : ∀ a n c, v = .slice (some a) n c → a.block ≠ b) : Byts w' v xs := by
  rcases h with h | ⟨g, o, cap, hv, hc, h⟩
  · exact .inl h
  · exact .inr ⟨g, o, cap, hv, hc, fun j x hx => ha.cell (h j x hx) (hn _ _ _ hv)⟩
theorem apart_three (b : Nat) (w : World) (x y z : Value) : Apart b w (((w.setCell ⟨b, 0, none⟩ x).setCell ⟨b, 1, none⟩ y).setCell ⟨b, 2, none⟩ z) :=
  ((Apart.set_ b 0 w x).trans (Apart.set_ b 1 _ y)).trans (Apart.set_ b 2 _ z)

set_option maxHeartbeats 1000000 in
theorem dec_sum (u : Value) (b : List (BitVec 8)) (w : World) (hu : Byts w u b) (hl : b.length ≤ 1000000) (ho : opens b = false) :
    Calls Tryd.prog 12 #[u] w fun e w' => ∃ g, w.heap.size ≤ g ∧ e = .returned (.tuple #[.agg #[.int .i64 0, .int .i64 0, .slice none 0 0], .iface 50 (.pointer (some ⟨g, 0, none⟩))]) ∧ w'.cell? ⟨g, 1, none⟩ = some (.int .i64 3) ∧ Below w.heap.size w w' := by
  have HU := Lib.hid hu
  have HL := Lib.hid hl
  have HO := Lib.hid ho
  clear hu hl ho
  have HB := Lib.hid (below_alloc (Below.refl _ w) (.cells #[.int .i64 0, .int .i64 0, .slice none 0 0] 24))
  have HU1 := Lib.hid (HU.out.below HB.out)
  have HX := Lib.hid (box_new w 0 0 (.slice none 0 0))
  go_enter Tryd.func12, Tryd.ntmps12
  go_wp2_with fail
  (with_reducible refine (open_f _ b _ HU1.out HL.out HO.out).mono ?_)
  rintro e w1 ⟨rfl, hb⟩
  have HX1 := Lib.hid (HX.out.below hb)
  have HB1 := Lib.hid (below_call HB.out hb)
  clear hb HX
  go_wp2_with fail
  (with_reducible refine (new_form 3 rfl _ _).mono ?_)
  rintro e w2 ⟨g, hg, rfl, hc, hb⟩
  have HX2 := Lib.hid (HX1.out.below hb)
  have HB2 := Lib.hid (below_call HB1.out hb)
  have hne : g ≠ w.heap.size := by have := HX1.out.lt; omega
  have HG := Lib.hid (Nat.le_trans HB1.out.size hg)
  obtain ⟨e0, e1, e2⟩ := HX2.out.cells
  have f0 := HX2.out.frz 0
  have f1 := HX2.out.frz 1
  have f2 := HX2.out.frz 2
  clear hb hg
  go_wp2_with fail
  (try simp only [Exit.inBlock, Exit.then])
  refine bodyPost_ret (v := .tuple #[.agg #[.int .i64 0, .int .i64 0, .slice none 0 0], .iface 50 (.pointer (some ⟨g, 0, none⟩))]) ?_ rfl ⟨g, HG.out, rfl, ?_, below_three HB2.out (Nat.le_refl _) _ _ _⟩
  · rw [results_cell_tmp rfl]
    go_simp
  · exact (apart_three _ _ _ _ _).cell hc hne

set_option maxHeartbeats 1000000 in
theorem dec_form (u : Value) (b : List (BitVec 8)) (w : World) (hu : Byts w u b) (hl : b.length ≤ 1000000) (ho : opens b = true) (hf : ¬ Form (front b)) :
    Calls Tryd.prog 12 #[u] w fun e w' => ∃ g, w.heap.size ≤ g ∧ e = .returned (.tuple #[.agg #[.int .i64 0, .int .i64 0, .slice none 0 0], .iface 50 (.pointer (some ⟨g, 0, none⟩))]) ∧ w'.cell? ⟨g, 1, none⟩ = some (.int .i64 2) ∧ Below w.heap.size w w' := by
  have HU := Lib.hid hu
  have HL := Lib.hid hl
  have HO := Lib.hid ho
  have HF := Lib.hid hf
  have HFL := Lib.hid (Nat.le_trans (length_front (xs := b)) hl)
  clear hu hl ho hf
  have HB := Lib.hid (below_alloc (Below.refl _ w) (.cells #[.int .i64 0, .int .i64 0, .slice none 0 0] 24))
  have HU1 := Lib.hid (HU.out.below HB.out)
  have HX := Lib.hid (box_new w 0 0 (.slice none 0 0))
  go_enter Tryd.func12, Tryd.ntmps12
  go_wp2_with fail
  (with_reducible refine (open_t _ b _ HU1.out HL.out HO.out).mono ?_)
  rintro e w1 ⟨r, rfl, hown, hb⟩
  have HX1 := Lib.hid (HX.out.below hb)
  have HB1 := Lib.hid (below_call HB.out hb)
  have HR := Lib.hid hown.byts
  clear hb hown HX
  go_wp2_with fail
  (with_reducible refine (formed_no _ _ _ HR.out HFL.out HF.out).mono ?_)
  rintro e w3 ⟨rfl, hb⟩
  have HX3 := Lib.hid (HX1.out.below hb)
  have HB3 := Lib.hid (below_call HB1.out hb)
  clear hb HX1 HB1 HR
  go_wp2_with fail
  (with_reducible refine (new_form 2 rfl _ _).mono ?_)
  rintro e w2 ⟨g, hg, rfl, hc, hb⟩
  have HX2 := Lib.hid (HX3.out.below hb)
  have HB2 := Lib.hid (below_call HB3.out hb)
  have hne : g ≠ w.heap.size := by have := HX3.out.lt; omega
  have HG := Lib.hid (Nat.le_trans HB3.out.size hg)
  obtain ⟨e0, e1, e2⟩ := HX2.out.cells
  have f0 := HX2.out.frz 0
  have f1 := HX2.out.frz 1
  have f2 := HX2.out.frz 2
  clear hb hg
  go_wp2_with fail
  (try simp only [Exit.inBlock, Exit.then])
  refine bodyPost_ret (v := .tuple #[.agg #[.int .i64 0, .int .i64 0, .slice none 0 0], .iface 50 (.pointer (some ⟨g, 0, none⟩))]) ?_ rfl ⟨g, HG.out, rfl, ?_, below_three HB2.out (Nat.le_refl _) _ _ _⟩
  · rw [results_cell_tmp rfl]
    go_simp
  · exact (apart_three _ _ _ _ _).cell hc hne

set_option maxHeartbeats 1000000 in
theorem dec_yes (u : Value) (b : List (BitVec 8)) (x y : BitVec 8) (xs : List (BitVec 8)) (w : World) (hu : Byts w u b) (hl : b.length ≤ 1000000) (ho : opens b = true) (hf : front b = frm x y xs) (hx : x.toNat ≤ 15) (hxl : xs.length ≤ 16) :
    Calls Tryd.prog 12 #[u] w fun e w' => ∃ v, e = .returned (.tuple #[.agg #[.int .i64 (x.toNat : Int), .int .i64 (y.toNat : Int), v], .nilIface]) ∧ Byts w' v xs ∧ Below w.heap.size w w' := by
  have HU := Lib.hid hu
  have HL := Lib.hid hl
  have HO := Lib.hid ho
  have HF := Lib.hid (frm_form x y xs hx hxl)
  have HE := Lib.hid hf
  have HN := Lib.hid (show (frm x y xs).length = xs.length + 3 by simp [frm])
  have HFL := Lib.hid (show (frm x y xs).length ≤ 1000000 by simp [frm]; omega)
  have HXL := Lib.hid hxl
  have hx1 := x.isLt
  have hy1 := y.isLt
  clear hu hl ho hf hxl hx
  have HB := Lib.hid (below_alloc (Below.refl _ w) (.cells #[.int .i64 0, .int .i64 0, .slice none 0 0] 24))
  have HU1 := Lib.hid (HU.out.below HB.out)
  have HX := Lib.hid (box_new w 0 0 (.slice none 0 0))
  go_enter Tryd.func12, Tryd.ntmps12
  go_wp2_with fail
  (with_reducible refine (open_t _ b _ HU1.out HL.out HO.out).mono ?_)
  rintro e w1 ⟨r, rfl, hown, hb⟩
  rw [HE.out] at hown
  obtain ⟨g, cap, rfl, hcap, hge⟩ := hown.form (by rw [HN.out]; omega)
  rw [HN.out] at hown hcap ⊢
  have HX1 := Lib.hid (HX.out.below hb)
  have HB1 := Lib.hid (below_call HB.out hb)
  have HR := Lib.hid hown
  have HGE := Lib.hid (show g ≠ w.heap.size by have := HX.out.lt; omega)
  clear hb hown HX hge
  go_wp2_with fail
  (with_reducible refine (formed_yes _ _ _ HR.out.byts HFL.out HF.out).mono ?_)
  rintro e w3 ⟨rfl, hb⟩
  have HX3 := Lib.hid (HX1.out.below hb)
  have HB3 := Lib.hid (below_call HB1.out hb)
  have HR3 := Lib.hid (HR.out.below hb)
  clear hb HX1 HB1 HR
  have c0 := HR3.out.cell HN.out.symm 0 x rfl
  have c1 := HR3.out.cell HN.out.symm 1 y rfl
  obtain ⟨v2, hrun, hv2, hbl⟩ := cutR HR3.out.byts 3 (by rw [HN.out]; omega)
  have hv2 : Byts w3 v2 xs := hv2
  obtain ⟨a2, cap2, rfl⟩ := hv2.len
  have HV2 := Lib.hid hv2
  have HBL := Lib.hid (show ∀ a n c, Value.slice a2 xs.length cap2 = .slice (some a) n c → a.block ≠ w.heap.size from fun a n c h => by
    obtain ⟨a', n', c', e, e2⟩ := hbl a n c h
    cases e
    rw [e2]
    exact HGE.out)
  obtain ⟨e0, e1, e2⟩ := HX3.out.cells
  have f0 := HX3.out.frz 0
  have f1 := HX3.out.frz 1
  have f2 := HX3.out.frz 2
  have i0 : (0 : Int) < ((xs.length + 3 : Nat) : Int) := by omega
  have i1 : (1 : Int) < ((xs.length + 3 : Nat) : Int) := by omega
  rw [show ((3 : Nat) : Int) = 3 from rfl] at hrun
  clear hv2 hbl
  go_wp2_with fail
  go_region
  go_wp2_with fail
  (try simp only [Exit.inBlock, Exit.then])
  refine bodyPost_ret (v := .tuple #[.agg #[.int .i64 (x.toNat : Int), .int .i64 (y.toNat : Int), .slice a2 xs.length cap2], .nilIface]) ?_ rfl ⟨_, rfl, HV2.out.apart (Apart.drew (apart_three _ _ _ _ _)) HBL.out, below_drewN (below_three HB3.out (Nat.le_refl _) _ _ _) 1⟩
  rw [results_cell_tmp rfl]
  go_simp
end Go.Proofs.YtdgehinmkbhjlaaDoor

/-
  link's Take by contracts.
-/
import Derived.Test.YtmfgfjkpijmgoaaDoorLkB
import Derived.Deep.RegionWith
import Derived.Outline
namespace Go.Proofs.YtmfgfjkpijmgoaaDoor
open Go.RowKit

variable {w w' : World} {b F : Nat} {f : Nat → Ch} {v : Nat → Value} {D : Nat → Prop}
theorem take_arg (c q : Int) (u : Value) (xs : List (BitVec 8)) (hu : Byts w u xs) (hn : ¬ Fit c q xs.length) :
    Calls Tryd.prog 15 #[.pointer (some ⟨b, 0, none⟩), .agg #[.int .i64 c, .int .i64 q, u]] w fun e w' => ∃ g, e = .returned (.iface 59 (.pointer (some ⟨g, 0, none⟩))) ∧ w'.cell? ⟨g, 1, none⟩ = some (.int .i64 1) ∧ Below w.heap.size w w' := by
  obtain ⟨ua, uc, eu⟩ := hu.len
  have HN := Lib.hid hn
  have HB := Lib.hid (below_alloc (Below.refl _ w) (.cells #[.int .i64 c, .int .i64 q, u] 30))
  clear hu hn
  subst eu
  go_enter Tryd.func15, Tryd.ntmps15
  go_wp2_with fail
  (with_reducible refine (fits7_any c q _ _ _ false (decide_eq_false HN.out).symm _).mono ?_)
  rintro e w1 ⟨rfl, hb⟩
  have HB1 := Lib.hid (below_call HB.out hb)
  clear hb HB
  go_wp2_with fail
  (with_reducible refine (new_form 1 rfl _ _).mono ?_)
  rintro e w2 ⟨g, hg, rfl, hc, hb⟩
  have HB2 := Lib.hid (below_call HB1.out hb)
  have HC := Lib.hid hc
  clear hb hg hc HB1
  go_wp2_with fail
  go_ret
  exact ⟨g, rfl, HC.out, HB2.out⟩
set_option maxHeartbeats 1000000 in
theorem take_old (h : Lk true w 55 b F f v D) (k : Nat) (hk : k < 16) (q : Int) (u : Value) (xs : List (BitVec 8)) (hu : Byts w u xs) (hq : 0 ≤ q ∧ q ≤ 255) (hl : xs.length ≤ 16) (hf : isF F (f k) = true) (hn : follows q (f k).seq = false) :
    Calls Tryd.prog 15 #[.pointer (some ⟨b, 0, none⟩), .agg #[.int .i64 (k : Int), .int .i64 q, u]] w fun e w' => ∃ g, e = .returned (.iface 59 (.pointer (some ⟨g, 0, none⟩))) ∧ w'.cell? ⟨g, 1, none⟩ = some (.int .i64 4) ∧ Below w.heap.size w w' := by
  obtain ⟨ua, uc, eu⟩ := hu.len
  have HN := Lib.hid hn
  have HF := Lib.hid hf
  have HQ := Lib.hid hq
  have HP := Lib.hid (h.ok k hk).seq
  have HFit := Lib.hid (show Fit (k : Int) q xs.length by unfold Fit; omega)
  have HB := Lib.hid (below_alloc (Below.refl _ w) (.cells #[.int .i64 (k : Int), .int .i64 q, u] 30))
  have HX := Lib.hid (blk_new w #[.int .i64 (k : Int), .int .i64 q, u] 30)
  have HL := Lib.hid h
  have hk0 : (0 : Int) ≤ (k : Int) := by omega
  have hk1 : (k : Int) < 16 := by omega
  obtain ⟨va, vn, vc, ev⟩ := h.sl k hk
  have HEV := Lib.hid ev
  clear hu hn h ev hf hq hl
  subst eu
  go_enter Tryd.func15, Tryd.ntmps15
  go_wp2_with fail
  (with_reducible refine (fits7_any (k : Int) q _ _ _ true (decide_eq_true HFit.out).symm _).mono ?_)
  rintro e w1 ⟨rfl, hb⟩
  have HB1 := Lib.hid (below_call HB.out hb)
  have HL1 := Lib.hid (HL.out.below HB1.out)
  have HX1 := Lib.hid (HX.out.below hb)
  obtain ⟨x0, x1, x2⟩ := HX1.out.three
  obtain ⟨c0, c1, c2, c3⟩ := HL1.out.at_ k hk
  rw [HEV.out] at c3
  clear hb HB HL HX
  go_wp2_with fail
  go_quiet (fail)
  have HBd := Lib.hid (bel_drewN w1 nq)
  have HB2 := Lib.hid (below_call HB1.out HBd.out)
  have HL2 := Lib.hid (HL1.out.below HBd.out)
  have HX2 := Lib.hid (HX1.out.below HBd.out)
  generalize w1.drewN nq = w2 at *
  clear x0 x1 x2 c0 c1 c2 c3 HB1 HL1 HX1 HBd
  obtain ⟨x0, x1, x2⟩ := HX2.out.three
  obtain ⟨c0, c1, c2, c3⟩ := HL2.out.at_ k hk
  rw [HEV.out] at c3
  obtain ⟨p, HPP⟩ : ∃ p, Hid (p = (f k).seq) := ⟨_, Lib.hid rfl⟩
  obtain ⟨a, HPA⟩ : ∃ a, Hid (a = (f k).age) := ⟨_, Lib.hid rfl⟩
  rw [(isF_iff.1 HF.out).1] at c0
  rw [← HPP.out] at c1 HP HN
  rw [← HPA.out] at c2
  have HAF := Lib.hid (show true = (true && decide (a ≤ F)) by rw [HPA.out]; have := (isF_iff.1 HF.out).2; simp; omega)
  go_wp2_with fail
  go_region_held3 (fun w' => w'.cell? ⟨b, 1 + k * 4, none⟩ = some (.bool true) ∧ w'.cell? ⟨b, 1 + k * 4 + 1, none⟩ = some (.int .i64 p) ∧ w'.cell? ⟨b, 1 + k * 4 + 2, none⟩ = some (.int .i64 (a : Int)) ∧ w'.cell? ⟨b, 1 + k * 4 + 3, none⟩ = some (.slice va vn vc) ∧ w'.cell? ⟨w.heap.size, 1, none⟩ = some (.int .i64 q))
    (first | exact ⟨c0, c1, c2, c3, x1⟩ | exact HK.out)
    (first
      | (go_at_call 27; (with_reducible refine (isFresh_any true _ 55 b F f v D HL2.out.drw true p _ a rfl _ true HAF.out).mono ?_); rintro e w3 ⟨rfl, hb⟩; have HB3 := Lib.hid hb; have HK := Lib.hid (show w3.cell? ⟨b, 1 + k * 4, none⟩ = some (.bool true) ∧ w3.cell? ⟨b, 1 + k * 4 + 1, none⟩ = some (.int .i64 p) ∧ w3.cell? ⟨b, 1 + k * 4 + 2, none⟩ = some (.int .i64 (a : Int)) ∧ w3.cell? ⟨b, 1 + k * 4 + 3, none⟩ = some (.slice va vn vc) ∧ w3.cell? ⟨w.heap.size, 1, none⟩ = some (.int .i64 q) from ⟨below_cell hb (show w2.drew.cell? _ = _ from c0), below_cell hb (show w2.drew.cell? _ = _ from c1), below_cell hb (show w2.drew.cell? _ = _ from c2), below_cell hb (show w2.drew.cell? _ = _ from c3), below_cell hb (show w2.drew.cell? _ = _ from x1)⟩); clear hb)
      | (go_at_call 28; (with_reducible refine (follows_any q p false HN.out.symm _ HQ.out HP.out).mono ?_); rintro e w4 ⟨rfl, rfl⟩))
  go_wp2_with fail
  (with_reducible refine (new_form 4 rfl _ _).mono ?_)
  rintro e w4 ⟨g, hg, rfl, hc, hb⟩
  have HB4 := Lib.hid (below_call HB2.out (below_call (bel_drewN w2 1) (below_call HB3.out hb)))
  have HC := Lib.hid hc
  clear hb hg hc
  go_wp2_with fail
  go_ret
  exact ⟨g, rfl, HC.out, HB4.out⟩
end Go.Proofs.YtmfgfjkpijmgoaaDoor

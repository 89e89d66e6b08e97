/-
  bank.record, by contract.
-/
import Derived.Test.YtecfobmmbdmdgaaBkRec
namespace Go.Proofs.Ytecfobmmbdmdgaa
open Go.RowKit

theorem bel_two (w : World) (a b : Obj) : Below w.heap.size w ((w.alloc a).alloc b) := below_alloc (below_alloc (Below.refl _ w) a) b
theorem bel_set3 {w0 w1 : World} (h : Below w0.heap.size w0 w1) {g : Nat} (hg : w0.heap.size ≤ g) (u0 u1 u2 : Value) :
    Below w0.heap.size w0 (((w1.setCell ⟨g, 0, none⟩ u0).setCell ⟨g, 1, none⟩ u1).setCell ⟨g, 2, none⟩ u2) := bel_set (bel_set (bel_set h hg 0 u0) hg 1 u1) hg 2 u2
theorem Blk.apart {w w' : World} {g b : Nat} {C : Array Value} {T : TypeId} (h : Blk w g C T) (ha : Apart b w w') (hne : g ≠ b) : Blk w' g C T := (ha.block g h.lt hne).trans h
theorem own_set3 {w : World} {B g : Nat} {v : Value} {xs : List (BitVec 8)} (h : Own w B v xs) (hg : g < B) (u0 u1 u2 : Value) : Own (((w.setCell ⟨g, 0, none⟩ u0).setCell ⟨g, 1, none⟩ u1).setCell ⟨g, 2, none⟩ u2) B v xs :=
  ownsRow_setCell_below (ownsRow_setCell_below (ownsRow_setCell_below h hg u0) hg u1) hg u2

set_option maxHeartbeats 1000000 in
theorem record_no (v : Value) (xs : List (BitVec 8)) (w : World) (hv : Byts w v xs) (hl : xs.length ≤ 100000) (o : Nat) (ho : o ≤ xs.length) (h : brec xs o = none) :
    Calls Try.prog 30 #[v, .int .i64 (o : Int)] w fun e w' => e = .returned (.tuple #[.agg #[.int .u32 0, .slice none 0 0, .int .i64 0], .bool false]) ∧ Below w.heap.size w w' := by
  obtain ⟨v1, hrun1, hv1, _⟩ := cutR hv o ho
  have HB := Lib.hid (below_alloc (Below.refl _ w) (.cells #[.int .u32 0, .slice none 0 0, .int .i64 0] 33))
  have HX := Lib.hid (blk_new w #[.int .u32 0, .slice none 0 0, .int .i64 0] 33)
  have HV1 := Lib.hid (hv1.below HB.out)
  rcases brec_none h with hz | ⟨n, hz, hop⟩
  · have HW := Lib.hid (whole_no v1 _ _ HV1.out (by simp; omega) hz)
    clear hv hv1 h hz
    go_enter Try.func30, Try.ntmps30
    go_wp2_with fail
    (with_reducible refine HW.out.mono ?_)
    rintro e w1 ⟨z, rfl, hb⟩
    have HX1 := Lib.hid (HX.out.below hb)
    have HB1 := Lib.hid (below_call HB.out hb)
    obtain ⟨c0, c1, c2⟩ := HX1.out.three
    have f0 := HX1.out.frz 0
    have f1 := HX1.out.frz 1
    have f2 := HX1.out.frz 2
    clear hb hrun1
    go_wp2_with fail
    (try simp only [Exit.inBlock, Exit.then])
    refine bodyPost_ret (v := .tuple #[.agg #[.int .u32 0, .slice none 0 0, .int .i64 0], .bool false]) ?_ rfl ⟨rfl, bel_set3 HB1.out (Nat.le_refl _) _ _ _⟩
    rw [results_cell_tmp rfl]
    go_simp
  · obtain ⟨_, _, _, h1, h2, h3, h4, _⟩ := bsz_some hz
    have h4' : n ≤ xs.length - o := by simpa using h4
    obtain ⟨k, hk⟩ : ∃ k, k = o + n := ⟨_, rfl⟩
    obtain ⟨m, hm⟩ : ∃ m, k = m + 1 := ⟨k - 1, by omega⟩
    obtain ⟨v2, hrun2, hv2⟩ := cutM hv o m (by omega) (by omega)
    rw [show m - o = n - 1 by omega] at hv2
    have e1 : IntKind.i64.wrap ((o : Int) + (n : Int)) = (k : Int) := by rw [IntWalk.i64_in _ (by omega)]; omega
    have e2 : IntKind.i64.wrap ((k : Int) - 1) = (m : Int) := by rw [IntWalk.i64_in _ (by omega)]; omega
    have HW := Lib.hid (whole_yes v1 _ _ HV1.out (by simp; omega) n hz)
    have HV2 := Lib.hid (hv2.below HB.out)
    have HN := Lib.hid (show ((xs.drop o).take (n - 1)).length ≤ 140737488351232 by rw [List.length_take, List.length_drop]; omega)
    have HOP := Lib.hid hop
    clear hv hv1 h hz hv2 hop h1 h2 h3 h4 h4' hk hm
    go_enter Try.func30, Try.ntmps30
    go_wp2_with fail
    (with_reducible refine HW.out.mono ?_)
    rintro e w1 ⟨rfl, hb⟩
    have HX1 := Lib.hid (HX.out.below hb)
    have HB1 := Lib.hid (below_call HB.out hb)
    have HV3 := Lib.hid (HV2.out.below hb)
    clear hb HW HX
    go_wp2_with fail
    (with_reducible refine (open_f v2 _ _ HV3.out HN.out HOP.out).mono ?_)
    rintro e w2 ⟨rfl, hb⟩
    have HX2 := Lib.hid (HX1.out.below hb)
    have HB2 := Lib.hid (below_call HB1.out hb)
    obtain ⟨c0, c1, c2⟩ := HX2.out.three
    have f0 := HX2.out.frz 0
    have f1 := HX2.out.frz 1
    have f2 := HX2.out.frz 2
    clear hb hrun1 hrun2
    go_wp2_with fail
    (try simp only [Exit.inBlock, Exit.then])
    refine bodyPost_ret (v := .tuple #[.agg #[.int .u32 0, .slice none 0 0, .int .i64 0], .bool false]) ?_ rfl ⟨rfl, bel_set3 HB2.out (Nat.le_refl _) _ _ _⟩
    rw [results_cell_tmp rfl]
    go_simp

set_option maxHeartbeats 1000000 in
theorem record_yes (v : Value) (xs : List (BitVec 8)) (w : World) (hv : Byts w v xs) (hl : xs.length ≤ 100000) (o : Nat) (y : Nt) (h : brec xs o = some y) :
    Calls Try.prog 30 #[v, .int .i64 (o : Int)] w fun e w' => ∃ r, e = .returned (.tuple #[.agg #[.int .u32 (y.s : Int), r, .int .i64 (y.e : Int)], .bool true]) ∧ Own w' (w.heap.size + 1) r y.d ∧ Below w.heap.size w w' := by
  obtain ⟨n, hz, hop, hs, hd, he, h9, h48, hle, hlen⟩ := brec_yes h
  obtain ⟨v1, hrun1, hv1, _⟩ := cutR hv o (by omega)
  have HB := Lib.hid (below_alloc (Below.refl _ w) (.cells #[.int .u32 0, .slice none 0 0, .int .i64 0] 33))
  have HX := Lib.hid (blk_new w #[.int .u32 0, .slice none 0 0, .int .i64 0] 33)
  have HV1 := Lib.hid (hv1.below HB.out)
  obtain ⟨k, hk⟩ : ∃ k, k = o + n := ⟨_, rfl⟩
  obtain ⟨m, hm⟩ : ∃ m, k = m + 1 := ⟨k - 1, by omega⟩
  obtain ⟨v2, hrun2, hv2⟩ := cutM hv o m (by omega) (by omega)
  rw [show m - o = n - 1 by omega] at hv2
  have e1 : IntKind.i64.wrap ((o : Int) + (n : Int)) = (k : Int) := by rw [IntWalk.i64_in _ (by omega)]; omega
  have e2 : IntKind.i64.wrap ((k : Int) - 1) = (m : Int) := by rw [IntWalk.i64_in _ (by omega)]; omega
  have HW := Lib.hid (whole_yes v1 _ _ HV1.out (by simp; omega) n hz)
  have HV2 := Lib.hid (hv2.below HB.out)
  have HN := Lib.hid (show ((xs.drop o).take (n - 1)).length ≤ 140737488351232 by rw [List.length_take, List.length_drop]; omega)
  have HOP := Lib.hid hop
  have HK := Lib.hid (show y.e = k by omega)
  obtain ⟨f, hf⟩ : ∃ f, front ((xs.drop o).take (n - 1)) = f := ⟨_, rfl⟩
  rw [hf] at hs hd hlen
  have HF := Lib.hid hf
  have HS := Lib.hid hs
  have HD := Lib.hid hd
  have HFL := Lib.hid (show 6 ≤ f.length ∧ f.length ≤ 45 by omega)
  clear hv hv1 h hz hv2 hop hk hm hs hd he h9 h48 hle hlen hf
  go_enter Try.func30, Try.ntmps30
  go_wp2_with fail
  (with_reducible refine HW.out.mono ?_)
  rintro e w1 ⟨rfl, hb⟩
  have HX1 := Lib.hid (HX.out.below hb)
  have HB1 := Lib.hid (below_call HB.out hb)
  have HV3 := Lib.hid (HV2.out.below hb)
  clear hb HW HX
  go_wp2_with fail
  (with_reducible refine (open_t v2 _ _ HV3.out HN.out HOP.out).mono ?_)
  rintro e w2 ⟨r2, rfl, hown, hb⟩
  rw [HF.out] at hown
  have HX2 := Lib.hid (HX1.out.below hb)
  have HB2 := Lib.hid (below_call HB1.out hb)
  obtain ⟨v3, hrun3, hv3, _⟩ := cutR hown.byts 1 (by have := HFL.out; omega)
  rw [show ((1 : Nat) : Int) = 1 from rfl] at hrun3
  have HV4 := Lib.hid hv3
  clear hb hrun1 hrun2 HX1 HB1 HV3 HV2 HV1 hown hv3 HB
  go_wp2_with fail
  clear hrun3
  (with_reducible refine (over_any v3 _ _ HV4.out (by have := HFL.out; simp; omega)).mono ?_)
  rintro e w3 ⟨b, rfl, hr, hbb, hb⟩
  have HX3 := Lib.hid (HX2.out.below hb)
  have HB3 := Lib.hid (below_call HB2.out hb)
  have HR := Lib.hid hr
  have HLT := Lib.hid (show w.heap.size < b from Nat.lt_of_lt_of_le HX2.out.lt hbb)
  clear hr hb hbb HX2 HB2 HV4
  go_wp2_with fail
  (with_reducible refine (u32_any _ _ _ _ _ _ _ HR.out).mono ?_)
  rintro e w4 ⟨rfl, hr, ha⟩
  have HX4 := Lib.hid (HX3.out.apart ha (by have := HLT.out; omega))
  have HB4 := Lib.hid (below_apart HB3.out ha (by have := HLT.out; omega))
  have HR4 := Lib.hid hr
  clear hr ha HR HX3 HB3
  rw [← HS.out]
  go_wp2_with fail
  (with_reducible refine (rest_any _ _ _ _ _ _ _ HR4.out (by have := HFL.out; simp; omega)).mono ?_)
  rintro e w5 ⟨r5, rfl, hown, hr, ha⟩
  rw [← HD.out] at hown
  have HX5 := Lib.hid (HX4.out.apart ha (by have := HLT.out; omega))
  have HB5 := Lib.hid (below_apart HB4.out ha (by have := HLT.out; omega))
  have HO5 := Lib.hid (hown.mono (show w.heap.size + 1 ≤ w4.heap.size by have := HX4.out.lt; omega))
  obtain ⟨av, cv, ev⟩ := hown.byts.len
  obtain ⟨c0, c1, c2⟩ := HX5.out.three
  have f0 := HX5.out.frz 0
  have f1 := HX5.out.frz 1
  have f2 := HX5.out.frz 2
  clear hown hr ha HR4 HX4 HB4
  subst ev
  go_wp2_with fail
  (try simp only [Exit.inBlock, Exit.then])
  refine bodyPost_ret (v := .tuple #[.agg #[.int .u32 (y.s : Int), .slice av y.d.length cv, .int .i64 (k : Int)], .bool true]) ?_ rfl ⟨_, by rw [HK.out], own_set3 HO5.out (by omega) _ _ _, bel_set3 HB5.out (Nat.le_refl _) _ _ _⟩
  rw [results_cell_tmp rfl]
  go_simp
end Go.Proofs.Ytecfobmmbdmdgaa

/-
  The document's own reading of one record, by contract.
-/
import Derived.Test.YtecfobmmbdmdgaaBkRecord
import Derived.Test.YtecfobmmbdmdgaaCrcRopen
import Derived.Test.YtecfobmmbdmdgaaOcRrest
import Derived.Test.YtecfobmmbdmdgaaCut
namespace Go.Proofs.Ytecfobmmbdmdgaa
open Go.RowKit

theorem bone_none {xs : List (BitVec 8)} (h : bone xs = none) : bsz xs = none ∨ ∃ n, bsz xs = some n ∧ opens (xs.take (n - 1)) = false := by
  have h0 : brec xs 0 = none := by
    unfold brec
    rw [List.drop_zero, h]
  have h1 := brec_none h0
  rw [List.drop_zero] at h1
  exact h1

theorem rone_few (v : Value) (xs : List (BitVec 8)) (w : World) (hv : Byts w v xs) (hl : xs.length ≤ 1000000) (h : xs.length < 9) :
    Calls Try.prog 25 #[v] w fun e w' => e = .returned (.tuple #[.agg #[.int .u32 0, .slice none 0 0, .int .i64 0], .int .i64 0]) ∧ Below w.heap.size w w' := by
  have HB := Lib.hid (below_alloc (Below.refl _ w) (.cells #[.int .u32 0, .slice none 0 0, .int .i64 0] 33))
  obtain ⟨av, cv, ev⟩ := hv.len
  have b1 : decide ((xs.length : Int) < 9) = true := by simp; omega
  clear hv h
  subst ev
  go_enter Try.func25, Try.ntmps25
  go_wp2_with fail
  (try simp only [Exit.inBlock, Exit.then])
  refine bodyPost_ret (v := .tuple #[.agg #[.int .u32 0, .slice none 0 0, .int .i64 0], .int .i64 0]) ?_ rfl ⟨rfl, HB.out⟩
  rw [results_cell_tmp rfl]
  go_simp

theorem rone_low (v : Value) (xs : List (BitVec 8)) (w : World) (hv : Byts w v xs) (hl : xs.length ≤ 1000000) (x : BitVec 8) (t : List (BitVec 8)) (hx : xs = x :: t) (h9 : 9 ≤ xs.length) (h : x.toNat = 0) :
    Calls Try.prog 25 #[v] w fun e w' => e = .returned (.tuple #[.agg #[.int .u32 0, .slice none 0 0, .int .i64 0], .int .i64 0]) ∧ Below w.heap.size w w' := by
  have HB := Lib.hid (below_alloc (Below.refl _ w) (.cells #[.int .u32 0, .slice none 0 0, .int .i64 0] 33))
  obtain ⟨g, o, cap, x', ev, hc, hg, hx0, hcell⟩ := hv.at_ 0 (by omega)
  obtain rfl : x = x' := by rw [hx] at hx0; simpa using hx0
  rw [Nat.add_zero] at hcell
  have hcell := (below_alloc (Below.refl _ w) (.cells #[.int .u32 0, .slice none 0 0, .int .i64 0] 33)).cell (p := ⟨g, o, none⟩) (lt_of_cell hcell) |>.trans hcell
  have b1 : decide ((xs.length : Int) < 9) = false := by simp; omega
  have b0 : (0 : Int) < (xs.length : Int) := by omega
  have hxl := x.isLt
  rw [h] at hcell
  clear hv hx hx0 h9 h
  subst ev
  go_enter Try.func25, Try.ntmps25
  go_wp2_with fail
  (try simp only [Exit.inBlock, Exit.then])
  refine bodyPost_ret (v := .tuple #[.agg #[.int .u32 0, .slice none 0 0, .int .i64 0], .int .i64 0]) ?_ rfl ⟨rfl, HB.out⟩
  rw [results_cell_tmp rfl]
  go_simp

theorem rone_high (v : Value) (xs : List (BitVec 8)) (w : World) (hv : Byts w v xs) (hl : xs.length ≤ 1000000) (x : BitVec 8) (t : List (BitVec 8)) (hx : xs = x :: t) (h9 : 9 ≤ xs.length) (h : 40 < x.toNat) :
    Calls Try.prog 25 #[v] w fun e w' => e = .returned (.tuple #[.agg #[.int .u32 0, .slice none 0 0, .int .i64 0], .int .i64 0]) ∧ Below w.heap.size w w' := by
  have HB := Lib.hid (below_alloc (Below.refl _ w) (.cells #[.int .u32 0, .slice none 0 0, .int .i64 0] 33))
  obtain ⟨g, o, cap, x', ev, hc, hg, hx0, hcell⟩ := hv.at_ 0 (by omega)
  obtain rfl : x = x' := by rw [hx] at hx0; simpa using hx0
  rw [Nat.add_zero] at hcell
  have hcell := (below_alloc (Below.refl _ w) (.cells #[.int .u32 0, .slice none 0 0, .int .i64 0] 33)).cell (p := ⟨g, o, none⟩) (lt_of_cell hcell) |>.trans hcell
  have b1 : decide ((xs.length : Int) < 9) = false := by simp; omega
  have b0 : (0 : Int) < (xs.length : Int) := by omega
  have hxl := x.isLt
  have b2 : decide ((x.toNat : Int) < 1) = false := by simp; omega
  have b3 : decide ((40 : Int) < (x.toNat : Int)) = true := by simp; omega
  clear hv hx hx0 h9 h
  subst ev
  go_enter Try.func25, Try.ntmps25
  go_wp2_with fail
  (try simp only [Exit.inBlock, Exit.then])
  refine bodyPost_ret (v := .tuple #[.agg #[.int .u32 0, .slice none 0 0, .int .i64 0], .int .i64 0]) ?_ rfl ⟨rfl, HB.out⟩
  rw [results_cell_tmp rfl]
  go_simp

theorem rone_long (v : Value) (xs : List (BitVec 8)) (w : World) (hv : Byts w v xs) (hl : xs.length ≤ 1000000) (x : BitVec 8) (t : List (BitVec 8)) (hx : xs = x :: t) (h9 : 9 ≤ xs.length) (h1 : 1 ≤ x.toNat) (h2 : x.toNat ≤ 40) (h3 : xs.length < x.toNat + 8) :
    Calls Try.prog 25 #[v] w fun e w' => e = .returned (.tuple #[.agg #[.int .u32 0, .slice none 0 0, .int .i64 0], .int .i64 0]) ∧ Below w.heap.size w w' := by
  have HB := Lib.hid (below_alloc (Below.refl _ w) (.cells #[.int .u32 0, .slice none 0 0, .int .i64 0] 33))
  obtain ⟨g, o, cap, x', ev, hc, hg, hx0, hcell⟩ := hv.at_ 0 (by omega)
  obtain rfl : x = x' := by rw [hx] at hx0; simpa using hx0
  rw [Nat.add_zero] at hcell
  have hcell := (below_alloc (Below.refl _ w) (.cells #[.int .u32 0, .slice none 0 0, .int .i64 0] 33)).cell (p := ⟨g, o, none⟩) (lt_of_cell hcell) |>.trans hcell
  have b1 : decide ((xs.length : Int) < 9) = false := by simp; omega
  have b0 : (0 : Int) < (xs.length : Int) := by omega
  have hxl := x.isLt
  have b2 : decide ((x.toNat : Int) < 1) = false := by simp; omega
  have b3 : decide ((40 : Int) < (x.toNat : Int)) = false := by simp; omega
  obtain ⟨n, hn⟩ : ∃ n, n = x.toNat + 8 := ⟨_, rfl⟩
  have e1 : IntKind.i64.wrap (8 + (x.toNat : Int)) = (n : Int) := by rw [IntWalk.i64_in _ (by omega)]; omega
  have b4 : decide (xs.length < n) = true := by simp; omega
  clear hv hx hx0 h9 h1 h2 h3 hn
  subst ev
  go_enter Try.func25, Try.ntmps25
  go_wp2_with fail
  (try simp only [Exit.inBlock, Exit.then])
  refine bodyPost_ret (v := .tuple #[.agg #[.int .u32 0, .slice none 0 0, .int .i64 0], .int .i64 0]) ?_ rfl ⟨rfl, HB.out⟩
  rw [results_cell_tmp rfl]
  go_simp

theorem rone_open (v : Value) (xs : List (BitVec 8)) (w : World) (hv : Byts w v xs) (hl : xs.length ≤ 1000000) (x : BitVec 8) (t : List (BitVec 8)) (hx : xs = x :: t) (h9 : 9 ≤ xs.length) (h1 : 1 ≤ x.toNat) (h2 : x.toNat ≤ 40) (h3 : x.toNat + 8 ≤ xs.length) (y : BitVec 8) (hy : xs[x.toNat + 7]? = some y) (hne : y ≠ 0#8) :
    Calls Try.prog 25 #[v] w fun e w' => e = .returned (.tuple #[.agg #[.int .u32 0, .slice none 0 0, .int .i64 0], .int .i64 0]) ∧ Below w.heap.size w w' := by
  have HB := Lib.hid (below_alloc (Below.refl _ w) (.cells #[.int .u32 0, .slice none 0 0, .int .i64 0] 33))
  obtain ⟨g, o, cap, x', ev, hc, hg, hx0, hcell⟩ := hv.at_ 0 (by omega)
  obtain rfl : x = x' := by rw [hx] at hx0; simpa using hx0
  rw [Nat.add_zero] at hcell
  have hcell := (below_alloc (Below.refl _ w) (.cells #[.int .u32 0, .slice none 0 0, .int .i64 0] 33)).cell (p := ⟨g, o, none⟩) (lt_of_cell hcell) |>.trans hcell
  have b1 : decide ((xs.length : Int) < 9) = false := by simp; omega
  have b0 : (0 : Int) < (xs.length : Int) := by omega
  have hxl := x.isLt
  have b2 : decide ((x.toNat : Int) < 1) = false := by simp; omega
  have b3 : decide ((40 : Int) < (x.toNat : Int)) = false := by simp; omega
  obtain ⟨n, hn⟩ : ∃ n, n = x.toNat + 8 := ⟨_, rfl⟩
  have e1 : IntKind.i64.wrap (8 + (x.toNat : Int)) = (n : Int) := by rw [IntWalk.i64_in _ (by omega)]; omega
  obtain ⟨m, hm⟩ : ∃ m, n = m + 1 := ⟨n - 1, by omega⟩
  obtain ⟨g', o', cap', y', ev', _, _, hx1, hcell1⟩ := hv.at_ m (by omega)
  obtain rfl : y' = y := by rw [show x.toNat + 7 = m by omega, hx1] at hy; cases hy; rfl
  rw [ev] at ev'
  simp only [Value.slice.injEq, Option.some.injEq, Addr.mk.injEq] at ev'
  obtain ⟨⟨rfl, rfl, _⟩, _, rfl⟩ := ev'
  have hcell1 := (below_alloc (Below.refl _ w) (.cells #[.int .u32 0, .slice none 0 0, .int .i64 0] 33)).cell (p := ⟨g, o + m, none⟩) (lt_of_cell hcell1) |>.trans hcell1
  have e2 : IntKind.i64.wrap ((n : Int) - 1) = (m : Int) := by rw [IntWalk.i64_in _ (by omega)]; omega
  have b4 : decide (xs.length < n) = false := by simp; omega
  have b5 : (m : Int) < (xs.length : Int) := by omega
  have b6 : (0 : Int) ≤ (m : Int) := by omega
  have hyl := y'.isLt
  have hq : ((y'.toNat : Int) != 0) = true := by have := byte_ne hne; simpa [bne] using this
  clear hv hx hx0 hx1 h9 h1 h2 h3 hn hm hy hne
  subst ev
  go_enter Try.func25, Try.ntmps25
  go_wp2_with fail
  (try simp only [Exit.inBlock, Exit.then])
  refine bodyPost_ret (v := .tuple #[.agg #[.int .u32 0, .slice none 0 0, .int .i64 0], .int .i64 0]) ?_ rfl ⟨rfl, HB.out⟩
  rw [results_cell_tmp rfl]
  go_simp

set_option maxHeartbeats 1000000 in
theorem rone_sum (v : Value) (xs : List (BitVec 8)) (w : World) (hv : Byts w v xs) (hl : xs.length ≤ 1000000) (x : BitVec 8) (t : List (BitVec 8)) (hx : xs = x :: t) (h9 : 9 ≤ xs.length) (h1 : 1 ≤ x.toNat) (h2 : x.toNat ≤ 40) (h3 : x.toNat + 8 ≤ xs.length) (y : BitVec 8) (hy : xs[x.toNat + 7]? = some y) (hz : y = 0#8) (hop : opens (xs.take (x.toNat + 7)) = false) :
    Calls Try.prog 25 #[v] w fun e w' => e = .returned (.tuple #[.agg #[.int .u32 0, .slice none 0 0, .int .i64 0], .int .i64 0]) ∧ Below w.heap.size w w' := by
  have HB := Lib.hid (below_alloc (Below.refl _ w) (.cells #[.int .u32 0, .slice none 0 0, .int .i64 0] 33))
  obtain ⟨g, o, cap, x', ev, hc, hg, hx0, hcell⟩ := hv.at_ 0 (by omega)
  obtain rfl : x = x' := by rw [hx] at hx0; simpa using hx0
  rw [Nat.add_zero] at hcell
  have hcell := (below_alloc (Below.refl _ w) (.cells #[.int .u32 0, .slice none 0 0, .int .i64 0] 33)).cell (p := ⟨g, o, none⟩) (lt_of_cell hcell) |>.trans hcell
  have b1 : decide ((xs.length : Int) < 9) = false := by simp; omega
  have b0 : (0 : Int) < (xs.length : Int) := by omega
  have hxl := x.isLt
  have b2 : decide ((x.toNat : Int) < 1) = false := by simp; omega
  have b3 : decide ((40 : Int) < (x.toNat : Int)) = false := by simp; omega
  obtain ⟨n, hn⟩ : ∃ n, n = x.toNat + 8 := ⟨_, rfl⟩
  have e1 : IntKind.i64.wrap (8 + (x.toNat : Int)) = (n : Int) := by rw [IntWalk.i64_in _ (by omega)]; omega
  obtain ⟨m, hm⟩ : ∃ m, n = m + 1 := ⟨n - 1, by omega⟩
  obtain ⟨g', o', cap', y', ev', _, _, hx1, hcell1⟩ := hv.at_ m (by omega)
  obtain rfl : y' = y := by rw [show x.toNat + 7 = m by omega, hx1] at hy; cases hy; rfl
  rw [ev] at ev'
  simp only [Value.slice.injEq, Option.some.injEq, Addr.mk.injEq] at ev'
  obtain ⟨⟨rfl, rfl, _⟩, _, rfl⟩ := ev'
  have hcell1 := (below_alloc (Below.refl _ w) (.cells #[.int .u32 0, .slice none 0 0, .int .i64 0] 33)).cell (p := ⟨g, o + m, none⟩) (lt_of_cell hcell1) |>.trans hcell1
  have e2 : IntKind.i64.wrap ((n : Int) - 1) = (m : Int) := by rw [IntWalk.i64_in _ (by omega)]; omega
  have b4 : decide (xs.length < n) = false := by simp; omega
  have b5 : (m : Int) < (xs.length : Int) := by omega
  have b6 : (0 : Int) ≤ (m : Int) := by omega
  have hyl := y'.isLt
  have HV1 := Lib.hid (hv.below HB.out)
  obtain ⟨v1, hrun1, hv1⟩ := cutL HV1.out m (by omega)
  have HV2 := Lib.hid hv1
  have HX := Lib.hid (blk_new w #[.int .u32 0, .slice none 0 0, .int .i64 0] 33)
  have HLN := Lib.hid (show (xs.take m).length ≤ 140737488351232 by rw [List.length_take]; omega)
  rw [show x.toNat + 7 = m by omega] at hop
  have HOP := Lib.hid hop
  subst hz
  have hcell1' : (w.alloc (.cells #[.int .u32 0, .slice none 0 0, .int .i64 0] 33)).cell? ⟨g, o + m, none⟩ = some (.int .u8 0) := hcell1
  clear hv hv1 hx hx0 hx1 h9 h1 h2 h3 hn hm hy hop hcell1
  subst ev
  go_enter Try.func25, Try.ntmps25
  go_wp2_with fail
  (with_reducible refine (ropen_f v1 _ _ HV2.out HLN.out HOP.out).mono ?_)
  rintro e w1 ⟨rfl, hb⟩
  have HX1 := Lib.hid (HX.out.below hb)
  have HB1 := Lib.hid (below_call HB.out hb)
  obtain ⟨c0, c1, c2⟩ := HX1.out.three
  have f0 := HX1.out.frz 0
  have f1 := HX1.out.frz 1
  have f2 := HX1.out.frz 2
  clear hb hrun1 hcell hcell1'
  go_wp2_with fail
  (try simp only [Exit.inBlock, Exit.then])
  refine bodyPost_ret (v := .tuple #[.agg #[.int .u32 0, .slice none 0 0, .int .i64 0], .int .i64 0]) ?_ rfl ⟨rfl, bel_set3 HB1.out (Nat.le_refl _) _ _ _⟩
  rw [results_cell_tmp rfl]
  go_simp

theorem rone_no (v : Value) (xs : List (BitVec 8)) (w : World) (hv : Byts w v xs) (hl : xs.length ≤ 1000000) (h : bone xs = none) :
    Calls Try.prog 25 #[v] w fun e w' => e = .returned (.tuple #[.agg #[.int .u32 0, .slice none 0 0, .int .i64 0], .int .i64 0]) ∧ Below w.heap.size w w' := by
  by_cases h9 : xs.length < 9
  · exact rone_few v xs w hv hl h9
  · rcases bone_none h with hz | ⟨n, hz, hop⟩
    · rcases bsz_none hz with rfl | ⟨x, t, hx, hcase⟩
      · simp at h9
      · rcases hcase with (h1 | h1) | ⟨h1, h2, h3 | ⟨h3, y, hy, hne⟩⟩
        · exact rone_low v xs w hv hl x t hx (by omega) h1
        · exact rone_high v xs w hv hl x t hx (by omega) h1
        · exact rone_long v xs w hv hl x t hx (by omega) h1 h2 h3
        · exact rone_open v xs w hv hl x t hx (by omega) h1 h2 h3 y hy hne
    · obtain ⟨x, t, hx, h1, h2, hn, h3, h4⟩ := bsz_some hz
      subst hn
      exact rone_sum v xs w hv hl x t hx (by omega) h1 h2 h3 0#8 (by simpa using h4) rfl (by simpa using hop)

set_option maxHeartbeats 2000000 in
theorem rone_yes (v : Value) (xs : List (BitVec 8)) (w : World) (hv : Byts w v xs) (hl : xs.length ≤ 1000000) (s : Nat) (d : List (BitVec 8)) (z : Nat) (h : bone xs = some (s, d, z)) :
    Calls Try.prog 25 #[v] w fun e w' => ∃ r, e = .returned (.tuple #[.agg #[.int .u32 (s : Int), r, .int .i64 0], .int .i64 (z : Int)]) ∧ Own w' (w.heap.size + 1) r d ∧ Below w.heap.size w w' := by
  obtain ⟨hsz, hop, hs, hd⟩ := bone_facts h
  obtain ⟨x, t, hx, h1, h2, hzn, h3, h4⟩ := bsz_some hsz
  have h9 : 9 ≤ xs.length := by omega
  obtain ⟨y, hy, hyz⟩ : ∃ y, xs[x.toNat + 7]? = some y ∧ y = 0#8 := ⟨0#8, by rw [← h4]; congr 1; omega, rfl⟩
  have HB := Lib.hid (below_alloc (Below.refl _ w) (.cells #[.int .u32 0, .slice none 0 0, .int .i64 0] 33))
  obtain ⟨g, o, cap, x', ev, hc, hg, hx0, hcell⟩ := hv.at_ 0 (by omega)
  obtain rfl : x = x' := by rw [hx] at hx0; simpa using hx0
  rw [Nat.add_zero] at hcell
  have hcell := (below_alloc (Below.refl _ w) (.cells #[.int .u32 0, .slice none 0 0, .int .i64 0] 33)).cell (p := ⟨g, o, none⟩) (lt_of_cell hcell) |>.trans hcell
  have b1 : decide ((xs.length : Int) < 9) = false := by simp; omega
  have b0 : (0 : Int) < (xs.length : Int) := by omega
  have hxl := x.isLt
  have b2 : decide ((x.toNat : Int) < 1) = false := by simp; omega
  have b3 : decide ((40 : Int) < (x.toNat : Int)) = false := by simp; omega
  obtain ⟨n, hn⟩ : ∃ n, n = x.toNat + 8 := ⟨_, rfl⟩
  have e1 : IntKind.i64.wrap (8 + (x.toNat : Int)) = (n : Int) := by rw [IntWalk.i64_in _ (by omega)]; omega
  obtain ⟨m, hm⟩ : ∃ m, n = m + 1 := ⟨n - 1, by omega⟩
  obtain ⟨g', o', cap', y', ev', _, _, hx1, hcell1⟩ := hv.at_ m (by omega)
  obtain rfl : y' = y := by rw [show x.toNat + 7 = m by omega, hx1] at hy; cases hy; rfl
  rw [ev] at ev'
  simp only [Value.slice.injEq, Option.some.injEq, Addr.mk.injEq] at ev'
  obtain ⟨⟨rfl, rfl, _⟩, _, rfl⟩ := ev'
  have hcell1 := (below_alloc (Below.refl _ w) (.cells #[.int .u32 0, .slice none 0 0, .int .i64 0] 33)).cell (p := ⟨g, o + m, none⟩) (lt_of_cell hcell1) |>.trans hcell1
  have e2 : IntKind.i64.wrap ((n : Int) - 1) = (m : Int) := by rw [IntWalk.i64_in _ (by omega)]; omega
  have b4 : decide (xs.length < n) = false := by simp; omega
  have b5 : (m : Int) < (xs.length : Int) := by omega
  have b6 : (0 : Int) ≤ (m : Int) := by omega
  have hyl := y'.isLt
  have HV1 := Lib.hid (hv.below HB.out)
  obtain ⟨v1, hrun1, hv1⟩ := cutL HV1.out m (by omega)
  have HV2 := Lib.hid hv1
  have HX := Lib.hid (blk_new w #[.int .u32 0, .slice none 0 0, .int .i64 0] 33)
  have HLN := Lib.hid (show (xs.take m).length ≤ 140737488351232 by rw [List.length_take]; omega)
  obtain rfl : z = n := by omega
  rw [show z - 1 = m by omega] at hop hs hd
  obtain ⟨f, hf⟩ : ∃ f, front (xs.take m) = f := ⟨_, rfl⟩
  have hflen : f.length = m - 2 := by rw [← hf]; unfold front; rw [List.length_take, List.length_take]; omega
  rw [hf] at hs hd
  have HOP := Lib.hid hop
  have HF := Lib.hid hf
  have HS := Lib.hid (show val 4 (f.drop 1) = s by rw [val_all (by rw [List.length_drop]; omega)]; exact hs.symm)
  have HD := Lib.hid (show (f.drop 1).drop 4 = d by rw [List.drop_drop]; exact hd.symm)
  have HFL := Lib.hid (show 6 ≤ f.length ∧ f.length ≤ 45 by omega)
  subst hyz
  have hcell1' : (w.alloc (.cells #[.int .u32 0, .slice none 0 0, .int .i64 0] 33)).cell? ⟨g, o + m, none⟩ = some (.int .u8 0) := hcell1
  clear hv hv1 hx hx0 hx1 h9 h1 h2 h3 h4 hn hm hy hop hcell1 hs hd hf hflen hsz hzn h
  subst ev
  go_enter Try.func25, Try.ntmps25
  go_wp2_with fail
  (with_reducible refine (ropen_t v1 _ _ HV2.out HLN.out HOP.out).mono ?_)
  rintro e w1 ⟨r1, rfl, hown, hb⟩
  rw [HF.out] at hown
  have HX1 := Lib.hid (HX.out.below hb)
  have HB1 := Lib.hid (below_call HB.out hb)
  obtain ⟨v3, hrun3, hv3, _⟩ := cutR hown.byts 1 (by have := HFL.out; omega)
  rw [show ((1 : Nat) : Int) = 1 from rfl] at hrun3
  obtain ⟨a3, k3, e3⟩ := hv3.len
  rw [List.length_drop] at e3
  have HR := Lib.hid (Rd.made 61 0 w1.heap.size hv3.left (Nat.le_refl _) false)
  have HX2 := Lib.hid (HX1.out.below (below_alloc (Below.refl _ w1) (.cells #[v3, .bool false] 61)))
  have HB2 := Lib.hid (below_alloc HB1.out (.cells #[v3, .bool false] 61))
  have HLT := Lib.hid (show w.heap.size < w1.heap.size from HX1.out.lt)
  clear hb hown hv3 hrun1 hcell hcell1' HX1 HB1 HV1 HV2 HB HX
  subst e3
  go_wp2_with fail
  clear hrun3
  generalize w1.alloc (.cells #[.slice a3 (f.length - 1) k3, .bool false] 61) = w2 at *
  generalize w1.heap.size = q at *
  have hnum := rnum_any 4 _ _ _ _ _ _ _ (by decide) (by decide) (by intro h; cases h) HR.out (by have := HFL.out; simp; omega)
  rw [show ((4 : Nat) : Int) = 4 from rfl, HS.out] at hnum
  have HNUM := Lib.hid hnum
  clear hnum
  (with_reducible refine HNUM.out.mono ?_)
  rintro e w4 ⟨rfl, hr, ha⟩
  rw [HD.out] at hr
  have HX4 := Lib.hid (HX2.out.apart ha (by have := HLT.out; omega))
  have HB4 := Lib.hid (below_apart HB2.out ha (by have := HLT.out; omega))
  have HR4 := Lib.hid hr
  clear hr ha HR HX2 HB2 HNUM
  go_wp2_with fail
  (with_reducible refine (rrest_any _ _ _ _ _ _ _ HR4.out (by have := HFL.out; rw [← HD.out]; simp; omega)).mono ?_)
  rintro e w5 ⟨r5, rfl, hown, hr, ha⟩
  have HX5 := Lib.hid (HX4.out.apart ha (by have := HLT.out; omega))
  have HB5 := Lib.hid (below_apart HB4.out ha (by have := HLT.out; omega))
  have HO5 := Lib.hid (hown.mono (show w.heap.size + 1 ≤ w4.heap.size by have := HX4.out.lt; omega))
  obtain ⟨av, cv, ev⟩ := hown.byts.len
  obtain ⟨c0, c1, c2⟩ := HX5.out.three
  have f0 := HX5.out.frz 0
  have f1 := HX5.out.frz 1
  have f2 := HX5.out.frz 2
  clear hown hr ha HR4 HX4 HB4
  subst ev
  go_wp2_with fail
  (try simp only [Exit.inBlock, Exit.then])
  refine bodyPost_ret (v := .tuple #[.agg #[.int .u32 (s : Int), .slice av d.length cv, .int .i64 0], .int .i64 (z : Int)]) ?_ rfl ⟨_, rfl, own_set3 HO5.out (by omega) _ _ _, bel_set3 HB5.out (Nat.le_refl _) _ _ _⟩
  rw [results_cell_tmp rfl]
  go_simp
end Go.Proofs.Ytecfobmmbdmdgaa

/-
  BkNapp BkRone BkRnotes BkRlast BkRblank BkRprint: merged.
-/
import Derived.BigQuiet
import Derived.Deep.QuietTactic
import Derived.Test.YtekackglcapppaaGreatDoorYBk
import Derived.Test.YtekackglcapppaaGreatDoorYCrc
import Derived.Test.YtekackglcapppaaGreatDoorYOc
import Derived.Test.YtekackglcapppaaGreatDoorYByt
/-
  A slice of notes that a call made: append of one, plain and fenced.
-/
namespace Go.Proofs.YtekackglcapppaaGreatDoor
open Go.RowKit

variable {B : Nat} {w w' : World} {v : Value} {ys : List NV}
theorem run_appN {base : Nat} (ty : TypeId) (hown : OwnN w base v ys) (g : Nat) (y : NV) (hg : Blk w g #[.int .u32 (y.s : Int), y.v, .int .i64 (y.e : Int)] 47)
    (hm : ys.length ≤ 1000000) (hbase : base ≤ w.heap.size) :
    ∃ v' w', (Builtin.append_ #[84, 84] ty #[v, .slice (some ⟨g, 0, none⟩) 1 1]).run Tryz.prog w = .ok v' w' ∧ OwnN w' base v' (ys ++ [y]) ∧ w.grownBy w' v.ownBlock := by
  obtain ⟨i0, hi, hz0, hz1, hz2⟩ := info_parts infoN
  obtain ⟨v', w', h1, h2, h3, _⟩ := run_append_own (P := Tryz.prog) w base 84 ty 47 i0 (.agg #[.int .u32 0, .slice none 0 0, .int .i64 0]) 3 40 Tryz.underlying84 hi hz0 hz1 hz2 rfl (by decide) v ys.length (ys.flatMap ntl) hown
    ⟨g, 0, none⟩ 1 1 (ntl y) rfl (note_cells hg) (fun u hu => ntl_one [y] u (by simpa using hu)) (by unfold maxLen; omega) (by omega) hbase
  refine ⟨v', w', h1, ?_, h3⟩
  unfold OwnN
  rw [List.length_append, List.flatMap_append]
  simpa using h2
theorem wpList_appN {ops : Array Oper} {rest : List Oper} {o : Oper} {a : Act} {Q : Exit → Act → World → Prop} (hgd : o.guard = none) (s x : Operand)
    (ho : o.op = .call { callee := .builtin .append, args := #[s, x], argTypes := #[84, 84] })
    (base : Nat) (v : Value) (ys : List NV) (hs : a.eval s = v) (hown : OwnN w base v ys) (g : Nat) (hx : a.eval x = .slice (some ⟨g, 0, none⟩) 1 1) (y : NV) (hg : Blk w g #[.int .u32 (y.s : Int), y.v, .int .i64 (y.e : Int)] 47)
    (hm : ys.length ≤ 1000000) (hbase : base ≤ w.heap.size)
    (h : ∀ v' w', OwnN w' base v' (ys ++ [y]) → w.grownBy w' v.ownBlock → wpList Tryz.prog ops Q rest (a.put o.dst v') w') : wpList Tryz.prog ops Q (o :: rest) a w := by
  obtain ⟨v', w', hrun, h1, h2⟩ := run_appN o.type hown g y hg hm hbase
  refine wpList_plain hgd fun K hK => ?_
  unfold Oper.wp
  simp [execOp, ho, resolve, invoke, builtin, hs, hx, hrun, Result.andThen]
  exact hK _ _ (h v' w' h1 h2)
theorem wpListIn_appN {F : Fence} {n : Nat} {ops : Array Oper} {rest : List Oper} {o : Oper} {a : Act} {Q : Exit → Act → World → Prop} (hgd : o.guard = none) (s x : Operand)
    (ho : o.op = .call { callee := .builtin .append, args := #[s, x], argTypes := #[84, 84] })
    (base : Nat) (v : Value) (ys : List NV) (hs : a.eval s = v) (hown : OwnN w base v ys) (g : Nat) (hx : a.eval x = .slice (some ⟨g, 0, none⟩) 1 1) (y : NV) (hg : Blk w g #[.int .u32 (y.s : Int), y.v, .int .i64 (y.e : Int)] 47)
    (hm : ys.length ≤ 1000000) (hbase : base ≤ w.heap.size)
    (h : ∀ v' w', OwnN w' base v' (ys ++ [y]) → w.grownBy w' v.ownBlock → wpListIn F n Tryz.prog ops Q rest (a.put o.dst v') w') : wpListIn F n Tryz.prog ops Q (o :: rest) a w := by
  obtain ⟨i0, hi, hz0, hz1, hz2⟩ := info_parts infoN
  refine wpListIn_append_own w hgd s x 84 ho base 47 i0 (.agg #[.int .u32 0, .slice none 0 0, .int .i64 0]) 3 40 Tryz.underlying84 hi hz0 hz1 hz2 rfl (by decide) v ys.length (ys.flatMap ntl) hs hown
    ⟨g, 0, none⟩ 1 1 (ntl y) hx rfl (note_cells hg) (fun u hu => ntl_one [y] u (by simpa using hu)) (by unfold maxLen; omega) (by omega) hbase (fun v' w' h1 h2 _ => h v' w' ?_ h2)
  unfold OwnN
  rw [List.length_append, List.flatMap_append]
  simpa using h1
end Go.Proofs.YtekackglcapppaaGreatDoor
/-
  The document's own reading of one record, by contract.
-/
namespace Go.Proofs.YtekackglcapppaaGreatDoor
open Go.RowKit

theorem bone_none {xs : List (BitVec 8)} (h : bone xs = none) : bsz xs = none ∨ ∃ n, bsz xs = some n ∧ opens (xs.take (n - 1)) = false := by
  have h0 : brec xs 0 = none := by
    unfold brec
    rw [List.drop_zero, h]
  have h1 := brec_none h0
  rw [List.drop_zero] at h1
  exact h1

theorem rone_few (v : Value) (xs : List (BitVec 8)) (w : World) (hv : Byts w v xs) (hl : xs.length ≤ 1000000) (h : xs.length < 9) :
    Calls Tryz.prog 54 #[v] w fun e w' => e = .returned (.tuple #[.agg #[.int .u32 0, .slice none 0 0, .int .i64 0], .int .i64 0]) ∧ Below w.heap.size w w' := by
  have HB := Lib.hid (below_alloc (Below.refl _ w) (.cells #[.int .u32 0, .slice none 0 0, .int .i64 0] 47))
  obtain ⟨av, cv, ev⟩ := hv.len
  have b1 : decide ((xs.length : Int) < 9) = true := by simp; omega
  clear hv h
  subst ev
  go_enter Tryz.func54, Tryz.ntmps54
  go_wp2_with fail
  (try simp only [Exit.inBlock, Exit.then])
  refine bodyPost_ret (v := .tuple #[.agg #[.int .u32 0, .slice none 0 0, .int .i64 0], .int .i64 0]) ?_ rfl ⟨rfl, HB.out⟩
  rw [results_cell_tmp rfl]
  go_simp

theorem rone_low (v : Value) (xs : List (BitVec 8)) (w : World) (hv : Byts w v xs) (hl : xs.length ≤ 1000000) (x : BitVec 8) (t : List (BitVec 8)) (hx : xs = x :: t) (h9 : 9 ≤ xs.length) (h : x.toNat = 0) :
    Calls Tryz.prog 54 #[v] w fun e w' => e = .returned (.tuple #[.agg #[.int .u32 0, .slice none 0 0, .int .i64 0], .int .i64 0]) ∧ Below w.heap.size w w' := by
  have HB := Lib.hid (below_alloc (Below.refl _ w) (.cells #[.int .u32 0, .slice none 0 0, .int .i64 0] 47))
  obtain ⟨g, o, cap, x', ev, hc, hg, hx0, hcell⟩ := hv.at_ 0 (by omega)
  obtain rfl : x = x' := by rw [hx] at hx0; simpa using hx0
  rw [Nat.add_zero] at hcell
  have hcell := (below_alloc (Below.refl _ w) (.cells #[.int .u32 0, .slice none 0 0, .int .i64 0] 47)).cell (p := ⟨g, o, none⟩) (lt_of_cell hcell) |>.trans hcell
  have b1 : decide ((xs.length : Int) < 9) = false := by simp; omega
  have b0 : (0 : Int) < (xs.length : Int) := by omega
  have hxl := x.isLt
  rw [h] at hcell
  clear hv hx hx0 h9 h
  subst ev
  go_enter Tryz.func54, Tryz.ntmps54
  go_wp2_with fail
  (try simp only [Exit.inBlock, Exit.then])
  refine bodyPost_ret (v := .tuple #[.agg #[.int .u32 0, .slice none 0 0, .int .i64 0], .int .i64 0]) ?_ rfl ⟨rfl, HB.out⟩
  rw [results_cell_tmp rfl]
  go_simp

theorem rone_high (v : Value) (xs : List (BitVec 8)) (w : World) (hv : Byts w v xs) (hl : xs.length ≤ 1000000) (x : BitVec 8) (t : List (BitVec 8)) (hx : xs = x :: t) (h9 : 9 ≤ xs.length) (h : 40 < x.toNat) :
    Calls Tryz.prog 54 #[v] w fun e w' => e = .returned (.tuple #[.agg #[.int .u32 0, .slice none 0 0, .int .i64 0], .int .i64 0]) ∧ Below w.heap.size w w' := by
  have HB := Lib.hid (below_alloc (Below.refl _ w) (.cells #[.int .u32 0, .slice none 0 0, .int .i64 0] 47))
  obtain ⟨g, o, cap, x', ev, hc, hg, hx0, hcell⟩ := hv.at_ 0 (by omega)
  obtain rfl : x = x' := by rw [hx] at hx0; simpa using hx0
  rw [Nat.add_zero] at hcell
  have hcell := (below_alloc (Below.refl _ w) (.cells #[.int .u32 0, .slice none 0 0, .int .i64 0] 47)).cell (p := ⟨g, o, none⟩) (lt_of_cell hcell) |>.trans hcell
  have b1 : decide ((xs.length : Int) < 9) = false := by simp; omega
  have b0 : (0 : Int) < (xs.length : Int) := by omega
  have hxl := x.isLt
  have b2 : decide ((x.toNat : Int) < 1) = false := by simp; omega
  have b3 : decide ((40 : Int) < (x.toNat : Int)) = true := by simp; omega
  clear hv hx hx0 h9 h
  subst ev
  go_enter Tryz.func54, Tryz.ntmps54
  go_wp2_with fail
  (try simp only [Exit.inBlock, Exit.then])
  refine bodyPost_ret (v := .tuple #[.agg #[.int .u32 0, .slice none 0 0, .int .i64 0], .int .i64 0]) ?_ rfl ⟨rfl, HB.out⟩
  rw [results_cell_tmp rfl]
  go_simp

theorem rone_long (v : Value) (xs : List (BitVec 8)) (w : World) (hv : Byts w v xs) (hl : xs.length ≤ 1000000) (x : BitVec 8) (t : List (BitVec 8)) (hx : xs = x :: t) (h9 : 9 ≤ xs.length) (h1 : 1 ≤ x.toNat) (h2 : x.toNat ≤ 40) (h3 : xs.length < x.toNat + 8) :
    Calls Tryz.prog 54 #[v] w fun e w' => e = .returned (.tuple #[.agg #[.int .u32 0, .slice none 0 0, .int .i64 0], .int .i64 0]) ∧ Below w.heap.size w w' := by
  have HB := Lib.hid (below_alloc (Below.refl _ w) (.cells #[.int .u32 0, .slice none 0 0, .int .i64 0] 47))
  obtain ⟨g, o, cap, x', ev, hc, hg, hx0, hcell⟩ := hv.at_ 0 (by omega)
  obtain rfl : x = x' := by rw [hx] at hx0; simpa using hx0
  rw [Nat.add_zero] at hcell
  have hcell := (below_alloc (Below.refl _ w) (.cells #[.int .u32 0, .slice none 0 0, .int .i64 0] 47)).cell (p := ⟨g, o, none⟩) (lt_of_cell hcell) |>.trans hcell
  have b1 : decide ((xs.length : Int) < 9) = false := by simp; omega
  have b0 : (0 : Int) < (xs.length : Int) := by omega
  have hxl := x.isLt
  have b2 : decide ((x.toNat : Int) < 1) = false := by simp; omega
  have b3 : decide ((40 : Int) < (x.toNat : Int)) = false := by simp; omega
  obtain ⟨n, hn⟩ : ∃ n, n = x.toNat + 8 := ⟨_, rfl⟩
  have e1 : IntKind.i64.wrap (8 + (x.toNat : Int)) = (n : Int) := by rw [IntWalk.i64_in _ (by omega)]; omega
  have b4 : decide (xs.length < n) = true := by simp; omega
  clear hv hx hx0 h9 h1 h2 h3 hn
  subst ev
  go_enter Tryz.func54, Tryz.ntmps54
  go_wp2_with fail
  (try simp only [Exit.inBlock, Exit.then])
  refine bodyPost_ret (v := .tuple #[.agg #[.int .u32 0, .slice none 0 0, .int .i64 0], .int .i64 0]) ?_ rfl ⟨rfl, HB.out⟩
  rw [results_cell_tmp rfl]
  go_simp

theorem rone_open (v : Value) (xs : List (BitVec 8)) (w : World) (hv : Byts w v xs) (hl : xs.length ≤ 1000000) (x : BitVec 8) (t : List (BitVec 8)) (hx : xs = x :: t) (h9 : 9 ≤ xs.length) (h1 : 1 ≤ x.toNat) (h2 : x.toNat ≤ 40) (h3 : x.toNat + 8 ≤ xs.length) (y : BitVec 8) (hy : xs[x.toNat + 7]? = some y) (hne : y ≠ 0#8) :
    Calls Tryz.prog 54 #[v] w fun e w' => e = .returned (.tuple #[.agg #[.int .u32 0, .slice none 0 0, .int .i64 0], .int .i64 0]) ∧ Below w.heap.size w w' := by
  have HB := Lib.hid (below_alloc (Below.refl _ w) (.cells #[.int .u32 0, .slice none 0 0, .int .i64 0] 47))
  obtain ⟨g, o, cap, x', ev, hc, hg, hx0, hcell⟩ := hv.at_ 0 (by omega)
  obtain rfl : x = x' := by rw [hx] at hx0; simpa using hx0
  rw [Nat.add_zero] at hcell
  have hcell := (below_alloc (Below.refl _ w) (.cells #[.int .u32 0, .slice none 0 0, .int .i64 0] 47)).cell (p := ⟨g, o, none⟩) (lt_of_cell hcell) |>.trans hcell
  have b1 : decide ((xs.length : Int) < 9) = false := by simp; omega
  have b0 : (0 : Int) < (xs.length : Int) := by omega
  have hxl := x.isLt
  have b2 : decide ((x.toNat : Int) < 1) = false := by simp; omega
  have b3 : decide ((40 : Int) < (x.toNat : Int)) = false := by simp; omega
  obtain ⟨n, hn⟩ : ∃ n, n = x.toNat + 8 := ⟨_, rfl⟩
  have e1 : IntKind.i64.wrap (8 + (x.toNat : Int)) = (n : Int) := by rw [IntWalk.i64_in _ (by omega)]; omega
  obtain ⟨m, hm⟩ : ∃ m, n = m + 1 := ⟨n - 1, by omega⟩
  obtain ⟨g', o', cap', y', ev', _, _, hx1, hcell1⟩ := hv.at_ m (by omega)
  obtain rfl : y' = y := by rw [show x.toNat + 7 = m by omega, hx1] at hy; cases hy; rfl
  rw [ev] at ev'
  simp only [Value.slice.injEq, Option.some.injEq, Addr.mk.injEq] at ev'
  obtain ⟨⟨rfl, rfl, _⟩, _, rfl⟩ := ev'
  have hcell1 := (below_alloc (Below.refl _ w) (.cells #[.int .u32 0, .slice none 0 0, .int .i64 0] 47)).cell (p := ⟨g, o + m, none⟩) (lt_of_cell hcell1) |>.trans hcell1
  have e2 : IntKind.i64.wrap ((n : Int) - 1) = (m : Int) := by rw [IntWalk.i64_in _ (by omega)]; omega
  have b4 : decide (xs.length < n) = false := by simp; omega
  have b5 : (m : Int) < (xs.length : Int) := by omega
  have b6 : (0 : Int) ≤ (m : Int) := by omega
  have hyl := y'.isLt
  have hq : ((y'.toNat : Int) != 0) = true := by have := byte_ne hne; simpa [bne] using this
  clear hv hx hx0 hx1 h9 h1 h2 h3 hn hm hy hne
  subst ev
  go_enter Tryz.func54, Tryz.ntmps54
  go_wp2_with fail
  (try simp only [Exit.inBlock, Exit.then])
  refine bodyPost_ret (v := .tuple #[.agg #[.int .u32 0, .slice none 0 0, .int .i64 0], .int .i64 0]) ?_ rfl ⟨rfl, HB.out⟩
  rw [results_cell_tmp rfl]
  go_simp

set_option maxHeartbeats 1000000 in
theorem rone_sum (v : Value) (xs : List (BitVec 8)) (w : World) (hv : Byts w v xs) (hl : xs.length ≤ 1000000) (x : BitVec 8) (t : List (BitVec 8)) (hx : xs = x :: t) (h9 : 9 ≤ xs.length) (h1 : 1 ≤ x.toNat) (h2 : x.toNat ≤ 40) (h3 : x.toNat + 8 ≤ xs.length) (y : BitVec 8) (hy : xs[x.toNat + 7]? = some y) (hz : y = 0#8) (hop : opens (xs.take (x.toNat + 7)) = false) :
    Calls Tryz.prog 54 #[v] w fun e w' => e = .returned (.tuple #[.agg #[.int .u32 0, .slice none 0 0, .int .i64 0], .int .i64 0]) ∧ Below w.heap.size w w' := by
  have HB := Lib.hid (below_alloc (Below.refl _ w) (.cells #[.int .u32 0, .slice none 0 0, .int .i64 0] 47))
  obtain ⟨g, o, cap, x', ev, hc, hg, hx0, hcell⟩ := hv.at_ 0 (by omega)
  obtain rfl : x = x' := by rw [hx] at hx0; simpa using hx0
  rw [Nat.add_zero] at hcell
  have hcell := (below_alloc (Below.refl _ w) (.cells #[.int .u32 0, .slice none 0 0, .int .i64 0] 47)).cell (p := ⟨g, o, none⟩) (lt_of_cell hcell) |>.trans hcell
  have b1 : decide ((xs.length : Int) < 9) = false := by simp; omega
  have b0 : (0 : Int) < (xs.length : Int) := by omega
  have hxl := x.isLt
  have b2 : decide ((x.toNat : Int) < 1) = false := by simp; omega
  have b3 : decide ((40 : Int) < (x.toNat : Int)) = false := by simp; omega
  obtain ⟨n, hn⟩ : ∃ n, n = x.toNat + 8 := ⟨_, rfl⟩
  have e1 : IntKind.i64.wrap (8 + (x.toNat : Int)) = (n : Int) := by rw [IntWalk.i64_in _ (by omega)]; omega
  obtain ⟨m, hm⟩ : ∃ m, n = m + 1 := ⟨n - 1, by omega⟩
  obtain ⟨g', o', cap', y', ev', _, _, hx1, hcell1⟩ := hv.at_ m (by omega)
  obtain rfl : y' = y := by rw [show x.toNat + 7 = m by omega, hx1] at hy; cases hy; rfl
  rw [ev] at ev'
  simp only [Value.slice.injEq, Option.some.injEq, Addr.mk.injEq] at ev'
  obtain ⟨⟨rfl, rfl, _⟩, _, rfl⟩ := ev'
  have hcell1 := (below_alloc (Below.refl _ w) (.cells #[.int .u32 0, .slice none 0 0, .int .i64 0] 47)).cell (p := ⟨g, o + m, none⟩) (lt_of_cell hcell1) |>.trans hcell1
  have e2 : IntKind.i64.wrap ((n : Int) - 1) = (m : Int) := by rw [IntWalk.i64_in _ (by omega)]; omega
  have b4 : decide (xs.length < n) = false := by simp; omega
  have b5 : (m : Int) < (xs.length : Int) := by omega
  have b6 : (0 : Int) ≤ (m : Int) := by omega
  have hyl := y'.isLt
  have HV1 := Lib.hid (hv.below HB.out)
  obtain ⟨v1, hrun1, hv1⟩ := cutL HV1.out m (by omega)
  have HV2 := Lib.hid hv1
  have HX := Lib.hid (blk_new w #[.int .u32 0, .slice none 0 0, .int .i64 0] 47)
  have HLN := Lib.hid (show (xs.take m).length ≤ 140737488351232 by rw [List.length_take]; omega)
  rw [show x.toNat + 7 = m by omega] at hop
  have HOP := Lib.hid hop
  subst hz
  have hcell1' : (w.alloc (.cells #[.int .u32 0, .slice none 0 0, .int .i64 0] 47)).cell? ⟨g, o + m, none⟩ = some (.int .u8 0) := hcell1
  clear hv hv1 hx hx0 hx1 h9 h1 h2 h3 hn hm hy hop hcell1
  subst ev
  go_enter Tryz.func54, Tryz.ntmps54
  go_wp2_with fail
  (with_reducible refine (ropen_f v1 _ _ HV2.out HLN.out HOP.out).mono ?_)
  rintro e w1 ⟨rfl, hb⟩
  have HX1 := Lib.hid (HX.out.below hb)
  have HB1 := Lib.hid (below_call HB.out hb)
  obtain ⟨c0, c1, c2⟩ := HX1.out.three
  have f0 := HX1.out.frz 0
  have f1 := HX1.out.frz 1
  have f2 := HX1.out.frz 2
  clear hb hrun1 hcell hcell1'
  go_wp2_with fail
  (try simp only [Exit.inBlock, Exit.then])
  refine bodyPost_ret (v := .tuple #[.agg #[.int .u32 0, .slice none 0 0, .int .i64 0], .int .i64 0]) ?_ rfl ⟨rfl, bel_set3 HB1.out (Nat.le_refl _) _ _ _⟩
  rw [results_cell_tmp rfl]
  go_simp

theorem rone_no (v : Value) (xs : List (BitVec 8)) (w : World) (hv : Byts w v xs) (hl : xs.length ≤ 1000000) (h : bone xs = none) :
    Calls Tryz.prog 54 #[v] w fun e w' => e = .returned (.tuple #[.agg #[.int .u32 0, .slice none 0 0, .int .i64 0], .int .i64 0]) ∧ Below w.heap.size w w' := by
  by_cases h9 : xs.length < 9
  · exact rone_few v xs w hv hl h9
  · rcases bone_none h with hz | ⟨n, hz, hop⟩
    · rcases bsz_none hz with rfl | ⟨x, t, hx, hcase⟩
      · simp at h9
      · rcases hcase with (h1 | h1) | ⟨h1, h2, h3 | ⟨h3, y, hy, hne⟩⟩
        · exact rone_low v xs w hv hl x t hx (by omega) h1
        · exact rone_high v xs w hv hl x t hx (by omega) h1
        · exact rone_long v xs w hv hl x t hx (by omega) h1 h2 h3
        · exact rone_open v xs w hv hl x t hx (by omega) h1 h2 h3 y hy hne
    · obtain ⟨x, t, hx, h1, h2, hn, h3, h4⟩ := bsz_some hz
      subst hn
      exact rone_sum v xs w hv hl x t hx (by omega) h1 h2 h3 0#8 (by simpa using h4) rfl (by simpa using hop)

set_option maxHeartbeats 2000000 in
theorem rone_yes (v : Value) (xs : List (BitVec 8)) (w : World) (hv : Byts w v xs) (hl : xs.length ≤ 1000000) (s : Nat) (d : List (BitVec 8)) (z : Nat) (h : bone xs = some (s, d, z)) :
    Calls Tryz.prog 54 #[v] w fun e w' => ∃ r, e = .returned (.tuple #[.agg #[.int .u32 (s : Int), r, .int .i64 0], .int .i64 (z : Int)]) ∧ Own w' (w.heap.size + 1) r d ∧ Below w.heap.size w w' := by
  obtain ⟨hsz, hop, hs, hd⟩ := bone_facts h
  obtain ⟨x, t, hx, h1, h2, hzn, h3, h4⟩ := bsz_some hsz
  have h9 : 9 ≤ xs.length := by omega
  obtain ⟨y, hy, hyz⟩ : ∃ y, xs[x.toNat + 7]? = some y ∧ y = 0#8 := ⟨0#8, by rw [← h4]; congr 1; omega, rfl⟩
  have HB := Lib.hid (below_alloc (Below.refl _ w) (.cells #[.int .u32 0, .slice none 0 0, .int .i64 0] 47))
  obtain ⟨g, o, cap, x', ev, hc, hg, hx0, hcell⟩ := hv.at_ 0 (by omega)
  obtain rfl : x = x' := by rw [hx] at hx0; simpa using hx0
  rw [Nat.add_zero] at hcell
  have hcell := (below_alloc (Below.refl _ w) (.cells #[.int .u32 0, .slice none 0 0, .int .i64 0] 47)).cell (p := ⟨g, o, none⟩) (lt_of_cell hcell) |>.trans hcell
  have b1 : decide ((xs.length : Int) < 9) = false := by simp; omega
  have b0 : (0 : Int) < (xs.length : Int) := by omega
  have hxl := x.isLt
  have b2 : decide ((x.toNat : Int) < 1) = false := by simp; omega
  have b3 : decide ((40 : Int) < (x.toNat : Int)) = false := by simp; omega
  obtain ⟨n, hn⟩ : ∃ n, n = x.toNat + 8 := ⟨_, rfl⟩
  have e1 : IntKind.i64.wrap (8 + (x.toNat : Int)) = (n : Int) := by rw [IntWalk.i64_in _ (by omega)]; omega
  obtain ⟨m, hm⟩ : ∃ m, n = m + 1 := ⟨n - 1, by omega⟩
  obtain ⟨g', o', cap', y', ev', _, _, hx1, hcell1⟩ := hv.at_ m (by omega)
  obtain rfl : y' = y := by rw [show x.toNat + 7 = m by omega, hx1] at hy; cases hy; rfl
  rw [ev] at ev'
  simp only [Value.slice.injEq, Option.some.injEq, Addr.mk.injEq] at ev'
  obtain ⟨⟨rfl, rfl, _⟩, _, rfl⟩ := ev'
  have hcell1 := (below_alloc (Below.refl _ w) (.cells #[.int .u32 0, .slice none 0 0, .int .i64 0] 47)).cell (p := ⟨g, o + m, none⟩) (lt_of_cell hcell1) |>.trans hcell1
  have e2 : IntKind.i64.wrap ((n : Int) - 1) = (m : Int) := by rw [IntWalk.i64_in _ (by omega)]; omega
  have b4 : decide (xs.length < n) = false := by simp; omega
  have b5 : (m : Int) < (xs.length : Int) := by omega
  have b6 : (0 : Int) ≤ (m : Int) := by omega
  have hyl := y'.isLt
  have HV1 := Lib.hid (hv.below HB.out)
  obtain ⟨v1, hrun1, hv1⟩ := cutL HV1.out m (by omega)
  have HV2 := Lib.hid hv1
  have HX := Lib.hid (blk_new w #[.int .u32 0, .slice none 0 0, .int .i64 0] 47)
  have HLN := Lib.hid (show (xs.take m).length ≤ 140737488351232 by rw [List.length_take]; omega)
  obtain rfl : z = n := by omega
  rw [show z - 1 = m by omega] at hop hs hd
  obtain ⟨f, hf⟩ : ∃ f, front (xs.take m) = f := ⟨_, rfl⟩
  have hflen : f.length = m - 2 := by rw [← hf]; unfold front; rw [List.length_take, List.length_take]; omega
  rw [hf] at hs hd
  have HOP := Lib.hid hop
  have HF := Lib.hid hf
  have HS := Lib.hid (show val 4 (f.drop 1) = s by rw [val_all (by rw [List.length_drop]; omega)]; exact hs.symm)
  have HD := Lib.hid (show (f.drop 1).drop 4 = d by rw [List.drop_drop]; exact hd.symm)
  have HFL := Lib.hid (show 6 ≤ f.length ∧ f.length ≤ 45 by omega)
  subst hyz
  have hcell1' : (w.alloc (.cells #[.int .u32 0, .slice none 0 0, .int .i64 0] 47)).cell? ⟨g, o + m, none⟩ = some (.int .u8 0) := hcell1
  clear hv hv1 hx hx0 hx1 h9 h1 h2 h3 h4 hn hm hy hop hcell1 hs hd hf hflen hsz hzn h
  subst ev
  go_enter Tryz.func54, Tryz.ntmps54
  go_wp2_with fail
  (with_reducible refine (ropen_t v1 _ _ HV2.out HLN.out HOP.out).mono ?_)
  rintro e w1 ⟨r1, rfl, hown, hb⟩
  rw [HF.out] at hown
  have HX1 := Lib.hid (HX.out.below hb)
  have HB1 := Lib.hid (below_call HB.out hb)
  obtain ⟨v3, hrun3, hv3, _⟩ := cutR hown.byts 1 (by have := HFL.out; omega)
  rw [show ((1 : Nat) : Int) = 1 from rfl] at hrun3
  obtain ⟨a3, k3, e3⟩ := hv3.len
  rw [List.length_drop] at e3
  have HR := Lib.hid (Rd.made 138 0 w1.heap.size hv3.left (Nat.le_refl _) false)
  have HX2 := Lib.hid (HX1.out.below (below_alloc (Below.refl _ w1) (.cells #[v3, .bool false] 138)))
  have HB2 := Lib.hid (below_alloc HB1.out (.cells #[v3, .bool false] 138))
  have HLT := Lib.hid (show w.heap.size < w1.heap.size from HX1.out.lt)
  clear hb hown hv3 hrun1 hcell hcell1' HX1 HB1 HV1 HV2 HB HX
  subst e3
  go_wp2_with fail
  clear hrun3
  generalize w1.alloc (.cells #[.slice a3 (f.length - 1) k3, .bool false] 138) = w2 at *
  generalize w1.heap.size = q at *
  have hnum := rnum_any 4 _ _ _ _ _ _ _ (by decide) (by decide) (by intro h; cases h) HR.out (by have := HFL.out; simp; omega)
  rw [show ((4 : Nat) : Int) = 4 from rfl, HS.out] at hnum
  have HNUM := Lib.hid hnum
  clear hnum
  (with_reducible refine HNUM.out.mono ?_)
  rintro e w4 ⟨rfl, hr, ha⟩
  rw [HD.out] at hr
  have HX4 := Lib.hid (HX2.out.apart ha (by have := HLT.out; omega))
  have HB4 := Lib.hid (below_apart HB2.out ha (by have := HLT.out; omega))
  have HR4 := Lib.hid hr
  clear hr ha HR HX2 HB2 HNUM
  go_wp2_with fail
  (with_reducible refine (rrest_any _ _ _ _ _ _ _ HR4.out (by have := HFL.out; rw [← HD.out]; simp; omega)).mono ?_)
  rintro e w5 ⟨r5, rfl, hown, hr, ha⟩
  have HX5 := Lib.hid (HX4.out.apart ha (by have := HLT.out; omega))
  have HB5 := Lib.hid (below_apart HB4.out ha (by have := HLT.out; omega))
  have HO5 := Lib.hid (hown.mono (show w.heap.size + 1 ≤ w4.heap.size by have := HX4.out.lt; omega))
  obtain ⟨av, cv, ev⟩ := hown.byts.len
  obtain ⟨c0, c1, c2⟩ := HX5.out.three
  have f0 := HX5.out.frz 0
  have f1 := HX5.out.frz 1
  have f2 := HX5.out.frz 2
  clear hown hr ha HR4 HX4 HB4
  subst ev
  go_wp2_with fail
  (try simp only [Exit.inBlock, Exit.then])
  refine bodyPost_ret (v := .tuple #[.agg #[.int .u32 (s : Int), .slice av d.length cv, .int .i64 0], .int .i64 (z : Int)]) ?_ rfl ⟨_, rfl, own_set3 HO5.out (by omega) _ _ _, bel_set3 HB5.out (Nat.le_refl _) _ _ _⟩
  rw [results_cell_tmp rfl]
  go_simp
end Go.Proofs.YtekackglcapppaaGreatDoor
/-
  The document's own Notes, by contract.
-/
namespace Go.Proofs.YtekackglcapppaaGreatDoor
open Go.RowKit

theorem bel_alloc_ {w w1 : World} (h : Below w.heap.size w w1) (o : Obj) : Below w.heap.size w (w1.alloc o) := below_alloc h o
theorem blk_ne_ {w : World} {g c : Nat} {C D : Array Value} (h : w.heap[g]? = some (.cells C 5 (0, 0))) (k : Blk w c D 47) : g ≠ c := by
  intro e
  subst e
  unfold Blk at k
  rw [h] at k
  simp at k

/-- Where the row goes on behind the notes so far. -/
def Goes (xs : List (BitVec 8)) (pre : List NV) (a : Nat) (c : Option Nt) : Prop :=
  bnotes xs = pre.map NV.nt ++ brest xs c ∧ ((pre = [] ∧ a = 0 ∧ c = brec xs 0) ∨ ∃ p y, pre = p ++ [y] ∧ a = y.e ∧ y.s < 4294967296 ∧ c = bnxt xs y.nt)
/-- Between two rounds. -/
def RInv (w : World) (xs : List (BitVec 8)) (pre : List NV) (out : Value) (a : Nat) (wr : World) : Prop :=
  a ≤ xs.length ∧ OwnN wr w.heap.size out pre ∧ Dat wr w.heap.size pre ∧ Below w.heap.size w wr ∧ ∃ c, Goes xs pre a c
theorem Goes.len {xs : List (BitVec 8)} {pre : List NV} {a : Nat} {c : Option Nt} (h : Goes xs pre a c) : pre.length ≤ xs.length + 1 := by
  have h1 := bnotes_len xs
  rw [h.1] at h1
  simp at h1
  omega
/-- The row is at its end. -/
theorem Goes.fin {xs : List (BitVec 8)} {pre : List NV} {a : Nat} {c : Option Nt} (h : Goes xs pre a c) (hc : c = none) : pre.map NV.nt = bnotes xs := by
  rw [h.1, hc, brest_none, List.append_nil]
theorem brec_of {xs : List (BitVec 8)} {a s z : Nat} {d : List (BitVec 8)} (h : bone (xs.drop a) = some (s, d, z)) : brec xs a = some ⟨s, d, a + z⟩ := by
  unfold brec
  rw [h]
theorem brec_of_none {xs : List (BitVec 8)} {a : Nat} (h : bone (xs.drop a) = none) : brec xs a = none := by
  unfold brec
  rw [h]
theorem bnxt_of_none {xs : List (BitVec 8)} {n : Nt} (h : brec xs n.e = none) : bnxt xs n = none := by
  unfold bnxt
  split
  · rfl
  · rw [h]
theorem bnxt_last {xs : List (BitVec 8)} {n : Nt} (h : n.s = 4294967295) : bnxt xs n = none := by
  unfold bnxt
  rw [if_pos h]
theorem bnxt_other {xs : List (BitVec 8)} {n m : Nt} (h : brec xs n.e = some m) (hs : m.s ≠ n.s + 1) : bnxt xs n = none := by
  unfold bnxt
  split
  · rfl
  · rw [h]
    simp [hs]
theorem bnxt_on {xs : List (BitVec 8)} {n m : Nt} (h : brec xs n.e = some m) (h0 : n.s ≠ 4294967295) (hs : m.s = n.s + 1) : bnxt xs n = some m := by
  unfold bnxt
  rw [if_neg h0, h]
  simp [hs]
theorem Goes.gone {xs : List (BitVec 8)} {pre : List NV} {a : Nat} {c : Option Nt} (h : Goes xs pre a c) (hb : bone (xs.drop a) = none) : c = none := by
  rcases h.2 with ⟨_, rfl, rfl⟩ | ⟨p, y, _, rfl, _, rfl⟩
  · exact brec_of_none hb
  · exact bnxt_of_none (brec_of_none hb)
theorem Goes.on {xs : List (BitVec 8)} {pre : List NV} {a : Nat} {x : NV} {z : Nat} (h : Goes xs pre a (some x.nt)) (_ : x.e = a + z) (hs : x.s < 4294967296) (hle : x.e ≤ xs.length) : Goes xs (pre ++ [x]) x.e (bnxt xs x.nt) := by
  refine ⟨?_, .inr ⟨pre, x, rfl, rfl, hs, rfl⟩⟩
  rw [h.1, brest_some xs x.nt hle]
  simp
/-- A round that goes on: the world behind the append. -/
theorem RInv.on {w W W1 : World} {xs : List (BitVec 8)} {pre : List NV} {a : Nat} {x : NV} {r v' : Value} {z : Nat} {o : Obj} {lo : Nat} (hg : Goes xs pre a (some x.nt)) (hxe : x.e = a + z) (hs : x.s < 4294967296) (hle : x.e ≤ xs.length)
    (h2 : OwnN W w.heap.size r pre) (h3 : Dat W w.heap.size pre) (h5 : Below w.heap.size w W) (hx : Own W lo x.v x.d) (hlo : w.heap.size ≤ lo) (hpre : ∀ y ∈ pre, y.g < lo)
    (hown : OwnN W1 w.heap.size v' (pre ++ [x])) (hgr : (W.alloc o).grownBy W1 r.ownBlock) : RInv w xs (pre ++ [x]) v' x.e W1 := by
  have hka : Keep (fun k => r.ownBlock = some k) W (W.alloc o) := Keep.of_below (below_alloc (Below.refl _ W) o)
  have hk1 : Keep (fun k => r.ownBlock = some k) W W1 := hka.trans (Keep.grown hgr fun g hg => hg) fun g hg => .inl hg
  have hrow : ∀ g, r.ownBlock = some g → w.heap.size ≤ g := fun g hg => (World.ownsRow.lt h2 g hg).1
  have hxd : Own W1 lo x.v x.d := hx.keepB hk1 fun g hg hr => by
    simp only [NV.v, Value.ownBlock, Option.some.injEq] at hg
    obtain ⟨C, hC, _⟩ := NV.own_block hx
    rcases h2.2 with ⟨rfl, _⟩ | ⟨g', cap, cur, rfl, _, hgb, _⟩
    · cases hr
    · simp [Value.ownBlock] at hr
      rw [hr, ← hg, hC] at hgb
      simp at hgb
  have hxl := (NV.own_block hx).choose_spec.2
  exact ⟨hle, hown, (h3.keep hk1 fun y hy hg => h3.ne h2 hy _ hg rfl).snoc (hxd.mono hlo) fun y hy => Nat.lt_of_lt_of_le (hpre y hy) hxl, below_keep h5 hk1 hrow, _, hg.on hxe hs hle⟩

set_option maxRecDepth 10000 in
set_option maxHeartbeats 8000000 in
theorem rnotes_any (v : Value) (xs : List (BitVec 8)) (w : World) (hv : Byts w v xs) (hl : xs.length ≤ 100000) :
    Calls Tryz.prog 42 #[v] w fun e w' => ∃ r ys, e = .returned r ∧ ys.map NV.nt = bnotes xs ∧ OwnN w' w.heap.size r ys ∧ Dat w' w.heap.size ys ∧ Below w.heap.size w w' := by
  have HV := Lib.hid hv
  obtain ⟨av, cv, ev⟩ := hv.len
  clear hv
  subst ev
  go_enter Tryz.func42, Tryz.ntmps42
  go_wp2_with fail
  go_loopw [3, 4] (fun out at_ wr => ∃ pre a, at_ = .int .i64 (a : Nat) ∧ RInv w xs pre out a wr) (fun _ at_ _ => xs.length - (intOf at_).toNat)
  case atStart => exact ⟨[], 0, rfl, by omega, ownN_nil _ _, Dat.nil _ _, Below.refl _ _, _, rfl, .inl ⟨rfl, rfl, rfl⟩⟩
  case round =>
    obtain ⟨pre, a, rfl, ha, hrow, hdat, hbel, c, hgo⟩ := hrel
    obtain ⟨v1, hrun1, hv1, _⟩ := cutR (HV.out.below hbel) a ha
    have HV1 := Lib.hid hv1
    have hkl := hgo.len
    cases hb : bone (xs.drop a) with
    | none =>
      obtain ⟨ra, rc, er⟩ := hrow.len
      subst er
      have HR := Lib.hid (rone_no v1 _ wr hv1 (by simp; omega) hb)
      have HN := Lib.hid (hgo.fin (hgo.gone hb))
      have HROW := Lib.hid hrow
      have HDAT := Lib.hid hdat
      have HBEL := Lib.hid hbel
      clear hv1 hb hgo hrow hdat hbel
      go_wp2_with fail
      (with_reducible refine HR.out.mono ?_)
      rintro e w1 ⟨rfl, hb⟩
      have HB1 := Lib.hid (bel_alloc_ hb (.cells #[.int .u32 0, .slice none 0 0, .int .i64 0] 47))
      clear hb hrun1
      go_wp2_with fail
      go_quiet (fail)
      go_wp2_with fail
      go_ret
      have hbz := below_drewN HB1.out nq
      exact ⟨_, pre, rfl, HN.out, HROW.out.below hbz, HDAT.out.below hbz, below_call HBEL.out hbz⟩
    | some q =>
      obtain ⟨s, d, z⟩ := q
      have hbs := bone_some hb
      have hsl := hbs.2.2.1
      have hz9 : 9 ≤ z := by omega
      have hz48 : z ≤ 48 := by omega
      have hle : a + z ≤ xs.length := by have := hbs.2.2.2.2.1; rw [List.length_drop] at this; omega
      have hd1 := hbs.1
      have HR := Lib.hid (rone_yes v1 _ wr hv1 (by simp; omega) s d z hb)
      have hrec := brec_of hb
      have e7 : IntKind.i64.wrap ((a : Int) + (z : Int)) = ((a + z : Nat) : Int) := by rw [IntWalk.i64_in _ (by omega)]; omega
      have e8 : ((a : Int) + (z : Int)) = ((a + z : Nat) : Int) := by omega
      have bz : ((z : Int) == 0) = false := by simp; omega
      obtain ⟨t, ht⟩ : ∃ t, t = a + z := ⟨_, rfl⟩
      rw [← ht] at e7 e8 hle hrec
      have hta : a < t := by omega
      have HT := Lib.hid ht
      clear hv1 hb hbs ht
      rcases hgo.2 with ⟨rfl, ha0, rfl⟩ | ⟨p, y, rfl, rfl, hys, rfl⟩
      · obtain ⟨ra, rc, er⟩ := hrow.len
        subst er
        have HROW := Lib.hid hrow
        have HDAT := Lib.hid hdat
        have HBEL := Lib.hid hbel
        have HSL := Lib.hid hsl
        have HLE := Lib.hid hle
        have HLO := Lib.hid (show w.heap.size ≤ wr.heap.size + 1 by have := hbel.size; omega)
        have HPRE := Lib.hid (show ∀ u : NV, u ∈ [] → u.g < wr.heap.size + 1 from fun u hu => by have := hdat.lt hu; omega)
        have HG0 := Lib.hid (show Goes xs [] a (some ⟨s, d, t⟩) by rw [← hrec, ha0]; rw [ha0] at hgo; exact hgo)
        clear hgo hrow hdat hbel hrec hsl ha0
        go_wp2_with fail
        (with_reducible refine HR.out.mono ?_)
        rintro e w1 ⟨r1, rfl, hown, hb⟩
        obtain ⟨g, cap, rfl, _, hgB⟩ := hown.form hd1
        have HXO := Lib.hid (show Own (w1.alloc (.cells #[.int .u32 (s : Int), .slice (some ⟨g, 0, none⟩) d.length cap, .int .i64 0] 47)) (wr.heap.size + 1) (NV.v ⟨s, g, cap, d, t⟩) d from hown.below (below_alloc (Below.refl _ w1) _))
        have HB1 := Lib.hid (bel_alloc_ hb (.cells #[.int .u32 (s : Int), .slice (some ⟨g, 0, none⟩) d.length cap, .int .i64 0] 47))
        have HQ := Lib.hid (blk_new w1 #[.int .u32 (s : Int), .slice (some ⟨g, 0, none⟩) d.length cap, .int .i64 0] 47)
        have HSQ := Lib.hid hb.size
        clear hown hb hrun1
        go_wp2_with fail
        generalize w1.alloc (.cells #[.int .u32 (s : Int), .slice (some ⟨g, 0, none⟩) d.length cap, .int .i64 0] 47) = w2 at *
        generalize w1.heap.size = q at *
        obtain ⟨c0, c1, c2⟩ := HQ.out.three
        go_quiet (fail)
        have HGO := Lib.hid (show Goes xs [] a (some (NV.nt ⟨s, g, cap, d, t⟩)) from HG0.out)
        have HB2 := Lib.hid (below_drewN HB1.out nq)
        have HQ2 := Lib.hid (show Blk (w2.drewN nq) q #[.int .u32 (s : Int), .slice (some ⟨g, 0, none⟩) d.length cap, .int .i64 0] 47 from HQ.out)
        have HX2 := Lib.hid (show Own (w2.drewN nq) (wr.heap.size + 1) (NV.v ⟨s, g, cap, d, t⟩) d from HXO.out)
        generalize w2.drewN nq = w3 at *
        clear HQ HXO HB1 c0 c1 c2 
        obtain ⟨c0, c1, c2⟩ := HQ2.out.three
        have f2 := HQ2.out.frz 2
        have hks : Keep (fun k => k = q) w3 (w3.setCell ⟨q, 2, none⟩ (.int .i64 (t : Int))) := Keep.set_ (F := fun k => k = q) w3 q 2 _ rfl
        have HQ3 := Lib.hid ((HQ2.out.set_ 2 (.int .i64 (t : Int))).three)
        have HKW := Lib.hid (show Keep (fun k => k = q) wr (w3.setCell ⟨q, 2, none⟩ (.int .i64 (t : Int))) from (Keep.of_below (F := fun k => k = q) HB2.out).trans hks fun g h => .inl h)
        have HX3 := Lib.hid (HX2.out.keepB hks fun g' hg' hq => by
          simp only [NV.v, Value.ownBlock, Option.some.injEq] at hg'
          obtain ⟨C, hC, _⟩ := NV.own_block HX2.out
          exact blk_ne_ hC HQ2.out (hg'.trans hq))
        have HR3 := Lib.hid (HROW.out.keep HKW.out fun g' hg' hq => by have := (World.ownsRow.lt HROW.out g' hg').2; have := HSQ.out; omega)
        have HD3 := Lib.hid (HDAT.out.keep HKW.out fun y hy hq => by have := HDAT.out.lt hy; have := HSQ.out; omega)
        have HBW := Lib.hid (below_keep HBEL.out HKW.out fun g' hq => by have := HSQ.out; have := HBEL.out.size; omega)
        clear hks HB2 HX2 HROW HBEL
        have hss : (w3.setCell ⟨q, 2, none⟩ (.int .i64 (t : Int))).heap.size = w3.heap.size := by simp [World.setCell]
        have ha := blk_new (w3.setCell ⟨q, 2, none⟩ (.int .i64 (t : Int))) #[.int .u32 (s : Int), .slice (some ⟨g, 0, none⟩) d.length cap, .int .i64 (t : Int)] 47
        rw [hss] at ha
        have HA := Lib.hid ha
        clear ha hss
        have HRA := Lib.hid (HR3.out.below (below_alloc (Below.refl _ _) (.cells #[.int .u32 (s : Int), .slice (some ⟨g, 0, none⟩) d.length cap, .int .i64 (t : Int)] 47)))
        have HSZ := Lib.hid (le_alloc HBW.out.size (.cells #[.int .u32 (s : Int), .slice (some ⟨g, 0, none⟩) d.length cap, .int .i64 (t : Int)] 47))
        have HPL := Lib.hid (show ([] : List NV).length ≤ 1000000 by omega)
        go_wp2_with (at_builtin; refine wpList_appN rfl _ _ rfl w.heap.size _ [] rfl HRA.out w3.heap.size rfl ⟨s, g, cap, d, t⟩ HA.out HPL.out HSZ.out ?_; intro v' w4 hown4 hgr4; have HI := Lib.hid (RInv.on (x := ⟨s, g, cap, d, t⟩) (z := z) HGO.out HT.out HSL.out HLE.out HR3.out HD3.out HBW.out HX3.out HLO.out HPRE.out hown4 hgr4); clear hown4 hgr4)
        go_roundw
        case rel => exact ⟨_, _, rfl, HI.out⟩
        case measure => simp [intOf]; omega
      · obtain ⟨g0, k0, er, hg0, hg0l, _, _, _⟩ := hrow.at_ (j := p.length) (y := y) (by simp)
        obtain ⟨K, hK⟩ : ∃ K, K = (p ++ [y]).length := ⟨_, rfl⟩
        rw [← hK] at er
        subst er
        have hKj : K = p.length + 1 := by rw [hK]; simp
        have hK1 : IntKind.i64.wrap ((K : Int) - 1) = (p.length : Int) := by rw [IntWalk.i64_in _ (by omega)]; omega
        have q1 : decide (0 < (K : Int)) = true := by simp; omega
        have q2 : decide (0 < K) = true := by simp; omega
        have q3 : (p.length : Int) < (K : Int) := by omega
        have q4 : (0 : Int) ≤ (p.length : Int) := by omega
        have q7 : (0 : Int) < (K : Int) := by omega
        have HROW := Lib.hid hrow
        have HDAT := Lib.hid hdat
        have HBEL := Lib.hid hbel
        have HSL := Lib.hid hsl
        have HLE := Lib.hid hle
        have HLO := Lib.hid (show w.heap.size ≤ wr.heap.size + 1 by have := hbel.size; omega)
        have HPRE := Lib.hid (show ∀ u : NV, u ∈ p ++ [y] → u.g < wr.heap.size + 1 from fun u hu => by have := hdat.lt hu; omega)
        by_cases hmax : y.s = 4294967295
        · have q5 : ((y.s : Int) == 4294967295) = true := by simp; omega
          have HN := Lib.hid (hgo.fin (bnxt_last (n := y.nt) hmax))
          clear hmax hgo hrow hdat hbel hrec hsl hys hKj hK
          go_wp2_with fail
          (with_reducible refine HR.out.mono ?_)
          rintro e w1 ⟨r1, rfl, hown, hb⟩
          obtain ⟨g, cap, rfl, _, hgB⟩ := hown.form hd1
          have HXO := Lib.hid (show Own (w1.alloc (.cells #[.int .u32 (s : Int), .slice (some ⟨g, 0, none⟩) d.length cap, .int .i64 0] 47)) (wr.heap.size + 1) (NV.v ⟨s, g, cap, d, t⟩) d from hown.below (below_alloc (Below.refl _ w1) _))
          have HB1 := Lib.hid (bel_alloc_ hb (.cells #[.int .u32 (s : Int), .slice (some ⟨g, 0, none⟩) d.length cap, .int .i64 0] 47))
          have HQ := Lib.hid (blk_new w1 #[.int .u32 (s : Int), .slice (some ⟨g, 0, none⟩) d.length cap, .int .i64 0] 47)
          have HSQ := Lib.hid hb.size
          clear hown hb hrun1
          go_wp2_with fail
          generalize w1.alloc (.cells #[.int .u32 (s : Int), .slice (some ⟨g, 0, none⟩) d.length cap, .int .i64 0] 47) = w2 at *
          generalize w1.heap.size = q at *
          obtain ⟨c0, c1, c2⟩ := HQ.out.three
          obtain ⟨g1, k1, er, _, _, a0, a1, a2⟩ := (HROW.out.below HB1.out).at_ (j := p.length) (y := y) (by simp)
          simp only [Value.slice.injEq, Option.some.injEq, Addr.mk.injEq] at er
          obtain ⟨⟨rfl, _⟩, _⟩ := er
          go_quiet (fail)
          go_wp2_with fail
          go_ret
          have hbz := below_drewN HB1.out nq
          exact ⟨_, p ++ [y], rfl, HN.out, HROW.out.below hbz, HDAT.out.below hbz, below_call HBEL.out hbz⟩
        have q5 : ((y.s : Int) == 4294967295) = false := by simp; omega
        have q6 : IntKind.u32.wrap ((y.s : Int) + 1) = (y.s : Int) + 1 := by simp [IntKind.wrap, IntKind.bits, IntKind.signed]; omega
        by_cases hoth : s ≠ y.s + 1
        · have q8 : ((s : Int) != (y.s : Int) + 1) = true := by simp; omega
          have HN := Lib.hid (hgo.fin (bnxt_other (n := y.nt) hrec hoth))
          clear hmax hoth hgo hrow hdat hbel hrec hsl hys hKj hK
          go_wp2_with fail
          (with_reducible refine HR.out.mono ?_)
          rintro e w1 ⟨r1, rfl, hown, hb⟩
          obtain ⟨g, cap, rfl, _, hgB⟩ := hown.form hd1
          have HXO := Lib.hid (show Own (w1.alloc (.cells #[.int .u32 (s : Int), .slice (some ⟨g, 0, none⟩) d.length cap, .int .i64 0] 47)) (wr.heap.size + 1) (NV.v ⟨s, g, cap, d, t⟩) d from hown.below (below_alloc (Below.refl _ w1) _))
          have HB1 := Lib.hid (bel_alloc_ hb (.cells #[.int .u32 (s : Int), .slice (some ⟨g, 0, none⟩) d.length cap, .int .i64 0] 47))
          have HQ := Lib.hid (blk_new w1 #[.int .u32 (s : Int), .slice (some ⟨g, 0, none⟩) d.length cap, .int .i64 0] 47)
          have HSQ := Lib.hid hb.size
          clear hown hb hrun1
          go_wp2_with fail
          generalize w1.alloc (.cells #[.int .u32 (s : Int), .slice (some ⟨g, 0, none⟩) d.length cap, .int .i64 0] 47) = w2 at *
          generalize w1.heap.size = q at *
          obtain ⟨c0, c1, c2⟩ := HQ.out.three
          obtain ⟨g1, k1, er, _, _, a0, a1, a2⟩ := (HROW.out.below HB1.out).at_ (j := p.length) (y := y) (by simp)
          simp only [Value.slice.injEq, Option.some.injEq, Addr.mk.injEq] at er
          obtain ⟨⟨rfl, _⟩, _⟩ := er
          go_quiet (fail)
          go_wp2_with fail
          go_ret
          have hbz := below_drewN HB1.out nq
          exact ⟨_, p ++ [y], rfl, HN.out, HROW.out.below hbz, HDAT.out.below hbz, below_call HBEL.out hbz⟩
        have hso : s = y.s + 1 := by omega
        have q8 : ((s : Int) != (y.s : Int) + 1) = false := by simp; omega
        have HG0 := Lib.hid (show Goes xs (p ++ [y]) y.e (some ⟨s, d, t⟩) by rw [← bnxt_on (n := y.nt) hrec hmax hso]; exact hgo)
        have HKE := Lib.hid hK
        clear hmax hoth hgo hrow hdat hbel hrec hsl hys hso hKj hK
        go_wp2_with fail
        (with_reducible refine HR.out.mono ?_)
        rintro e w1 ⟨r1, rfl, hown, hb⟩
        obtain ⟨g, cap, rfl, _, hgB⟩ := hown.form hd1
        have HXO := Lib.hid (show Own (w1.alloc (.cells #[.int .u32 (s : Int), .slice (some ⟨g, 0, none⟩) d.length cap, .int .i64 0] 47)) (wr.heap.size + 1) (NV.v ⟨s, g, cap, d, t⟩) d from hown.below (below_alloc (Below.refl _ w1) _))
        have HB1 := Lib.hid (bel_alloc_ hb (.cells #[.int .u32 (s : Int), .slice (some ⟨g, 0, none⟩) d.length cap, .int .i64 0] 47))
        have HQ := Lib.hid (blk_new w1 #[.int .u32 (s : Int), .slice (some ⟨g, 0, none⟩) d.length cap, .int .i64 0] 47)
        have HSQ := Lib.hid hb.size
        clear hown hb hrun1
        go_wp2_with fail
        generalize w1.alloc (.cells #[.int .u32 (s : Int), .slice (some ⟨g, 0, none⟩) d.length cap, .int .i64 0] 47) = w2 at *
        generalize w1.heap.size = q at *
        obtain ⟨c0, c1, c2⟩ := HQ.out.three
        obtain ⟨g1, k1, er, _, _, a0, a1, a2⟩ := (HROW.out.below HB1.out).at_ (j := p.length) (y := y) (by simp)
        simp only [Value.slice.injEq, Option.some.injEq, Addr.mk.injEq] at er
        obtain ⟨⟨rfl, _⟩, _⟩ := er
        go_quiet (fail)
        have HGO := Lib.hid (show Goes xs (p ++ [y]) y.e (some (NV.nt ⟨s, g, cap, d, t⟩)) from HG0.out)
        have HB2 := Lib.hid (below_drewN HB1.out nq)
        have HQ2 := Lib.hid (show Blk (w2.drewN nq) q #[.int .u32 (s : Int), .slice (some ⟨g, 0, none⟩) d.length cap, .int .i64 0] 47 from HQ.out)
        have HX2 := Lib.hid (show Own (w2.drewN nq) (wr.heap.size + 1) (NV.v ⟨s, g, cap, d, t⟩) d from HXO.out)
        generalize w2.drewN nq = w3 at *
        clear HQ HXO HB1 c0 c1 c2 a0 a1 a2
        obtain ⟨c0, c1, c2⟩ := HQ2.out.three
        have f2 := HQ2.out.frz 2
        have hks : Keep (fun k => k = q) w3 (w3.setCell ⟨q, 2, none⟩ (.int .i64 (t : Int))) := Keep.set_ (F := fun k => k = q) w3 q 2 _ rfl
        have HQ3 := Lib.hid ((HQ2.out.set_ 2 (.int .i64 (t : Int))).three)
        have HKW := Lib.hid (show Keep (fun k => k = q) wr (w3.setCell ⟨q, 2, none⟩ (.int .i64 (t : Int))) from (Keep.of_below (F := fun k => k = q) HB2.out).trans hks fun g h => .inl h)
        have HX3 := Lib.hid (HX2.out.keepB hks fun g' hg' hq => by
          simp only [NV.v, Value.ownBlock, Option.some.injEq] at hg'
          obtain ⟨C, hC, _⟩ := NV.own_block HX2.out
          exact blk_ne_ hC HQ2.out (hg'.trans hq))
        have HR3 := Lib.hid (HROW.out.keep HKW.out fun g' hg' hq => by have := (World.ownsRow.lt HROW.out g' hg').2; have := HSQ.out; omega)
        have HD3 := Lib.hid (HDAT.out.keep HKW.out fun y hy hq => by have := HDAT.out.lt hy; have := HSQ.out; omega)
        have HBW := Lib.hid (below_keep HBEL.out HKW.out fun g' hq => by have := HSQ.out; have := HBEL.out.size; omega)
        clear hks HB2 HX2 HROW HBEL
        have hss : (w3.setCell ⟨q, 2, none⟩ (.int .i64 (t : Int))).heap.size = w3.heap.size := by simp [World.setCell]
        have ha := blk_new (w3.setCell ⟨q, 2, none⟩ (.int .i64 (t : Int))) #[.int .u32 (s : Int), .slice (some ⟨g, 0, none⟩) d.length cap, .int .i64 (t : Int)] 47
        rw [hss] at ha
        have HA := Lib.hid ha
        clear ha hss
        have HRA := Lib.hid (HR3.out.below (below_alloc (Below.refl _ _) (.cells #[.int .u32 (s : Int), .slice (some ⟨g, 0, none⟩) d.length cap, .int .i64 (t : Int)] 47)))
        have HSZ := Lib.hid (le_alloc HBW.out.size (.cells #[.int .u32 (s : Int), .slice (some ⟨g, 0, none⟩) d.length cap, .int .i64 (t : Int)] 47))
        have HPL := Lib.hid (show (p ++ [y]).length ≤ 1000000 by omega)
        go_wp2_with (at_builtin; refine wpList_appN rfl _ _ rfl w.heap.size _ (p ++ [y]) rfl HRA.out w3.heap.size rfl ⟨s, g, cap, d, t⟩ HA.out HPL.out HSZ.out ?_; intro v' w4 hown4 hgr4; have HI := Lib.hid (RInv.on (x := ⟨s, g, cap, d, t⟩) (z := z) HGO.out HT.out HSL.out HLE.out HR3.out HD3.out HBW.out HX3.out HLO.out HPRE.out hown4 hgr4); clear hown4 hgr4)
        go_roundw
        case rel => exact ⟨_, _, rfl, HI.out⟩
        case measure => simp [intOf]; omega
end Go.Proofs.YtekackglcapppaaGreatDoor
/-
  The document's own Last, by contract.
-/
namespace Go.Proofs.YtekackglcapppaaGreatDoor
open Go.RowKit

set_option maxHeartbeats 1000000 in
theorem rlast_any (v : Value) (xs : List (BitVec 8)) (w : World) (hv : Byts w v xs) (hl : xs.length ≤ 100000) :
    Calls Tryz.prog 25 #[v] w fun e w' => ∃ s a k c p ok, e = .returned (.tuple #[.agg #[.int .u32 s, .slice a k c, .int .i64 p], .bool ok]) ∧ LastT (bnotes xs).getLast? w.heap.size w' s a k c p ok ∧ Below w.heap.size w w' := by
  have HB := Lib.hid (below_alloc (Below.refl _ w) (.cells #[.int .u32 0, .slice none 0 0, .int .i64 0] 47))
  have HX := Lib.hid (blk_new w #[.int .u32 0, .slice none 0 0, .int .i64 0] 47)
  have HN := Lib.hid (rnotes_any v xs _ (hv.below HB.out) hl)
  clear hv
  go_enter Tryz.func25, Tryz.ntmps25
  go_wp2_with fail
  (with_reducible refine HN.out.mono ?_)
  rintro e w1 ⟨r, ys, rfl, hys, hrow, hdat, hb⟩
  have HX1 := Lib.hid (HX.out.below hb)
  have HB1 := Lib.hid (below_call HB.out hb)
  have hsz : w.heap.size < (w.alloc (.cells #[.int .u32 0, .slice none 0 0, .int .i64 0] 47)).heap.size := by simp
  obtain ⟨c0, c1, c2⟩ := HX1.out.three
  have f0 := HX1.out.frz 0
  have f1 := HX1.out.frz 1
  have f2 := HX1.out.frz 2
  rcases List.eq_nil_or_concat ys with rfl | ⟨p, y, hy⟩
  · obtain ⟨ra, rc, er⟩ := hrow.len
    have HL := Lib.hid (show (bnotes xs).getLast? = none by rw [← hys]; rfl)
    clear hys hrow hdat hb
    subst er
    go_wp2_with fail
    (try simp only [Exit.inBlock, Exit.then])
    refine bodyPost_ret (v := .tuple #[.agg #[.int .u32 0, .slice none 0 0, .int .i64 0], .bool false]) ?_ rfl ⟨_, _, _, _, _, _, rfl, .inl ⟨HL.out, rfl, rfl, rfl, rfl, rfl, rfl⟩, bel_set3 HB1.out (Nat.le_refl _) _ _ _⟩
    rw [results_cell_tmp rfl]
    go_simp
  · rw [List.concat_eq_append] at hy
    subst hy
    obtain ⟨g0, k0, er, _, _, a0, a1, a2⟩ := hrow.at_ (j := p.length) (y := y) (by simp)
    obtain ⟨K, hK⟩ : ∃ K, K = (p ++ [y]).length := ⟨_, rfl⟩
    rw [← hK] at er
    subst er
    have hKj : K = p.length + 1 := by rw [hK]; simp
    have hKs : p.length ≤ 1000000 := by
      have h1 := bnotes_len xs
      rw [← hys] at h1
      simp at h1
      omega
    have hK1 : IntKind.i64.wrap ((K : Int) - 1) = (p.length : Int) := by rw [IntWalk.i64_in _ (by omega)]; omega
    have q1 : ((K : Int) == 0) = false := by simp; omega
    have q3 : (p.length : Int) < (K : Int) := by omega
    have q4 : (0 : Int) ≤ (p.length : Int) := by omega
    have HL := Lib.hid (show (bnotes xs).getLast? = some y.nt by rw [← hys]; simp)
    have HO := Lib.hid ((hdat.1 y (by simp)).mono (show w.heap.size + 1 ≤ _ by omega))
    have a1' : w1.cell? ⟨g0, p.length * 3 + 1, none⟩ = some (.slice (some ⟨y.g, 0, none⟩) y.d.length y.c) := a1
    clear hys hrow hdat hb hK hKj a1
    go_wp2_with fail
    (try simp only [Exit.inBlock, Exit.then])
    refine bodyPost_ret (v := .tuple #[.agg #[.int .u32 (y.s : Int), .slice (some ⟨y.g, 0, none⟩) y.d.length y.c, .int .i64 (y.e : Int)], .bool true]) ?_ rfl ⟨_, _, _, _, _, _, rfl, .inr ⟨rfl, y, HL.out, rfl, rfl, rfl, (own_set3 HO.out (by omega) _ _ _).mono (by omega)⟩, bel_set3 HB1.out (Nat.le_refl _) _ _ _⟩
    rw [results_cell_tmp rfl]
    go_simp
end Go.Proofs.YtekackglcapppaaGreatDoor
/-
  The document's Blank, by contract.
-/
namespace Go.Proofs.YtekackglcapppaaGreatDoor
open Go.RowKit

theorem rblank_any (v : Value) (xs : List (BitVec 8)) (w : World) (hv : Byts w v xs) (hl : xs.length ≤ 140737488355328) (o : Int) (ho : -9223372036854775808 ≤ o ∧ o ≤ 9223372036854775807) :
    Calls Tryz.prog 35 #[v, .int .i64 o] w fun e w' => e = .returned (.bool (bblank xs o.toNat)) ∧ w = w' := by
  obtain ⟨av, cv, ev⟩ := hv.len
  obtain ⟨m, hm⟩ : ∃ m : Nat, m = o.toNat := ⟨_, rfl⟩
  have hmb : m ≤ 9223372036854775807 := by omega
  have hval : (if o < 0 then 0 else o) = (m : Int) := by split <;> omega
  have HV := Lib.hid hv
  rw [← hm]
  clear hv hm ho
  subst ev
  go_enter Tryz.func35, Tryz.ntmps35
  go_upto_region 2 with fail
  clear hval
  go_loop [5] (fun i => ∃ k : Nat, m ≤ k ∧ (k = m ∨ k ≤ xs.length) ∧ i = .int .i64 k ∧ ∀ (j : Nat) (y : BitVec 8), m ≤ j → j < k → xs[j]? = some y → y = 255#8) (fun i => xs.length - (intOf i).toNat)
  case atStart => exact ⟨m, Nat.le_refl _, .inl rfl, rfl, fun j y h => by omega⟩
  case round =>
    obtain ⟨k, hmk, hk, rfl, hall⟩ := hrel
    by_cases hlt : k < xs.length
    · obtain ⟨g, p, c, x, e1, hc1, hg1, hx, h1⟩ := HV.out.at_ k hlt
      simp only [Value.slice.injEq] at e1
      obtain ⟨rfl, _, rfl⟩ := e1
      by_cases hff : x = 255#8
      · subst hff
        have HA : Hid (∀ (j : Nat) (y : BitVec 8), m ≤ j → j < k + 1 → xs[j]? = some y → y = 255#8) := Lib.hid (fun j y hmj hj hy => by
          by_cases hjk : j = k
          · subst hjk
            rw [hx] at hy
            cases hy
            rfl
          · exact hall j y hmj (by omega) hy)
        have h1' : w.cell? ⟨g, p + k, none⟩ = some (.int .u8 255) := h1
        clear hx hall h1 hk
        go_wp2
        go_round
        case rel => exact ⟨k + 1, by omega, by omega, by go_num, HA.out⟩
        case measure => simp [intOf]; omega
      · have hne := ff_no hff
        have HB := Lib.hid (bblank_no (o := m) (j := k - m) (by rw [List.getElem?_drop, show m + (k - m) = k by omega]; exact hx) hff)
        clear hx hall hff hk
        go_wp2
        go_ret
        exact ⟨by rw [HB.out]; rfl, rfl⟩
    · have HB := Lib.hid (bblank_yes (xs := xs) (o := m) fun j y hy => by
        rw [List.getElem?_drop] at hy
        have h1 := (List.getElem?_eq_some_iff.1 hy).1
        exact hall _ y (by omega) (by omega) hy)
      have hnl : decide ((k : Int) < (xs.length : Int)) = false := by simp; omega
      clear hall hk
      go_wp2
      go_ret
      exact ⟨by rw [HB.out]; rfl, rfl⟩
end Go.Proofs.YtekackglcapppaaGreatDoor
/-
  The document's own Print of a record, by contract.
-/
namespace Go.Proofs.YtekackglcapppaaGreatDoor
open Go.RowKit

theorem rprint_no (s : Int) (v : Value) (xs : List (BitVec 8)) (w : World) (hv : Byts w v xs) (h : xs.length = 0 ∨ 40 < xs.length) :
    Calls Tryz.prog 34 #[.int .u32 s, v] w fun e w' => e = .returned (.tuple #[.slice none 0 0, .bool false]) ∧ w = w' := by
  obtain ⟨av, cv, ev⟩ := hv.len
  clear hv
  subst ev
  rcases h with h | h
  · rw [h]
    go_enter Tryz.func34, Tryz.ntmps34
    go_wp2
    go_ret2
    exact ⟨rfl, rfl⟩
  · have b1 : decide ((xs.length : Int) < 1) = false := by simp; omega
    have b2 : decide ((40 : Int) < (xs.length : Int)) = true := by simp; omega
    go_enter Tryz.func34, Tryz.ntmps34
    go_wp2
    go_ret2
    exact ⟨rfl, rfl⟩

set_option maxHeartbeats 1000000 in
theorem rprint_yes (s : BitVec 32) (v : Value) (xs : List (BitVec 8)) (w : World) (hv : Byts w v xs) (h1 : 1 ≤ xs.length) (h2 : xs.length ≤ 40) :
    Calls Tryz.prog 34 #[.int .u32 (s.toNat : Int), v] w fun e w' => ∃ r, e = .returned (.tuple #[r, .bool true]) ∧ Own w' w.heap.size r (pr s.toNat xs) ∧ Below w.heap.size w w' := by
  obtain ⟨av, cv, ev⟩ := hv.len
  have HV := Lib.hid hv
  have HP := Lib.hid (show pr s.toNat xs = sealed (([BitVec.ofNat 8 xs.length] ++ tops s.toNat 4 4) ++ xs) ++ [0#8] by unfold pr hd; rw [BitVec.ofNat_toNat, BitVec.setWidth_eq, tops_four]; rfl)
  have hw : IntKind.u8.wrap (xs.length : Int) = (xs.length : Int) := by simp [IntKind.wrap, IntKind.bits, IntKind.signed]; omega
  have HB0 := Lib.hid (below_alloc (Below.refl _ w) (.cells #[.int .u8 (xs.length : Int)] 5))
  have HT := Lib.hid (rput_any _ s.toNat 4 _ _ (bk_one w xs.length (by omega)) (by simp) (by have := s.isLt; omega) (by decide))
  rw [show ((4 : Nat) : Int) = 4 from rfl] at HT
  have HL := Lib.hid h2
  have b1 : decide ((xs.length : Int) < 1) = false := by simp; omega
  have b2 : decide ((40 : Int) < (xs.length : Int)) = false := by simp; omega
  clear hv h1 h2
  subst ev
  go_enter Tryz.func34, Tryz.ntmps34
  go_wp2_with fail
  (with_reducible refine HT.out.mono ?_)
  rintro e w2 ⟨r, rfl, hown, hb⟩
  have HO := Lib.hid (hown.mono (le_alloc (Nat.le_refl _) _))
  have HB := Lib.hid (below_call HB0.out hb)
  have HV1 := Lib.hid (HV.out.below HB.out)
  have hsz := HB.out.size
  have hn : xs.length ≤ 40 := HL.out
  clear hown hb HT HB0 b1 b2
  go_wp2_with (at_builtin; refine wpList_app rfl _ _ rfl w.heap.size _ _ rfl HO.out _ xs rfl HV1.out (by simp [tops_length]; omega) hsz ?_; intro v3 w3 hown3 hg3; have HO3 := Lib.hid hown3; have HB3 := Lib.hid (HO.out.grown HB.out hg3); clear hown3 hg3 HO HB HV1 hsz)
  (with_reducible refine (rseal_any _ _ _ HO3.out.byts (by simp [tops_length]; omega)).mono ?_)
  rintro e w4 ⟨r4, rfl, hown, hb⟩
  have HO4 := Lib.hid (hown.mono HB3.out.size)
  have HB4 := Lib.hid (below_call HB3.out hb)
  have hsz := HB4.out.size
  clear hown hb HO3 HB3
  go_wp2_with (at_builtin; refine wpList_app rfl _ _ rfl w.heap.size _ _ rfl (HO4.out.alloc _) _ [0#8] rfl (bk_zero _) (by simp [len_sealed, tops_length]; omega) (le_alloc hsz _) ?_; intro v5 w5 hown5 hg5; have HO5 := Lib.hid hown5; have HB5 := Lib.hid ((HO4.out.alloc _).grown (below_alloc HB4.out _) hg5); clear hown5 hg5 HO4 HB4 hsz)
  go_ret2
  exact ⟨_, rfl, by rw [HP.out]; exact HO5.out, HB5.out⟩
end Go.Proofs.YtekackglcapppaaGreatDoor

/-
  Of, Print and Parse of record by contracts.
-/
import Derived.Test.YtalfcbgffgikkaaRcSmall
import Derived.Test.YtalfcbgffgikkaaBytes
import Derived.BigQuiet
import Derived.Lib.QuietBelow
import Derived.BigRegion
import Derived.Deep.RegionWith
import Derived.StillTailTactics
namespace Go.Proofs.Ytalfcbgffgikkaa
open Go.RowKit

/-- A record as a value. -/
theorem rc_of (p : Int) (ls : List Tk) : rcof p ls = ⟨p, rcs (fun t => t.g) (ls.take (min ls.length 8)), rcs (fun t => t.j) (ls.take (min ls.length 8))⟩ := by
  unfold rcof
  rcases Nat.le_total ls.length 8 with h | h
  · rw [Nat.min_eq_left h, List.take_of_length_le h, List.take_length]
  · rw [Nat.min_eq_right h]
set_option maxHeartbeats 1000000 in
theorem rcof_to (p sn : Int) (v : Value) (ls : List Tk) (w : World) (hv : Els RTk 11 w v ls) (x y : Int) (hx : rcof p ls = ⟨p, x, y⟩) : Calls Try.prog 10 #[.agg #[.int .i64 p, .int .i64 sn], v] w fun e w' => e = .returned (.agg #[.int .i64 p, .int .i64 x, .int .i64 y]) ∧ Below w.heap.size w w' := by
  rw [rc_of] at hx
  obtain ⟨a, cc, ev⟩ := hv.len
  obtain ⟨K, hn⟩ : ∃ n, n = ls.length := ⟨_, rfl⟩
  obtain ⟨M, hM⟩ : ∃ n, min ls.length 8 = n := ⟨_, rfl⟩
  rw [hM] at hx
  injection hx with _ hx hy
  have hs := ((((Blk.below (blk_new w #[.int .i64 p, .int .i64 sn] 23) (below_alloc (Below.refl _ _) (.cells #[v] 24))))).below (below_alloc (Below.refl _ _) (.cells #[.int .i64 0, .int .i64 0, .int .i64 0] 26)))
  have ht := (blk_new (w.alloc (.cells #[.int .i64 p, .int .i64 sn] 23)) #[v] 24).below (below_alloc (Below.refl _ _) (.cells #[.int .i64 0, .int .i64 0, .int .i64 0] 26))
  have hz := blk_new ((w.alloc (.cells #[.int .i64 p, .int .i64 sn] 23)).alloc (.cells #[v] 24)) #[.int .i64 0, .int .i64 0, .int .i64 0] 26
  have hB := below_alloc (below_alloc (below_alloc (Below.refl _ w) (.cells #[.int .i64 p, .int .i64 sn] 23)) (.cells #[v] 24)) (.cells #[.int .i64 0, .int .i64 0, .int .i64 0] 26)
  have hvv := hv.below (w' := ((w.alloc (.cells #[.int .i64 p, .int .i64 sn] 23)).alloc (.cells #[v] 24)).alloc (.cells #[.int .i64 0, .int .i64 0, .int .i64 0] 26)) (fun _ _ _ h => h.below hB)
  simp only [World.size_alloc] at ht hz
  have HB := Lib.hid (fun C => below_alloc (below_alloc (below_alloc (Below.refl _ w) (.cells #[.int .i64 p, .int .i64 sn] 23)) (.cells #[v] 24)) (.cells C 26))
  have m1 : ∀ (ts : Array TypeId) (t : TypeId) (w : World), (Builtin.min_ ts t #[.int .i64 (K : Int), .int .i64 8]).run Try.prog w = .ok (.int .i64 (M : Int)) w := fun ts t w => by
    rw [run_min_int2, show (if (8 : Int) < (K : Int) then (8 : Int) else (K : Int)) = (M : Int) by rw [← hM, ← hn]; split <;> omega]
  have HW := Lib.hid (fun (W : World) (e : Below (((w.alloc (.cells #[.int .i64 p, .int .i64 sn] 23)).alloc (.cells #[v] 24)).alloc (.cells #[.int .i64 0, .int .i64 0, .int .i64 0] 26)).heap.size (((w.alloc (.cells #[.int .i64 p, .int .i64 sn] 23)).alloc (.cells #[v] 24)).alloc (.cells #[.int .i64 0, .int .i64 0, .int .i64 0] 26)) W) => mask_wrong v ls M (w.heap.size + 1) (by omega) (by omega) x hx W (hvv.below (fun _ _ _ h => h.below e)) ((ht.below e).cell 0 rfl))
  have HJ := Lib.hid (fun (W : World) (e : Below (((w.alloc (.cells #[.int .i64 p, .int .i64 sn] 23)).alloc (.cells #[v] 24)).alloc (.cells #[.int .i64 0, .int .i64 0, .int .i64 0] 26)).heap.size (((w.alloc (.cells #[.int .i64 p, .int .i64 sn] 23)).alloc (.cells #[v] 24)).alloc (.cells #[.int .i64 0, .int .i64 0, .int .i64 0] 26)) W) => mask_jump v ls M (w.heap.size + 1) (by omega) (by omega) y hy W (hvv.below (fun _ _ _ h => h.below e)) ((ht.below e).cell 0 rfl))
  have hmf : ∀ (fn : Fn) (first cap : Array Value) (w : World), (Instr.makeFunc fn first cap).run Try.prog w = .ok (.func fn first cap) w := fun _ _ _ _ => rfl
  obtain ⟨x0, x1⟩ := box2 hs
  have y0 := ht.cell 0 rfl
  obtain ⟨z0, z1, z2⟩ := hz.three
  have f0 := hz.frz 0
  have f1 := hz.frz 1
  have f2 := hz.frz 2
  rw [← hn] at ev
  subst ev
  clear hx hy hv hvv hs ht hz hB hn hM
  go_enter Try.func10, Try.ntmps10
  go_wp2_with fail
  go_region_with (first | (with_reducible refine ((HW.out _ (bel_drew _)).mono ?_); rintro e w1 ⟨rfl, rfl⟩) | (with_reducible refine ((HJ.out _ (bel_drew _)).mono ?_); rintro e w1 ⟨rfl, rfl⟩))
  all_goals
    go_wp2_with fail
    (try simp only [Exit.inBlock, Exit.then])
    refine bodyPost_ret (v := .agg #[.int .i64 p, .int .i64 x, .int .i64 y]) ?_ rfl ⟨rfl, ?_⟩
    · rw [results_cell1 rfl]
      go_simp
    · have h := HB.out #[.int .i64 p, .int .i64 x, .int .i64 y]
      exact ⟨h.os, h.tape, h.output, h.size, h.block⟩
theorem rcb3 (w : World) (p w1 j : Int) (r : Rc) (hr : r = ⟨p, w1, j⟩) (h : rcok r = true) : Byts (w.alloc (.cells #[.int .u8 p, .int .u8 w1, .int .u8 j] 5)) (.slice (some ⟨w.heap.size, 0, none⟩) 3 3) (rcpr r) := by
  subst hr
  obtain ⟨a, b, c, d, e, f⟩ := rcok_iff.1 h
  dsimp only at a b c d e f
  unfold rcpr
  rw [if_pos h]
  refine lit_byts w _ 3 (0, 0) _ ?_ rfl
  simp only [List.map_cons, List.map_nil, cel]
  rw [rc_byte a (by omega), rc_byte c d, rc_byte e f]
theorem rcno {r : Rc} (h : rcok r = false) : rcpr r = [] := by unfold rcpr; rw [h]; rfl
set_option maxHeartbeats 1000000 in
theorem rcprint_to (r : Rc) (p wr j : Int) (hr : r = ⟨p, wr, j⟩) (w : World) : Calls Try.prog 12 #[.agg #[.int .i64 p, .int .i64 wr, .int .i64 j]] w fun e w' => ∃ v, e = .returned v ∧ Byts w' v (rcpr r) ∧ Below w.heap.size w w' := by
  have hX := blk_new w #[.int .i64 p, .int .i64 wr, .int .i64 j] 26
  obtain ⟨x0, x1, x2⟩ := hX.three
  clear hX
  have HB := Lib.hid (below_alloc (Below.refl _ w) (.cells #[.int .i64 p, .int .i64 wr, .int .i64 j] 26))
  have HP := Lib.hid (fun (q : Bool) (h : decide (0 ≤ p ∧ p ≤ 7) = q) W => isPhase_to p q h W)
  have HW := Lib.hid (fun (q : Bool) (h : decide (0 ≤ wr ∧ wr ≤ 255) = q) W => isByte_to wr q h W)
  have HJ := Lib.hid (fun (q : Bool) (h : decide (0 ≤ j ∧ j ≤ 255) = q) W => isByte_to j q h W)
  by_cases h1 : 0 ≤ p ∧ p ≤ 7
  · have HP := Lib.hid (HP.out true (decide_eq_true h1))
    by_cases h2 : 0 ≤ wr ∧ wr ≤ 255
    · have HW := Lib.hid (HW.out true (decide_eq_true h2))
      by_cases h3 : 0 ≤ j ∧ j ≤ 255
      · have HJ := Lib.hid (HJ.out true (decide_eq_true h3))
        have hh := rcb3 (w.alloc (.cells #[.int .i64 p, .int .i64 wr, .int .i64 j] 26)) p wr j r hr (by rw [hr]; exact rcok_iff.2 ⟨h1.1, h1.2, h2.1, h2.2, h3.1, h3.2⟩)
        simp only [World.size_alloc] at hh
        have HR := Lib.hid hh
        clear hh
        have e0 : IntKind.u8.wrap p = p := by rw [rcb_wrap]; omega
        have e1 : IntKind.u8.wrap wr = wr := by rw [rcb_wrap]; omega
        have e2 : IntKind.u8.wrap j = j := by rw [rcb_wrap]; omega
        clear h1 h2 h3 hr
        go_enter Try.func12, Try.ntmps12
        go_wp2_with fail
        (with_reducible refine (HP.out _).mono ?_)
        rintro e w1 ⟨rfl, rfl⟩
        go_wp2_with fail
        (with_reducible refine (HW.out _).mono ?_)
        rintro e w1 ⟨rfl, rfl⟩
        go_wp2_with fail
        (with_reducible refine (HJ.out _).mono ?_)
        rintro e w1 ⟨rfl, rfl⟩
        go_wp2_with fail
        go_ret
        exact ⟨_, rfl, HR.out, below_alloc HB.out _⟩
      · have HJ := Lib.hid (HJ.out false (decide_eq_false h3))
        have HR := Lib.hid (show rcpr r = [] from rcno (by rw [hr, Bool.eq_false_iff]; intro h; have := rcok_iff.1 h; dsimp only at this; exact h3 ⟨this.2.2.2.2.1, this.2.2.2.2.2⟩))
        clear h1 h2 h3 hr
        go_enter Try.func12, Try.ntmps12
        go_wp2_with fail
        (with_reducible refine (HP.out _).mono ?_)
        rintro e w1 ⟨rfl, rfl⟩
        go_wp2_with fail
        (with_reducible refine (HW.out _).mono ?_)
        rintro e w1 ⟨rfl, rfl⟩
        go_wp2_with fail
        (with_reducible refine (HJ.out _).mono ?_)
        rintro e w1 ⟨rfl, rfl⟩
        go_wp2_with fail
        go_ret
        exact ⟨_, rfl, by rw [HR.out]; exact byts_nil _, HB.out⟩
    · have HW := Lib.hid (HW.out false (decide_eq_false h2))
      have HR := Lib.hid (show rcpr r = [] from rcno (by rw [hr, Bool.eq_false_iff]; intro h; have := rcok_iff.1 h; dsimp only at this; exact h2 ⟨this.2.2.1, this.2.2.2.1⟩))
      clear h1 h2 hr
      go_enter Try.func12, Try.ntmps12
      go_wp2_with fail
      (with_reducible refine (HP.out _).mono ?_)
      rintro e w1 ⟨rfl, rfl⟩
      go_wp2_with fail
      (with_reducible refine (HW.out _).mono ?_)
      rintro e w1 ⟨rfl, rfl⟩
      go_wp2_with fail
      go_ret
      exact ⟨_, rfl, by rw [HR.out]; exact byts_nil _, HB.out⟩
  · have HP := Lib.hid (HP.out false (decide_eq_false h1))
    have HR := Lib.hid (show rcpr r = [] from rcno (by rw [hr, Bool.eq_false_iff]; intro h; have := rcok_iff.1 h; dsimp only at this; exact h1 ⟨this.1, this.2.1⟩))
    clear h1 hr
    go_enter Try.func12, Try.ntmps12
    go_wp2_with fail
    (with_reducible refine (HP.out _).mono ?_)
    rintro e w1 ⟨rfl, rfl⟩
    go_wp2_with fail
    go_ret
    exact ⟨_, rfl, by rw [HR.out]; exact byts_nil _, HB.out⟩
/-- How bytes that may be a record lie. -/
theorem rcps_ways {w : World} {v : Value} {xs : List (BitVec 8)} (h : Byts w v xs) :
    (xs.length ≠ 3 ∧ rcps xs = none ∧ ∃ a n c, v = .slice a n c ∧ ((n : Int) != 3) = true) ∨
    ∃ g o c, ∃ x y z : Int, v = .slice (some ⟨g, o, none⟩) 3 c ∧ (0 ≤ x ∧ x ≤ 255) ∧ (0 ≤ y ∧ y ≤ 255) ∧ (0 ≤ z ∧ z ≤ 255) ∧ w.cell? ⟨g, o, none⟩ = some (.int .u8 x) ∧ w.cell? ⟨g, o + 1, none⟩ = some (.int .u8 y) ∧ w.cell? ⟨g, o + 2, none⟩ = some (.int .u8 z) ∧ rcps xs = if x ≤ 7 then some ⟨x, y, z⟩ else none := by
  by_cases h3 : xs.length = 3
  · right
    match xs, h3 with
    | [x, y, z], _ =>
      rcases h with ⟨h, _⟩ | ⟨g, o, cap, rfl, hc, h⟩
      · cases h
      · refine ⟨g, o, cap, (x.toNat : Int), (y.toNat : Int), (z.toNat : Int), rfl, by have := x.isLt; omega, by have := y.isLt; omega, by have := z.isLt; omega, h 0 x rfl, h 1 y rfl, h 2 z rfl, ?_⟩
        show (if x.toNat ≤ 7 then some (⟨(x.toNat : Int), (y.toNat : Int), (z.toNat : Int)⟩ : Rc) else none) = _
        by_cases h7 : x.toNat ≤ 7
        · rw [if_pos h7, if_pos (by omega)]
        · rw [if_neg h7, if_neg (by omega)]
  · left
    refine ⟨h3, ?_, ?_⟩
    · match xs, h3 with
      | [], _ => rfl
      | [_], _ => rfl
      | [_, _], _ => rfl
      | [_, _, _], h => exact absurd rfl h
      | _ :: _ :: _ :: _ :: _, _ => rfl
    · obtain ⟨a, c, e⟩ := h.len
      exact ⟨a, xs.length, c, e, by simp; omega⟩
/-- What Parse answers, as plain data. -/
def rcout (o : Option Rc) : Rc × Bool := match o with | some r => (r, true) | none => (⟨0, 0, 0⟩, false)
set_option maxHeartbeats 1000000 in
theorem rcparse_to (v : Value) (xs : List (BitVec 8)) (p wr j : Int) (q : Bool) (hr : rcout (rcps xs) = (⟨p, wr, j⟩, q)) (w : World) (hv : Byts w v xs) : Calls Try.prog 8 #[v] w fun e w' => e = .returned (.tuple #[.agg #[.int .i64 p, .int .i64 wr, .int .i64 j], .bool q]) ∧ Below w.heap.size w w' := by
  have HB := Lib.hid (fun C => below_alloc (Below.refl _ w) (.cells C 26))
  have hX := blk_new w #[.int .i64 0, .int .i64 0, .int .i64 0] 26
  obtain ⟨z0, z1, z2⟩ := hX.three
  have f0 := hX.frz 0
  have f1 := hX.frz 1
  have f2 := hX.frz 2
  clear hX
  rcases rcps_ways hv with ⟨h3, hp, a, n, c, rfl, hn⟩ | ⟨g, o, c, x, y, z, rfl, hx, hy, hz, c0, c1, c2, hp⟩
  · rw [hp] at hr
    obtain ⟨rfl, rfl, rfl, rfl⟩ : 0 = p ∧ 0 = wr ∧ 0 = j ∧ false = q := by simpa [rcout, and_assoc] using hr
    clear hr hp hv h3
    go_enter Try.func8, Try.ntmps8
    go_wp2_with fail
    (try simp only [Exit.inBlock, Exit.then])
    refine bodyPost_ret (v := .tuple #[.agg #[.int .i64 0, .int .i64 0, .int .i64 0], .bool false]) ?_ rfl ⟨rfl, ?_⟩
    · rw [results_cell_tmp rfl]
      go_simp
    · have h := HB.out #[.int .i64 0, .int .i64 0, .int .i64 0]
      exact ⟨h.os, h.tape, h.output, h.size, h.block⟩
  · have hb := below_alloc (Below.refl _ w) (.cells #[.int .i64 0, .int .i64 0, .int .i64 0] 26)
    replace c0 := below_cell hb c0
    replace c1 := below_cell hb c1
    replace c2 := below_cell hb c2
    have e0 : IntKind.i64.wrap x = x := by rw [IntKind.wrap_i64]; omega
    have e1 : IntKind.i64.wrap y = y := by rw [IntKind.wrap_i64]; omega
    have e2 : IntKind.i64.wrap z = z := by rw [IntKind.wrap_i64]; omega
    clear hb hv
    by_cases h7 : x ≤ 7
    · rw [hp, if_pos h7] at hr
      obtain ⟨rfl, rfl, rfl, rfl⟩ : x = p ∧ y = wr ∧ z = j ∧ true = q := by simpa [rcout, and_assoc] using hr
      have HP := Lib.hid (fun W => isPhase_to x true (by exact decide_eq_true ⟨hx.1, h7⟩) W)
      clear hr hp hx hy hz h7
      go_enter Try.func8, Try.ntmps8
      go_wp2_with fail
      (with_reducible refine (HP.out _).mono ?_)
      rintro e w1 ⟨rfl, rfl⟩
      go_wp2_with fail
      go_region
      all_goals
        go_wp2_with fail
        (try simp only [Exit.inBlock, Exit.then])
        refine bodyPost_ret (v := .tuple #[.agg #[.int .i64 x, .int .i64 y, .int .i64 z], .bool true]) ?_ rfl ⟨rfl, ?_⟩
        · rw [results_cell_tmp rfl]
          go_simp
        · have h := HB.out #[.int .i64 x, .int .i64 y, .int .i64 z]
          exact ⟨h.os, h.tape, h.output, h.size, h.block⟩
    · rw [hp, if_neg h7] at hr
      obtain ⟨rfl, rfl, rfl, rfl⟩ : 0 = p ∧ 0 = wr ∧ 0 = j ∧ false = q := by simpa [rcout, and_assoc] using hr
      have HP := Lib.hid (fun W => isPhase_to x false (by exact decide_eq_false (fun h => h7 h.2)) W)
      clear hr hp hx hy hz h7
      go_enter Try.func8, Try.ntmps8
      go_wp2_with fail
      (with_reducible refine (HP.out _).mono ?_)
      rintro e w1 ⟨rfl, rfl⟩
      go_wp2_with fail
      (try simp only [Exit.inBlock, Exit.then])
      refine bodyPost_ret (v := .tuple #[.agg #[.int .i64 0, .int .i64 0, .int .i64 0], .bool false]) ?_ rfl ⟨rfl, ?_⟩
      · rw [results_cell_tmp rfl]
        go_simp
      · have h := HB.out #[.int .i64 0, .int .i64 0, .int .i64 0]
        exact ⟨h.os, h.tape, h.output, h.size, h.block⟩
end Go.Proofs.Ytalfcbgffgikkaa

/-
  The document's Decode, by contract.
-/
import Derived.Test.YtdgehinmkbhjlaaDoorDec
namespace Go.Proofs.YtdgehinmkbhjlaaDoor
open Go.RowKit

/-- What Decode answers beside an error. -/
theorem rdec_sum (u : Value) (b : List (BitVec 8)) (w : World) (hu : Byts w u b) (hl : b.length ≤ 1000000) (ho : opens b = false) :
    Calls Tryd.prog 13 #[u] w fun e w' => e = .returned (.tuple #[.agg #[.int .i64 0, .int .i64 0, .slice none 0 0], .int .i64 3]) ∧ Below w.heap.size w w' := by
  have HU := Lib.hid hu
  have HL := Lib.hid hl
  have HO := Lib.hid ho
  clear hu hl ho
  have HB := Lib.hid (below_alloc (Below.refl _ w) (.cells #[.int .i64 0, .int .i64 0, .slice none 0 0] 24))
  have HU1 := Lib.hid (HU.out.below HB.out)
  have HX := Lib.hid (box_new w 0 0 (.slice none 0 0))
  go_enter Tryd.func13, Tryd.ntmps13
  go_wp2_with fail
  (with_reducible refine (ropen_f _ b _ HU1.out HL.out HO.out).mono ?_)
  rintro e w1 ⟨rfl, hb⟩
  have HX1 := Lib.hid (HX.out.below hb)
  have HB1 := Lib.hid (below_call HB.out hb)
  clear hb HX
  obtain ⟨e0, e1, e2⟩ := HX1.out.cells
  have f0 := HX1.out.frz 0
  have f1 := HX1.out.frz 1
  have f2 := HX1.out.frz 2
  go_wp2_with fail
  (try simp only [Exit.inBlock, Exit.then])
  refine bodyPost_ret (v := .tuple #[.agg #[.int .i64 0, .int .i64 0, .slice none 0 0], .int .i64 3]) ?_ rfl ⟨rfl, below_three HB1.out (Nat.le_refl _) _ _ _⟩
  rw [results_cell_tmp rfl]
  go_simp

set_option maxHeartbeats 1000000 in
theorem rdec_short (u : Value) (b ys : List (BitVec 8)) (w : World) (hu : Byts w u b) (hl : b.length ≤ 1000000) (ho : opens b = true) (hf : front b = ys) (hs : ys.length < 3) :
    Calls Tryd.prog 13 #[u] w fun e w' => e = .returned (.tuple #[.agg #[.int .i64 0, .int .i64 0, .slice none 0 0], .int .i64 2]) ∧ Below w.heap.size w w' := by
  have q1 : decide ((ys.length : Int) < 3) = true := decide_eq_true (by omega)
  clear hs
  have HU := Lib.hid hu
  have HL := Lib.hid hl
  have HO := Lib.hid ho
  have HE := Lib.hid hf
  clear hu hl ho hf
  have HB := Lib.hid (below_alloc (Below.refl _ w) (.cells #[.int .i64 0, .int .i64 0, .slice none 0 0] 24))
  have HU1 := Lib.hid (HU.out.below HB.out)
  have HX := Lib.hid (box_new w 0 0 (.slice none 0 0))
  go_enter Tryd.func13, Tryd.ntmps13
  go_wp2_with fail
  (with_reducible refine (ropen_t _ b _ HU1.out HL.out HO.out).mono ?_)
  rintro e w1 ⟨r, rfl, hown, hb⟩
  rw [HE.out] at hown
  obtain ⟨ar, cr, er⟩ := hown.byts.len
  clear hown
  subst er
  have HX1 := Lib.hid (HX.out.below hb)
  have HB1 := Lib.hid (below_call HB.out hb)
  clear hb HX
  obtain ⟨e0, e1, e2⟩ := HX1.out.cells
  have f0 := HX1.out.frz 0
  have f1 := HX1.out.frz 1
  have f2 := HX1.out.frz 2
  go_wp2_with fail
  (try simp only [Exit.inBlock, Exit.then])
  refine bodyPost_ret (v := .tuple #[.agg #[.int .i64 0, .int .i64 0, .slice none 0 0], .int .i64 2]) ?_ rfl ⟨rfl, below_three HB1.out (Nat.le_refl _) _ _ _⟩
  rw [results_cell_tmp rfl]
  go_simp

set_option maxHeartbeats 1000000 in
theorem rdec_chan (u : Value) (b xs : List (BitVec 8)) (x y z : BitVec 8) (w : World) (hu : Byts w u b) (hl : b.length ≤ 1000000) (ho : opens b = true) (hf : front b = x :: y :: z :: xs) (h1 : 15 < x.toNat) :
    Calls Tryd.prog 13 #[u] w fun e w' => e = .returned (.tuple #[.agg #[.int .i64 0, .int .i64 0, .slice none 0 0], .int .i64 2]) ∧ Below w.heap.size w w' := by
  obtain ⟨n, hn⟩ : ∃ n, n = xs.length + 3 := ⟨_, rfl⟩
  have hx1 := x.isLt
  have hz1 := z.isLt
  have q1 : decide ((n : Int) < 3) = false := decide_eq_false (by omega)
  have i0 : (0 : Int) < (n : Int) := by omega
  have i2 : (2 : Int) < (n : Int) := by omega
  have q2 : decide ((15 : Int) < (x.toNat : Int)) = true := decide_eq_true (by omega)
  have HP := Lib.hid (show 0 < n by omega)
  have HN := Lib.hid (show (x :: y :: z :: xs).length = n by simp; omega)
  clear hn h1
  have HU := Lib.hid hu
  have HL := Lib.hid hl
  have HO := Lib.hid ho
  have HE := Lib.hid hf
  clear hu hl ho hf
  have HB := Lib.hid (below_alloc (Below.refl _ w) (.cells #[.int .i64 0, .int .i64 0, .slice none 0 0] 24))
  have HU1 := Lib.hid (HU.out.below HB.out)
  have HX := Lib.hid (box_new w 0 0 (.slice none 0 0))
  go_enter Tryd.func13, Tryd.ntmps13
  go_wp2_with fail
  (with_reducible refine (ropen_t _ b _ HU1.out HL.out HO.out).mono ?_)
  rintro e w1 ⟨r, rfl, hown, hb⟩
  rw [HE.out] at hown
  obtain ⟨g, cap, rfl, hcap, hge⟩ := hown.form (by rw [HN.out]; have := HP.out; omega)
  rw [HN.out] at hown hcap ⊢
  have c0 := hown.cell HN.out.symm 0 x rfl
  have c2 := hown.cell HN.out.symm 2 z rfl
  clear hown hge
  have HX1 := Lib.hid (HX.out.below hb)
  have HB1 := Lib.hid (below_call HB.out hb)
  clear hb HX
  obtain ⟨e0, e1, e2⟩ := HX1.out.cells
  have f0 := HX1.out.frz 0
  have f1 := HX1.out.frz 1
  have f2 := HX1.out.frz 2
  go_wp2_with fail
  (try simp only [Exit.inBlock, Exit.then])
  refine bodyPost_ret (v := .tuple #[.agg #[.int .i64 0, .int .i64 0, .slice none 0 0], .int .i64 2]) ?_ rfl ⟨rfl, below_three HB1.out (Nat.le_refl _) _ _ _⟩
  rw [results_cell_tmp rfl]
  go_simp

set_option maxHeartbeats 1000000 in
theorem rdec_count (u : Value) (b xs : List (BitVec 8)) (x y z : BitVec 8) (w : World) (hu : Byts w u b) (hl : b.length ≤ 1000000) (ho : opens b = true) (hf : front b = x :: y :: z :: xs) (h1 : x.toNat ≤ 15) (h2 : 16 < z.toNat) :
    Calls Tryd.prog 13 #[u] w fun e w' => e = .returned (.tuple #[.agg #[.int .i64 0, .int .i64 0, .slice none 0 0], .int .i64 2]) ∧ Below w.heap.size w w' := by
  obtain ⟨n, hn⟩ : ∃ n, n = xs.length + 3 := ⟨_, rfl⟩
  have hx1 := x.isLt
  have hz1 := z.isLt
  have q1 : decide ((n : Int) < 3) = false := decide_eq_false (by omega)
  have i0 : (0 : Int) < (n : Int) := by omega
  have i2 : (2 : Int) < (n : Int) := by omega
  have q2 : decide ((15 : Int) < (x.toNat : Int)) = false := decide_eq_false (by omega)
  have q3 : decide ((16 : Int) < (z.toNat : Int)) = true := decide_eq_true (by omega)
  have HP := Lib.hid (show 0 < n by omega)
  have HN := Lib.hid (show (x :: y :: z :: xs).length = n by simp; omega)
  clear hn h1 h2
  have HU := Lib.hid hu
  have HL := Lib.hid hl
  have HO := Lib.hid ho
  have HE := Lib.hid hf
  clear hu hl ho hf
  have HB := Lib.hid (below_alloc (Below.refl _ w) (.cells #[.int .i64 0, .int .i64 0, .slice none 0 0] 24))
  have HU1 := Lib.hid (HU.out.below HB.out)
  have HX := Lib.hid (box_new w 0 0 (.slice none 0 0))
  go_enter Tryd.func13, Tryd.ntmps13
  go_wp2_with fail
  (with_reducible refine (ropen_t _ b _ HU1.out HL.out HO.out).mono ?_)
  rintro e w1 ⟨r, rfl, hown, hb⟩
  rw [HE.out] at hown
  obtain ⟨g, cap, rfl, hcap, hge⟩ := hown.form (by rw [HN.out]; have := HP.out; omega)
  rw [HN.out] at hown hcap ⊢
  have c0 := hown.cell HN.out.symm 0 x rfl
  have c2 := hown.cell HN.out.symm 2 z rfl
  clear hown hge
  have HX1 := Lib.hid (HX.out.below hb)
  have HB1 := Lib.hid (below_call HB.out hb)
  clear hb HX
  obtain ⟨e0, e1, e2⟩ := HX1.out.cells
  have f0 := HX1.out.frz 0
  have f1 := HX1.out.frz 1
  have f2 := HX1.out.frz 2
  go_wp2_with fail
  (try simp only [Exit.inBlock, Exit.then])
  refine bodyPost_ret (v := .tuple #[.agg #[.int .i64 0, .int .i64 0, .slice none 0 0], .int .i64 2]) ?_ rfl ⟨rfl, below_three HB1.out (Nat.le_refl _) _ _ _⟩
  rw [results_cell_tmp rfl]
  go_simp

set_option maxHeartbeats 1000000 in
theorem rdec_many (u : Value) (b xs : List (BitVec 8)) (x y z : BitVec 8) (w : World) (hu : Byts w u b) (hl : b.length ≤ 1000000) (ho : opens b = true) (hf : front b = x :: y :: z :: xs) (h1 : x.toNat ≤ 15) (h2 : z.toNat ≤ 16) (h3 : xs.length ≠ z.toNat) :
    Calls Tryd.prog 13 #[u] w fun e w' => e = .returned (.tuple #[.agg #[.int .i64 0, .int .i64 0, .slice none 0 0], .int .i64 2]) ∧ Below w.heap.size w w' := by
  obtain ⟨n, hn⟩ : ∃ n, n = xs.length + 3 := ⟨_, rfl⟩
  have hx1 := x.isLt
  have hz1 := z.isLt
  have q1 : decide ((n : Int) < 3) = false := decide_eq_false (by omega)
  have i0 : (0 : Int) < (n : Int) := by omega
  have i2 : (2 : Int) < (n : Int) := by omega
  have q2 : decide ((15 : Int) < (x.toNat : Int)) = false := decide_eq_false (by omega)
  have q3 : decide ((16 : Int) < (z.toNat : Int)) = false := decide_eq_false (by omega)
  have q4 : ((n : Int) != 3 + (z.toNat : Int)) = true := by simp; omega
  have HP := Lib.hid (show 0 < n by omega)
  have HN := Lib.hid (show (x :: y :: z :: xs).length = n by simp; omega)
  clear hn h1 h2 h3
  have HU := Lib.hid hu
  have HL := Lib.hid hl
  have HO := Lib.hid ho
  have HE := Lib.hid hf
  clear hu hl ho hf
  have HB := Lib.hid (below_alloc (Below.refl _ w) (.cells #[.int .i64 0, .int .i64 0, .slice none 0 0] 24))
  have HU1 := Lib.hid (HU.out.below HB.out)
  have HX := Lib.hid (box_new w 0 0 (.slice none 0 0))
  go_enter Tryd.func13, Tryd.ntmps13
  go_wp2_with fail
  (with_reducible refine (ropen_t _ b _ HU1.out HL.out HO.out).mono ?_)
  rintro e w1 ⟨r, rfl, hown, hb⟩
  rw [HE.out] at hown
  obtain ⟨g, cap, rfl, hcap, hge⟩ := hown.form (by rw [HN.out]; have := HP.out; omega)
  rw [HN.out] at hown hcap ⊢
  have c0 := hown.cell HN.out.symm 0 x rfl
  have c2 := hown.cell HN.out.symm 2 z rfl
  clear hown hge
  have HX1 := Lib.hid (HX.out.below hb)
  have HB1 := Lib.hid (below_call HB.out hb)
  clear hb HX
  obtain ⟨e0, e1, e2⟩ := HX1.out.cells
  have f0 := HX1.out.frz 0
  have f1 := HX1.out.frz 1
  have f2 := HX1.out.frz 2
  go_wp2_with fail
  (try simp only [Exit.inBlock, Exit.then])
  refine bodyPost_ret (v := .tuple #[.agg #[.int .i64 0, .int .i64 0, .slice none 0 0], .int .i64 2]) ?_ rfl ⟨rfl, below_three HB1.out (Nat.le_refl _) _ _ _⟩
  rw [results_cell_tmp rfl]
  go_simp

theorem rdec_form (u : Value) (b : List (BitVec 8)) (w : World) (hu : Byts w u b) (hl : b.length ≤ 1000000) (ho : opens b = true) (hf : ¬ Form (front b)) :
    Calls Tryd.prog 13 #[u] w fun e w' => e = .returned (.tuple #[.agg #[.int .i64 0, .int .i64 0, .slice none 0 0], .int .i64 2]) ∧ Below w.heap.size w w' := by
  match hy : front b with
  | [] => exact rdec_short u b _ w hu hl ho hy (by simp)
  | [_] => exact rdec_short u b _ w hu hl ho hy (by simp)
  | [_, _] => exact rdec_short u b _ w hu hl ho hy (by simp)
  | x :: y :: z :: xs =>
    rw [hy] at hf
    by_cases h1 : x.toNat ≤ 15
    · by_cases h2 : z.toNat ≤ 16
      · exact rdec_many u b xs x y z w hu hl ho hy h1 h2 fun h3 => hf ⟨h1, h2, h3⟩
      · exact rdec_count u b xs x y z w hu hl ho hy h1 (by omega)
    · exact rdec_chan u b xs x y z w hu hl ho hy (by omega)

set_option maxHeartbeats 1000000 in
theorem rdec_yes (u : Value) (b : List (BitVec 8)) (x y : BitVec 8) (xs : List (BitVec 8)) (w : World) (hu : Byts w u b) (hl : b.length ≤ 1000000) (ho : opens b = true) (hf : front b = frm x y xs) (hx : x.toNat ≤ 15) (hxl : xs.length ≤ 16) :
    Calls Tryd.prog 13 #[u] w fun e w' => ∃ v, e = .returned (.tuple #[.agg #[.int .i64 (x.toNat : Int), .int .i64 (y.toNat : Int), v], .int .i64 0]) ∧ Byts w' v xs ∧ Below w.heap.size w w' := by
  obtain ⟨n, hn⟩ : ∃ n, n = xs.length + 3 := ⟨_, rfl⟩
  have hz : (BitVec.ofNat 8 xs.length).toNat = xs.length := by simp; omega
  have q1 : decide ((n : Int) < 3) = false := decide_eq_false (by omega)
  have i0 : (0 : Int) < (n : Int) := by omega
  have i1 : (1 : Int) < (n : Int) := by omega
  have i2 : (2 : Int) < (n : Int) := by omega
  have q2 : decide ((15 : Int) < (x.toNat : Int)) = false := decide_eq_false (by omega)
  have q3 : decide ((16 : Int) < (xs.length : Int)) = false := decide_eq_false (by omega)
  have q4 : ((n : Int) != 3 + (xs.length : Int)) = false := by simp; omega
  have hx1 := x.isLt
  have hy1 := y.isLt
  have HP := Lib.hid (show 3 ≤ n by omega)
  have HM := Lib.hid (show n - 3 = xs.length by omega)
  have HN := Lib.hid (show (frm x y xs).length = n by simp [frm]; omega)
  have HZ := Lib.hid hz
  have HXL := Lib.hid hxl
  have h300 : (xs.length : Int) ≤ 300 := by omega
  clear hn hx hxl hz
  have HU := Lib.hid hu
  have HL := Lib.hid hl
  have HO := Lib.hid ho
  have HE := Lib.hid hf
  clear hu hl ho hf
  have HB := Lib.hid (below_alloc (Below.refl _ w) (.cells #[.int .i64 0, .int .i64 0, .slice none 0 0] 24))
  have HU1 := Lib.hid (HU.out.below HB.out)
  have HX := Lib.hid (box_new w 0 0 (.slice none 0 0))
  go_enter Tryd.func13, Tryd.ntmps13
  go_wp2_with fail
  (with_reducible refine (ropen_t _ b _ HU1.out HL.out HO.out).mono ?_)
  rintro e w1 ⟨r, rfl, hown, hb⟩
  rw [HE.out] at hown
  obtain ⟨g, cap, rfl, hcap, hge⟩ := hown.form (by rw [HN.out]; have := HP.out; omega)
  rw [HN.out] at hown hcap ⊢
  have HGE := Lib.hid (show g ≠ w.heap.size by have := HX.out.lt; omega)
  have HR := Lib.hid hown
  have c0 := hown.cell HN.out.symm 0 x rfl
  have c1 := hown.cell HN.out.symm 1 y rfl
  have c2 := hown.cell HN.out.symm 2 (BitVec.ofNat 8 xs.length) rfl
  rw [HZ.out] at c2
  clear hown hge
  have HX1 := Lib.hid (HX.out.below hb)
  have HB1 := Lib.hid (below_call HB.out hb)
  clear hb HX
  obtain ⟨e0, e1, e2⟩ := HX1.out.cells
  have f0 := HX1.out.frz 0
  have f1 := HX1.out.frz 1
  have f2 := HX1.out.frz 2
  obtain ⟨v2, hrun, hv2, hbl⟩ := cutR HR.out.byts 3 (by rw [HN.out]; exact HP.out)
  have hv2 : Byts w1 v2 xs := hv2
  obtain ⟨a2, cap2, rfl⟩ := hv2.len
  have HV2 := Lib.hid hv2
  have HBL := Lib.hid (show ∀ a n c, Value.slice a2 xs.length cap2 = .slice (some a) n c → a.block ≠ w.heap.size from fun a n c h => by
    obtain ⟨a', n', c', e, e2⟩ := hbl a n c h
    cases e
    rw [e2]
    exact HGE.out)
  rw [show ((3 : Nat) : Int) = 3 from rfl] at hrun
  clear hv2 hbl
  go_wp2_with fail
  go_region
  go_wp2_with fail
  (try simp only [Exit.inBlock, Exit.then])
  refine bodyPost_ret (v := .tuple #[.agg #[.int .i64 (x.toNat : Int), .int .i64 (y.toNat : Int), .slice a2 xs.length cap2], .int .i64 0]) ?_ rfl ⟨_, rfl, HV2.out.apart (Apart.drew (apart_three _ _ _ _ _)) HBL.out, below_drewN (below_three HB1.out (Nat.le_refl _) _ _ _) 1⟩
  rw [results_cell_tmp rfl]
  go_simp
end Go.Proofs.YtdgehinmkbhjlaaDoor

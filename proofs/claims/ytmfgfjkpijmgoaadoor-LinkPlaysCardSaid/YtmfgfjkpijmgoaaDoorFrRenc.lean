/-
  The document's Encode, by contract.
-/
import Derived.Test.YtmfgfjkpijmgoaaDoorFrBox
import Derived.Test.YtmfgfjkpijmgoaaDoorCrcRseal
namespace Go.Proofs.YtmfgfjkpijmgoaaDoor
open Go.RowKit

set_option maxHeartbeats 1000000 in
theorem renc_yes (x y : BitVec 8) (u : Value) (xs : List (BitVec 8)) (w : World) (hu : Byts w u xs) (hx : x.toNat ≤ 15) (hl : xs.length ≤ 16) :
    Calls Tryd.prog 22 #[.agg #[.int .i64 (x.toNat : Int), .int .i64 (y.toNat : Int), u]] w fun e w' => ∃ r, e = .returned (.tuple #[r, .int .i64 0]) ∧ Own w' w.heap.size r (sealed (frm x y xs)) ∧ Below w.heap.size w w' := by
  obtain ⟨av, cv, ev⟩ := hu.len
  have HU := Lib.hid hu
  have hy := y.isLt
  have HL := Lib.hid hl
  have HH := Lib.hid (head_cel x y xs.length hl)
  have k1 : IntKind.u8.wrap (x.toNat : Int) = (x.toNat : Int) := by simp [IntKind.wrap, IntKind.bits, IntKind.signed]; omega
  have k2 : IntKind.u8.wrap (y.toNat : Int) = (y.toNat : Int) := by simp [IntKind.wrap, IntKind.bits, IntKind.signed]; omega
  have k3 : IntKind.u8.wrap (xs.length : Int) = (xs.length : Int) := by simp [IntKind.wrap, IntKind.bits, IntKind.signed]; omega
  have q1 : decide ((x.toNat : Int) < 0) = false := decide_eq_false (by omega)
  have q2 : decide ((15 : Int) < (x.toNat : Int)) = false := decide_eq_false (by omega)
  have q3 : decide ((y.toNat : Int) < 0) = false := decide_eq_false (by omega)
  have q4 : decide ((255 : Int) < (y.toNat : Int)) = false := decide_eq_false (by omega)
  have q5 : decide ((16 : Int) < (xs.length : Int)) = false := decide_eq_false (by omega)
  clear hu hx hy hl
  subst ev
  have HB := Lib.hid (below_alloc (Below.refl _ w) (.cells #[.int .i64 (x.toNat : Int), .int .i64 (y.toNat : Int), .slice av xs.length cv] 30))
  obtain ⟨d0, d1, d2⟩ := (box_new w (x.toNat : Int) (y.toNat : Int) (.slice av xs.length cv)).cells
  generalize hw1 : w.alloc (.cells #[.int .i64 (x.toNat : Int), .int .i64 (y.toNat : Int), .slice av xs.length cv] 30) = w1 at *
  have HO0 := own_lit w1 w1.heap.size [x, y, BitVec.ofNat 8 xs.length] (Nat.le_refl _) (by unfold maxLen; simp)
  rw [← HH.out, show ([x, y, BitVec.ofNat 8 xs.length] : List (BitVec 8)).length = 3 from rfl] at HO0
  have HO := Lib.hid HO0
  clear HO0
  have HB1 := Lib.hid (below_alloc (Below.refl _ w1) (.cells #[.int .u8 (x.toNat : Int), .int .u8 (y.toNat : Int), .int .u8 (xs.length : Int)] 5))
  have HU1 := Lib.hid ((HU.out.below HB.out).below HB1.out)
  have d2a := below_cell HB1.out d2
  have hsz := HB1.out.size
  have HLL := Lib.hid (show ([x, y, BitVec.ofNat 8 xs.length] : List (BitVec 8)).length + xs.length ≤ 140737488355328 by have := HL.out; simp; omega)
  go_enter Tryd.func22, Tryd.ntmps22
  go_wp2_with (first | (rw [hw1]) | (at_builtin; refine wpList_app rfl _ _ rfl w1.heap.size _ [x, y, BitVec.ofNat 8 xs.length] rfl HO.out _ xs rfl HU1.out HLL.out hsz ?_; intro v1 w2 hown1 hg1; have HO1 := Lib.hid hown1; have HB2 := Lib.hid (HO.out.grown HB1.out hg1); clear hown1 hg1 HO HB1 HU1 hsz))
  have HB3 := Lib.hid (below_call HB.out HB2.out)
  (with_reducible refine (rseal_any _ (frm x y xs) _ HO1.out.byts (by have := HL.out; simp [frm]; omega)).mono ?_)
  rintro e w3 ⟨r, rfl, hown, hb⟩
  have HR := Lib.hid (hown.mono HB3.out.size)
  have HB4 := Lib.hid (below_call HB3.out hb)
  clear hown hb
  go_wp2_with fail
  go_ret2
  exact ⟨_, rfl, HR.out, HB4.out⟩
theorem renc_no (c q : Int) (u : Value) (xs : List (BitVec 8)) (w : World) (hu : Byts w u xs) (h : ¬ Fit c q xs.length) :
    Calls Tryd.prog 22 #[.agg #[.int .i64 c, .int .i64 q, u]] w fun e w' => e = .returned (.tuple #[.slice none 0 0, .int .i64 1]) ∧ Below w.heap.size w w' := by
  obtain ⟨av, cv, ev⟩ := hu.len
  have HF := Lib.hid h
  clear hu h
  subst ev
  by_cases h1 : c < 0
  · have q1 : decide (c < 0) = true := decide_eq_true h1
    clear h1
    go_enter Tryd.func22, Tryd.ntmps22
    go_wp2_with fail
    go_ret2
    exact ⟨rfl, below_alloc (Below.refl _ w) _⟩
  · have q1 : decide (c < 0) = false := decide_eq_false h1
    by_cases h2 : (15 : Int) < c
    · have q2 : decide ((15 : Int) < c) = true := decide_eq_true h2
      clear h1 h2
      go_enter Tryd.func22, Tryd.ntmps22
      go_wp2_with fail
      go_ret2
      exact ⟨rfl, below_alloc (Below.refl _ w) _⟩
    · have q2 : decide ((15 : Int) < c) = false := decide_eq_false h2
      by_cases h3 : q < 0
      · have q3 : decide (q < 0) = true := decide_eq_true h3
        clear h1 h2 h3
        go_enter Tryd.func22, Tryd.ntmps22
        go_wp2_with fail
        go_ret2
        exact ⟨rfl, below_alloc (Below.refl _ w) _⟩
      · have q3 : decide (q < 0) = false := decide_eq_false h3
        by_cases h4 : (255 : Int) < q
        · have q4 : decide ((255 : Int) < q) = true := decide_eq_true h4
          clear h1 h2 h3 h4
          go_enter Tryd.func22, Tryd.ntmps22
          go_wp2_with fail
          go_ret2
          exact ⟨rfl, below_alloc (Below.refl _ w) _⟩
        · have q4 : decide ((255 : Int) < q) = false := decide_eq_false h4
          have q5 : decide ((16 : Int) < (xs.length : Int)) = true := decide_eq_true (by
            refine Int.lt_of_not_ge fun h5 => HF.out ⟨by omega, by omega, by omega, by omega, by omega⟩)
          clear h1 h2 h3 h4
          go_enter Tryd.func22, Tryd.ntmps22
          go_wp2_with fail
          go_ret2
          exact ⟨rfl, below_alloc (Below.refl _ w) _⟩
end Go.Proofs.YtmfgfjkpijmgoaaDoor

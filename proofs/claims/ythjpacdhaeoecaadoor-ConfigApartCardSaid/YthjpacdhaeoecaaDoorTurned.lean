/-
  The walk of crossbucklaw08.ConfigTurned: true, whatever it is given.
-/
import Derived.Test.YthjpacdhaeoecaaDoorHead
import Derived.Test.YthjpacdhaeoecaaDoorTurn
import Derived.Test.YthjpacdhaeoecaaDoorFlips
namespace Go.Proofs.YthjpacdhaeoecaaDoor
open Go.RowKit

theorem nzero8 {a : BitVec 8} (h : a ≠ 0#8) : ((a.toNat : Int) == 0) = false := by
  simp
  intro he
  exact h (BitVec.eq_of_toNat_eq (by simpa using he))
theorem turned_code {xs : List (BitVec 8)} {i : Nat} {x y : BitVec 8} (h : (sealed xs)[i]? = some x) (hy : y ≠ 0#8) : dcode ((sealed xs).set i (x ^^^ y)) = 3 := by
  unfold dcode
  rw [turned_no (opens_sealed xs) h hy]
  rfl
theorem cx_new (w : World) (v : Value) (T : Nat → Int) (ls : List Ln) (h : Els RLn 5 w v ls) : Cx (w.alloc (.cells (cfc v T) 26)) w.heap.size v T ls := ⟨blk_new w _ _, h.below (fun _ _ _ h => h.below (below_alloc (Below.refl _ w) _))⟩
/-- What the walk of a law over a crossing begins with. -/
theorem cells11 {w : World} {b : Nat} {v : Value} {T : Nat → Int} {ls : List Ln} (h : Cx w b v T ls) : w.cell? ⟨b, 0, none⟩ = some v ∧ w.cell? ⟨b, 1, none⟩ = some (.int .i64 (T 0)) ∧ w.cell? ⟨b, 2, none⟩ = some (.int .i64 (T 1)) ∧ w.cell? ⟨b, 3, none⟩ = some (.int .i64 (T 2)) ∧ w.cell? ⟨b, 4, none⟩ = some (.int .i64 (T 3)) ∧ w.cell? ⟨b, 5, none⟩ = some (.int .i64 (T 4)) ∧ w.cell? ⟨b, 6, none⟩ = some (.int .i64 (T 5)) ∧ w.cell? ⟨b, 7, none⟩ = some (.int .i64 (T 6)) ∧ w.cell? ⟨b, 8, none⟩ = some (.int .i64 (T 7)) ∧ w.cell? ⟨b, 9, none⟩ = some (.int .i64 (T 8)) ∧ w.cell? ⟨b, 10, none⟩ = some (.int .i64 (T 9)) := h.blk.eleven

set_option maxHeartbeats 4000000 in
set_option maxRecDepth 10000 in
theorem turned_long (a : Option Addr) (n c : Nat) (T : Nat → Int) (p : Int) (y : BitVec 8) (hl : 20 < n ∨ y = 0#8) (w : World) :
    Calls Tryd.prog 5 #[.agg (cfc (.slice a n c) T), .int .i64 p, .int .u8 (y.toNat : Int)] w fun e w' => e = .returned (.bool true) ∧ Below w.heap.size w w' := by
  have HB := Lib.hid (below_alloc (Below.refl _ w) (.cells (cfc (.slice a n c) T) 26))
  have HX := Lib.hid (blk_new w (cfc (.slice a n c) T) 26)
  unfold cfc at *
  go_enter Tryd.func5, Tryd.ntmps5
  go_wp2_with fail
  (with_reducible refine (small_true _).mono ?_)
  rintro e w1 ⟨rfl, hb⟩
  have hc0 := (HX.out.below hb).cell 0 (u := .slice a n c) rfl
  have HB1 := Lib.hid (below_call HB.out hb)
  clear hb HB HX
  by_cases h1 : 20 < n
  · have q0 : decide ((20 : Int) < (n : Int)) = true := decide_eq_true (by omega)
    clear h1 hl
    go_wp2_with fail
    go_ret
    exact ⟨rfl, HB1.out⟩
  · have q0 : decide ((20 : Int) < (n : Int)) = false := decide_eq_false (by omega)
    have q1 : ((y.toNat : Int) == 0) = true := by rcases hl with h | h; exact absurd h h1; rw [h]; rfl
    clear h1 hl
    go_wp2_with fail
    go_ret
    exact ⟨rfl, HB1.out⟩

set_option maxHeartbeats 4000000 in
set_option maxRecDepth 10000 in
theorem turned_no_c (a : Option Addr) (n c : Nat) (T : Nat → Int) (ls : List Ln) (p : Int) (y : BitVec 8) (hn : n ≤ 20) (hy : y ≠ 0#8) (hok : ¬ OkC T ls) (w : World) (hv : Els RLn 5 w (.slice a n c) ls) :
    Calls Tryd.prog 5 #[.agg (cfc (.slice a n c) T), .int .i64 p, .int .u8 (y.toNat : Int)] w fun e w' => e = .returned (.bool true) ∧ Below w.heap.size w w' := by
  have HB := Lib.hid (below_alloc (Below.refl _ w) (.cells (cfc (.slice a n c) T) 26))
  have HX := Lib.hid (cx_new w (.slice a n c) T ls hv)
  have HE := Lib.hid (fun w h => enc_no (.slice a n c) T ls hok w h)
  have q0 : decide ((20 : Int) < (n : Int)) = false := decide_eq_false (by omega)
  have q1 := nzero8 hy
  clear hv hok hy
  unfold cfc at *
  go_enter Tryd.func5, Tryd.ntmps5
  go_wp2_with fail
  (with_reducible refine (small_true _).mono ?_)
  rintro e w1 ⟨rfl, hb⟩
  obtain ⟨c0, c1, c2, c3, c4, c5, c6, c7, c8, c9, c10⟩ := cells11 (HX.out.below hb)
  have HX1 := Lib.hid (HX.out.below hb)
  have HB1 := Lib.hid (below_call HB.out hb)
  clear hb HB HX
  go_wp2_with fail
  (with_reducible refine (HE.out _ HX1.out.els).mono ?_)
  rintro e w2 ⟨r, rfl, hr, hb⟩
  obtain ⟨g, rfl, _⟩ := hr.not (by decide)
  have HB2 := Lib.hid (below_call HB1.out hb)
  clear hb hr HB1 HX1 HE c0 c1 c2 c3 c4 c5 c6 c7 c8 c9 c10
  go_wp2_with fail
  go_ret
  exact ⟨rfl, HB2.out⟩

set_option maxHeartbeats 4000000 in
set_option maxRecDepth 10000 in
theorem turned_out (a : Option Addr) (n c : Nat) (T : Nat → Int) (ls : List Ln) (p : Int) (y : BitVec 8) (hn : n ≤ 20) (hy : y ≠ 0#8) (hok : OkC T ls) (hp : p < 0 ∨ ((sealed (cbytes T ls)).length : Int) ≤ p) (w : World) (hv : Els RLn 5 w (.slice a n c) ls) :
    Calls Tryd.prog 5 #[.agg (cfc (.slice a n c) T), .int .i64 p, .int .u8 (y.toNat : Int)] w fun e w' => e = .returned (.bool true) ∧ Below w.heap.size w w' := by
  have HB := Lib.hid (below_alloc (Below.refl _ w) (.cells (cfc (.slice a n c) T) 26))
  have HX := Lib.hid (cx_new w (.slice a n c) T ls hv)
  have HE := Lib.hid (fun w h => enc_yes (.slice a n c) T ls hok w h)
  have q0 : decide ((20 : Int) < (n : Int)) = false := decide_eq_false (by omega)
  have q1 := nzero8 hy
  obtain ⟨bs, hbs⟩ : ∃ bs, bs = sealed (cbytes T ls) := ⟨_, rfl⟩
  rw [← hbs] at hp HE
  clear hv hok hy hbs
  unfold cfc at *
  go_enter Tryd.func5, Tryd.ntmps5
  go_wp2_with fail
  (with_reducible refine (small_true _).mono ?_)
  rintro e w1 ⟨rfl, hb⟩
  obtain ⟨c0, c1, c2, c3, c4, c5, c6, c7, c8, c9, c10⟩ := cells11 (HX.out.below hb)
  have HX1 := Lib.hid (HX.out.below hb)
  have HB1 := Lib.hid (below_call HB.out hb)
  clear hb HB HX
  go_wp2_with fail
  (with_reducible refine (HE.out _ HX1.out.els).mono ?_)
  rintro e w2 ⟨r, rfl, hown, hb⟩
  obtain ⟨a2, k2, e2⟩ := hown.byts.len
  subst e2
  have HB2 := Lib.hid (below_call HB1.out hb)
  clear hb hown HB1 HX1 HE c0 c1 c2 c3 c4 c5 c6 c7 c8 c9 c10
  by_cases h1 : p < 0
  · have q2 : decide (p < 0) = true := decide_eq_true h1
    clear h1 hp
    go_wp2_with fail
    go_ret
    exact ⟨rfl, HB2.out⟩
  · have q2 : decide (p < 0) = false := decide_eq_false h1
    have q3 : decide ((bs.length : Int) ≤ p) = true := decide_eq_true (by omega)
    clear h1 hp
    go_wp2_with fail
    go_ret
    exact ⟨rfl, HB2.out⟩

set_option maxHeartbeats 4000000 in
set_option maxRecDepth 10000 in
theorem turned_in (a : Option Addr) (n c : Nat) (T : Nat → Int) (ls : List Ln) (k : Nat) (y : BitVec 8) (hn : n ≤ 20) (hy : y ≠ 0#8) (hok : OkC T ls) (hk : k < (sealed (cbytes T ls)).length) (w : World) (hv : Els RLn 5 w (.slice a n c) ls) :
    Calls Tryd.prog 5 #[.agg (cfc (.slice a n c) T), .int .i64 (k : Int), .int .u8 (y.toNat : Int)] w fun e w' => e = .returned (.bool true) ∧ Below w.heap.size w w' := by
  have HB := Lib.hid (below_alloc (Below.refl _ w) (.cells (cfc (.slice a n c) T) 26))
  have HX := Lib.hid (cx_new w (.slice a n c) T ls hv)
  have HE := Lib.hid (fun w h => enc_yes (.slice a n c) T ls hok w h)
  have q0 : decide ((20 : Int) < (n : Int)) = false := decide_eq_false (by omega)
  have q1 := nzero8 hy
  have hll : (sealed (cbytes T ls)).length ≤ 1000 := by
    unfold sealed
    rw [List.length_append, cbytes_length]
    have := hok.1
    simp
    omega
  obtain ⟨x, hx⟩ : ∃ x, (sealed (cbytes T ls))[k]? = some x := ⟨_, List.getElem?_eq_getElem hk⟩
  obtain ⟨z, hz⟩ : ∃ z, z = x ^^^ y := ⟨_, rfl⟩
  have hd := turned_code hx hy
  rw [← hz] at hd
  have HD := Lib.hid hd
  obtain ⟨bs, hbs⟩ : ∃ bs, bs = sealed (cbytes T ls) := ⟨_, rfl⟩
  rw [← hbs] at hk HE hx hll HD
  obtain ⟨L, hL⟩ : ∃ L, L = bs.length := ⟨_, rfl⟩
  have HL := Lib.hid hL
  have HXX := Lib.hid hx
  have HLL := Lib.hid hll
  rw [← hL] at hk
  have q2 : decide ((k : Int) < 0) = false := decide_eq_false (by omega)
  have q3 : decide ((L : Int) ≤ (k : Int)) = false := decide_eq_false (by omega)
  have hkI : (k : Int) < (L : Int) := by omega
  have hxr := xor8 x y
  rw [← hz] at hxr
  have hxl := x.isLt
  have hyl := y.isLt
  have hxyl := z.isLt
  clear hv hok hy hbs hL hx hll hz hd
  unfold cfc at *
  go_enter Tryd.func5, Tryd.ntmps5
  go_wp2_with fail
  (with_reducible refine (small_true _).mono ?_)
  rintro e w1 ⟨rfl, hb⟩
  obtain ⟨c0, c1, c2, c3, c4, c5, c6, c7, c8, c9, c10⟩ := cells11 (HX.out.below hb)
  have HX1 := Lib.hid (HX.out.below hb)
  have HB1 := Lib.hid (below_call HB.out hb)
  clear hb HB HX
  go_wp2_with fail
  (with_reducible refine (HE.out _ HX1.out.els).mono ?_)
  rintro e w2 ⟨r, rfl, hown, hb⟩
  obtain ⟨g, cap, e2, hcap, hg⟩ := hown.form (by rw [← HL.out]; omega)
  rw [← HL.out] at e2 hcap
  subst e2
  have hcell := hown.cell HL.out k x HXX.out
  have hfrz := hown.frozen HL.out k
  have hset := Lib.hid (hown.set_ HL.out k z)
  have hgw : w.heap.size ≤ g := Nat.le_trans HB1.out.size hg
  have HB2 := Lib.hid (bel_set (below_call HB1.out hb) hgw k (.int .u8 (z.toNat : Int)))
  clear hb hown HB1 HX1 HE c0 c1 c2 c3 c4 c5 c6 c7 c8 c9 c10
  go_wp2_with fail
  (with_reducible refine (dec_bad _ _ 3 HD.out.symm (by decide) _ hset.out.byts (by rw [List.length_set]; exact HLL.out)).mono ?_)
  rintro e w3 ⟨a3, c3, g3, rfl, hc, hb⟩
  have HK := Lib.hid (below_alloc (Below.refl _ w3) (.cells (cft (.slice a3 0 c3) 0) 26))
  have HC3 := Lib.hid (below_cell HK.out hc)
  have HB3 := Lib.hid (below_call HB2.out (below_call hb HK.out))
  clear hc hb HB2 HK hset hcell hfrz hxr
  go_wp2_with fail
  (with_reducible refine (code_place g3 3 _ HC3.out).mono ?_)
  rintro e w4 ⟨rfl, rfl⟩
  go_wp2_with fail
  go_ret
  exact ⟨rfl, HB3.out⟩

theorem lawTurned_any (u : Value) (T : Nat → Int) (ls : List Ln) (p : Int) (y : BitVec 8) (w : World) (hv : Els RLn 5 w u ls) :
    Calls Tryd.prog 5 #[.agg (cfc u T), .int .i64 p, .int .u8 (y.toNat : Int)] w fun e w' => e = .returned (.bool true) ∧ Below w.heap.size w w' := by
  obtain ⟨a, c, e⟩ := hv.len
  subst e
  by_cases h : 20 < ls.length ∨ y = 0#8
  · exact turned_long a _ c T p y h w
  · have hn : ls.length ≤ 20 := by omega
    have hy : y ≠ 0#8 := fun e => h (.inr e)
    by_cases hok : OkC T ls
    · by_cases hp : p < 0 ∨ ((sealed (cbytes T ls)).length : Int) ≤ p
      · exact turned_out a _ c T ls p y hn hy hok hp w hv
      · obtain ⟨k, rfl⟩ : ∃ k : Nat, p = (k : Int) := ⟨p.toNat, by omega⟩
        exact turned_in a _ c T ls k y hn hy hok (by omega) w hv
    · exact turned_no_c a _ c T ls p y hn hy hok w hv
end Go.Proofs.YthjpacdhaeoecaaDoor

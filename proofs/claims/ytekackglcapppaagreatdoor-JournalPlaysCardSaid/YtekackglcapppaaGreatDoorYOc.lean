/-
  OcMath OcRd OcTake OcPut4 OcRest OcRnum OcRrest OcRput: merged.
-/
import GoSem.Claim
import Derived.Laws.ShiftsVarLaws
import Derived.Test.YtekackglcapppaaGreatDoorBytes
/-
  Numbers of bytes, the highest first: plain mathematics.
-/
namespace Go.Proofs.YtekackglcapppaaGreatDoor

/-- The number of some bytes, the highest first. -/
def num (xs : List (BitVec 8)) : Nat := xs.foldl (fun n x => n * 256 + x.toNat) 0
theorem num_nil : num [] = 0 := rfl
theorem num_snoc (xs : List (BitVec 8)) (x : BitVec 8) : num (xs ++ [x]) = num xs * 256 + x.toNat := by
  unfold num; rw [List.foldl_append]; rfl
theorem num_lt (k : Nat) (xs : List (BitVec 8)) (h : xs.length ≤ k) : num xs < 256 ^ k := by
  induction k generalizing xs with
  | zero =>
    have : xs = [] := List.length_eq_zero_iff.1 (by omega)
    subst this; decide
  | succ k ih =>
    rcases List.eq_nil_or_concat xs with rfl | ⟨ys, x, rfl⟩
    · rw [num_nil]; exact Nat.pow_pos (by decide)
    · rw [List.concat_eq_append] at h ⊢
      rw [num_snoc]
      have h1 := ih ys (by simp at h; omega)
      have h2 := x.isLt
      rw [Nat.pow_succ]
      omega
/-- What a call that reads k bytes tells. -/
def val (k : Nat) (xs : List (BitVec 8)) : Nat := if k ≤ xs.length then num (xs.take k) else 0
theorem val_lt (k : Nat) (xs : List (BitVec 8)) : val k xs < 256 ^ k := by
  unfold val
  split
  · exact num_lt k _ (by simp; omega)
  · exact Nat.pow_pos (by decide)
theorem val1_lt (xs : List (BitVec 8)) : val 1 xs < 256 := val_lt 1 xs
theorem val2_lt (xs : List (BitVec 8)) : val 2 xs < 65536 := val_lt 2 xs
theorem val4_lt (xs : List (BitVec 8)) : val 4 xs < 4294967296 := val_lt 4 xs
theorem val_few {k : Nat} {xs : List (BitVec 8)} (h : xs.length < k) : val k xs = 0 := by
  unfold val; rw [if_neg (by omega)]
theorem val_nil (k : Nat) (h : 0 < k) : val k [] = 0 := val_few (by simpa using h)
theorem val_all {k : Nat} {xs : List (BitVec 8)} (h : k ≤ xs.length) : val k xs = num (xs.take k) := by
  unfold val; rw [if_pos h]
theorem num_next (xs : List (BitVec 8)) (k : Nat) (x : BitVec 8) (h : xs[k]? = some x) : num (xs.take (k + 1)) = num (xs.take k) * 256 + x.toNat := by
  have : xs.take (k + 1) = xs.take k ++ [x] := by
    rw [List.take_add_one, h]; rfl
  rw [this, num_snoc]
theorem take_lt (xs : List (BitVec 8)) (k : Nat) (hk : k ≤ 3) : num (xs.take k) < 16777216 := by
  have h := num_lt 3 (xs.take k) (by simp; omega)
  simpa using h

/-- The bytes of a number of two bytes, of four. -/
def lay2 (n : BitVec 16) : List (BitVec 8) := [BitVec.ofNat 8 (n.toNat / 256), BitVec.ofNat 8 n.toNat]
def lay4 (n : BitVec 32) : List (BitVec 8) := [BitVec.ofNat 8 (n.toNat / 16777216), BitVec.ofNat 8 (n.toNat / 65536), BitVec.ofNat 8 (n.toNat / 256), BitVec.ofNat 8 n.toNat]
theorem num_two (a b : BitVec 8) : num [a, b] = a.toNat * 256 + b.toNat := by simp [num]
theorem num_four (a b c d : BitVec 8) : num [a, b, c, d] = ((a.toNat * 256 + b.toNat) * 256 + c.toNat) * 256 + d.toNat := by simp [num]
theorem num_lay2 (n : BitVec 16) : num (lay2 n) = n.toNat := by
  have h := n.isLt
  unfold lay2
  rw [num_two]
  simp
  omega
theorem num_lay4 (n : BitVec 32) : num (lay4 n) = n.toNat := by
  have h := n.isLt
  unfold lay4
  rw [num_four]
  simp
  omega
theorem val_lay2 (n : BitVec 16) (xs : List (BitVec 8)) : val 2 (lay2 n ++ xs) = n.toNat := by
  rw [val_all (by simp [lay2])]
  rw [show (lay2 n ++ xs).take 2 = lay2 n by simp [lay2], num_lay2]
theorem val_lay4 (n : BitVec 32) (xs : List (BitVec 8)) : val 4 (lay4 n ++ xs) = n.toNat := by
  rw [val_all (by simp [lay4])]
  rw [show (lay4 n ++ xs).take 4 = lay4 n by simp [lay4], num_lay4]
theorem drop_lay2 (n : BitVec 16) (xs : List (BitVec 8)) : (lay2 n ++ xs).drop 2 = xs := by simp [lay2]
theorem drop_lay4 (n : BitVec 32) (xs : List (BitVec 8)) : (lay4 n ++ xs).drop 4 = xs := by simp [lay4]

/-- The first d of a number's bytes, of which there are size. -/
def tops (n size : Nat) : Nat → List (BitVec 8)
  | 0 => []
  | d + 1 => tops n size d ++ [BitVec.ofNat 8 (n / 2 ^ (8 * (size - 1 - d)))]
theorem tops_two (n : BitVec 16) : tops n.toNat 2 2 = lay2 n := by simp [tops, lay2]
theorem tops_four (n : BitVec 32) : tops n.toNat 4 4 = lay4 n := by simp [tops, lay4]
theorem tops_length (n size d : Nat) : (tops n size d).length = d := by
  induction d with
  | zero => rfl
  | succ d ih => simp [tops, ih]

/-- Numbers' bytes, one behind the other. -/
def flat4 (l : List (BitVec 32)) : List (BitVec 8) := l.flatMap lay4
def flat2 (l : List (BitVec 16)) : List (BitVec 8) := l.flatMap lay2
theorem flat4_length (l : List (BitVec 32)) : (flat4 l).length = 4 * l.length := by
  induction l with
  | nil => rfl
  | cons x l ih => simp [flat4, lay4] at ih ⊢; omega
theorem flat2_length (l : List (BitVec 16)) : (flat2 l).length = 2 * l.length := by
  induction l with
  | nil => rfl
  | cons x l ih => simp [flat2, lay2] at ih ⊢; omega
theorem flat4_next (l : List (BitVec 32)) (k : Nat) (y : BitVec 32) (h : l[k]? = some y) : flat4 (l.take (k + 1)) = flat4 (l.take k) ++ lay4 y := by
  rw [List.take_add_one, h]; simp [flat4]
theorem flat2_next (l : List (BitVec 16)) (k : Nat) (y : BitVec 16) (h : l[k]? = some y) : flat2 (l.take (k + 1)) = flat2 (l.take k) ++ lay2 y := by
  rw [List.take_add_one, h]; simp [flat2]
theorem flat4_drop (l : List (BitVec 32)) (k : Nat) (y : BitVec 32) (h : l[k]? = some y) : flat4 (l.drop k) = lay4 y ++ flat4 (l.drop (k + 1)) := by
  obtain ⟨hk, rfl⟩ := List.getElem?_eq_some_iff.1 h
  rw [List.drop_eq_getElem_cons hk]; unfold flat4; rw [List.flatMap_cons]
theorem flat2_drop (l : List (BitVec 16)) (k : Nat) (y : BitVec 16) (h : l[k]? = some y) : flat2 (l.drop k) = lay2 y ++ flat2 (l.drop (k + 1)) := by
  obtain ⟨hk, rfl⟩ := List.getElem?_eq_some_iff.1 h
  rw [List.drop_eq_getElem_cons hk]; unfold flat2; rw [List.flatMap_cons]
end Go.Proofs.YtekackglcapppaaGreatDoor
/-
  A reader in memory, and what a call that touches it alone leaves as it was.
-/
namespace Go.Proofs.YtekackglcapppaaGreatDoor
open Go.RowKit

/-- The slice v holds the bytes xs, in a block from lo on and below L. -/
def Left (w : World) (lo L : Nat) (v : Value) (xs : List (BitVec 8)) : Prop := Byts w v xs ∧ ∀ a n c, v = .slice (some a) n c → n = 0 ∨ (lo ≤ a.block ∧ a.block < L)
theorem Byts.left {w : World} {v : Value} {xs : List (BitVec 8)} (h : Byts w v xs) : Left w 0 w.heap.size v xs := by
  refine ⟨h, fun a n c hv => ?_⟩
  rcases h with ⟨h2, h | ⟨a', c', h⟩⟩ | ⟨g, o, cap, hv', hc, h⟩
  · rw [h] at hv; cases hv
  · rw [h] at hv; cases hv; exact .inl rfl
  · rw [hv'] at hv
    cases hv
    by_cases h0 : xs.length = 0
    · exact .inl h0
    · exact .inr ⟨Nat.zero_le _, lt_of_cell (h 0 _ (List.getElem?_eq_getElem (by omega)))⟩
theorem Own.left {w : World} {B : Nat} {v : Value} {xs : List (BitVec 8)} (h : Own w B v xs) : Left w B w.heap.size v xs := by
  refine ⟨h.byts, fun a n c hv => ?_⟩
  rcases h.byts.left.2 a n c hv with h0 | ⟨_, h0⟩
  · exact .inl h0
  · right
    refine ⟨?_, h0⟩
    rcases h.2 with ⟨h2, hn⟩ | ⟨g, cap, cur, h2, hB, hg, hcap, _⟩
    · rw [h2] at hv; cases hv
    · rw [h2] at hv; cases hv; exact hB
theorem Left.apart {w w' : World} {lo L b : Nat} {v : Value} {xs : List (BitVec 8)} (h : Left w lo L v xs) (ha : Apart b w w') (hL : b < lo ∨ L ≤ b) : Left w' lo L v xs := by
  refine ⟨?_, h.2⟩
  obtain ⟨h, hl⟩ := h
  rcases h with h | ⟨g, o, cap, hv, hc, h⟩
  · exact .inl h
  · refine .inr ⟨g, o, cap, hv, hc, fun j x hx => ?_⟩
    have hj := h j x hx
    have hg : lo ≤ g ∧ g < L := by
      rcases hl _ _ _ hv with h0 | h0
      · have := (List.getElem?_eq_some_iff.1 hx).1; omega
      · exact h0
    rw [World.cell?_of_block (w := w) (a := ⟨g, o + j, none⟩) (ha.block g (lt_of_cell hj) (by omega))]
    exact hj
theorem Left.below {w w' : World} {lo L : Nat} {v : Value} {xs : List (BitVec 8)} (h : Left w lo L v xs) (hb : Below w.heap.size w w') : Left w' lo L v xs := ⟨h.1.below hb, h.2⟩
theorem Left.nil (w : World) (lo L : Nat) : Left w lo L (.slice none 0 0) [] := ⟨byts_nil w, fun a n c h => by cases h⟩

/-- A reader (a block of two cells of type T) at block b: xs are left, in a block from lo on and below L; bad: too few were there once. -/
def Rd (w : World) (T b lo L : Nat) (xs : List (BitVec 8)) (bad : Bool) : Prop := ∃ v, w.heap[b]? = some (.cells #[v, .bool bad] T (0, 0)) ∧ Left w lo L v xs ∧ L ≤ b
theorem Rd.lt {w : World} {T b lo L : Nat} {xs : List (BitVec 8)} {bad : Bool} (h : Rd w T b lo L xs bad) : b < w.heap.size := by
  obtain ⟨v, h, _⟩ := h
  rcases Nat.lt_or_ge b w.heap.size with h1 | h1
  · exact h1
  · rw [Array.getElem?_eq_none h1] at h; cases h
theorem Rd.apart {w w' : World} {T b c lo L : Nat} {xs : List (BitVec 8)} {bad : Bool} (h : Rd w T c lo L xs bad) (ha : Apart b w w') (hn : c ≠ b) (hL : b < lo ∨ L ≤ b) : Rd w' T c lo L xs bad := by
  have hlt := h.lt
  obtain ⟨v, h, hl, hle⟩ := h
  exact ⟨v, by rw [ha.block c hlt hn]; exact h, hl.apart ha hL, hle⟩
theorem Rd.below {w w' : World} {T c lo L : Nat} {xs : List (BitVec 8)} {bad : Bool} (h : Rd w T c lo L xs bad) (hb : Below w.heap.size w w') : Rd w' T c lo L xs bad := by
  have hlt := h.lt
  obtain ⟨v, h, hl, hle⟩ := h
  exact ⟨v, by rw [hb.block c hlt]; exact h, hl.below hb, hle⟩
theorem Rd.cells {w : World} {T b lo L : Nat} {xs : List (BitVec 8)} {bad : Bool} (h : Rd w T b lo L xs bad) :
    ∃ v, w.cell? ⟨b, 0, none⟩ = some v ∧ w.cell? ⟨b, 1, none⟩ = some (.bool bad) ∧ w.frozen? ⟨b, 0, none⟩ = false ∧ w.frozen? ⟨b, 1, none⟩ = false ∧ Left w lo L v xs := by
  obtain ⟨v, h, hl, hle⟩ := h
  refine ⟨v, ?_, ?_, frozen_of_row w b 0 _ _ h, frozen_of_row w b 1 _ _ h, hl⟩
  · rw [cell_of_row w b 0 _ _ _ h]; rfl
  · rw [cell_of_row w b 1 _ _ _ h]; rfl
theorem Rd.le {w : World} {T b lo L : Nat} {xs : List (BitVec 8)} {bad : Bool} (h : Rd w T b lo L xs bad) : L ≤ b := h.choose_spec.2.2
/-- What is stored as left. -/
theorem Rd.setLeft {w : World} {T b lo L : Nat} {xs ys : List (BitVec 8)} {bad : Bool} (h : Rd w T b lo L xs bad) {u : Value} (hu : Left w lo L u ys) : Rd (w.setCell ⟨b, 0, none⟩ u) T b lo L ys bad := by
  obtain ⟨v, h, hl, hle⟩ := h
  refine ⟨u, ?_, hu.apart (Apart.set_ b 0 w u) (.inr hle), hle⟩
  rw [heap_setCell_same w b 0 _ _ u h]
  rfl
theorem Rd.setBad {w : World} {T b lo L : Nat} {xs : List (BitVec 8)} {bad : Bool} (h : Rd w T b lo L xs bad) (c : Bool) : Rd (w.setCell ⟨b, 1, none⟩ (.bool c)) T b lo L xs c := by
  obtain ⟨v, h, hl, hle⟩ := h
  refine ⟨v, ?_, hl.apart (Apart.set_ b 1 w _) (.inr hle), hle⟩
  rw [heap_setCell_same w b 1 _ _ _ h]
  rfl
theorem Rd.made {w : World} (T : Nat) {v : Value} {xs : List (BitVec 8)} (lo L : Nat) (h : Left w lo L v xs) (hL : L ≤ w.heap.size) (bad : Bool) : Rd (w.alloc (.cells #[v, .bool bad] T)) T w.heap.size lo L xs bad :=
  ⟨v, heap_alloc_new w _, h.below (below_alloc (Below.refl _ w) _), hL⟩
end Go.Proofs.YtekackglcapppaaGreatDoor
/-
  The calls of octet by contracts: lay, Over, next, number, U32.
-/
namespace Go.Proofs.YtekackglcapppaaGreatDoor
open Go.RowKit

set_option maxHeartbeats 1000000 in
theorem lay_any (v u : Value) (xs ys : List (BitVec 8)) (w : World) (hv : Byts w v xs) (hu : Byts w u ys) (hl : xs.length + ys.length ≤ 140737488355328) :
    Calls Tryz.prog 74 #[v, u] w fun e w' => ∃ r, e = .returned r ∧ Own w' w.heap.size r (xs ++ ys) ∧ Below w.heap.size w w' := by
  obtain ⟨av, cv, ev⟩ := hv.len
  obtain ⟨au, cu, eu⟩ := hu.len
  obtain ⟨M, hM, _, hmk⟩ := run_make_u8 (xs.length + ys.length) hl 0 (by omega)
  have HM := Lib.hid hM
  have HV := Lib.hid hv
  have HU := Lib.hid hu
  clear hv hu hM
  subst ev eu
  rw [show (((0 : Nat) : Int)) = 0 from rfl, show ((xs.length + ys.length : Nat) : Int) = (xs.length : Int) + (ys.length : Int) by simp] at hmk
  have HO := Lib.hid (own_made w w.heap.size M _ HM.out (Nat.le_refl _) (by unfold maxLen; omega))
  have HB := Lib.hid ((Below.refl w.heap.size w).alloc (Nat.le_refl _) (.cells M 5))
  have HV1 := Lib.hid (HV.out.below HB.out)
  have HU1 := Lib.hid (HU.out.below HB.out)
  have tok1 : True := trivial
  have hsz := HB.out.size
  go_enter Tryz.func74, Tryz.ntmps74
  go_wp2_with (first
    | (at_builtin; have _t := tok1; refine wpList_app rfl _ _ rfl w.heap.size _ [] rfl HO.out _ xs rfl HV1.out (by simp; omega) hsz ?_; intro v1 w1 hown1 hg1; have HO1 := Lib.hid hown1; have HB1 := Lib.hid (HO.out.grown HB.out hg1); have HU2 := Lib.hid (HU.out.below HB1.out); have hsz1 := HB1.out.size; clear hown1 hg1 tok1 _t HO HB HV1 HU1 hsz hmk)
    | (at_builtin; refine wpList_app rfl _ _ rfl w.heap.size _ _ rfl HO1.out _ ys rfl HU2.out (by simpa using hl) hsz1 ?_; intro v2 w2 hown2 hg2; have HO2 := Lib.hid hown2; have HB2 := Lib.hid (HO1.out.grown HB1.out hg2); clear hown2 hg2 HO1 HB1 hsz1))
  go_ret
  exact ⟨_, rfl, by simpa using HO2.out, HB2.out⟩

theorem over_any (v : Value) (xs : List (BitVec 8)) (w : World) (hv : Byts w v xs) (hl : xs.length ≤ 140737488355328) :
    Calls Tryz.prog 79 #[v] w fun e w' => ∃ b, e = .returned (.pointer (some ⟨b, 0, none⟩)) ∧ Rd w' 154 b w.heap.size b xs false ∧ w.heap.size ≤ b ∧ Below w.heap.size w w' := by
  have HL := Lib.hid (lay_any v _ xs [] w hv (byts_nil w) (by simpa using hl))
  clear hv hl
  go_enter Tryz.func79, Tryz.ntmps79
  go_wp2_with fail
  (with_reducible refine HL.out.mono ?_)
  rintro e w1 ⟨r, rfl, hown, hb⟩
  rw [List.append_nil] at hown
  have HO := Lib.hid hown.left
  have HB := Lib.hid hb
  obtain ⟨ar, cr, er⟩ := hown.byts.len
  clear hown hb HL
  subst er
  go_wp2_with fail
  go_ret
  exact ⟨_, rfl, Rd.made 154 w.heap.size w1.heap.size HO.out (Nat.le_refl _) false, HB.out.size, below_alloc HB.out _⟩

theorem next_none (T b lo L : Nat) (bad : Bool) (w : World) (h : Rd w T b lo L [] bad) :
    Calls Tryz.prog 85 #[.pointer (some ⟨b, 0, none⟩)] w fun e w' => e = .returned (.tuple #[.int .u8 0, .bool false]) ∧ Rd w' T b lo L [] true ∧ Apart b w w' := by
  obtain ⟨v, h0, h1, f0, f1, hl⟩ := h.cells
  obtain ⟨av, cv, ev⟩ := hl.1.len
  have HR := Lib.hid h
  clear h hl
  subst ev
  go_enter Tryz.func85, Tryz.ntmps85
  go_wp2
  go_ret2
  exact ⟨rfl, HR.out.setBad true, Apart.set_ b 1 w _⟩
theorem next_some (T b lo L : Nat) (x : BitVec 8) (xs : List (BitVec 8)) (bad : Bool) (w : World) (h : Rd w T b lo L (x :: xs) bad) :
    Calls Tryz.prog 85 #[.pointer (some ⟨b, 0, none⟩)] w fun e w' => e = .returned (.tuple #[.int .u8 (x.toNat : Int), .bool true]) ∧ Rd w' T b lo L xs bad ∧ Apart b w w' := by
  obtain ⟨v, h0, h1, f0, f1, hl⟩ := h.cells
  obtain ⟨g, o, cap, x', ev, hc, hg, hx, hcell⟩ := hl.1.at_ 0 (by simp)
  obtain rfl : x = x' := by simpa using hx
  obtain ⟨v2, hrun, hb2, hblk⟩ := cutR hl.1 1 (by simp)
  have HR := Lib.hid h
  have HL2 := Lib.hid (show Left w lo L v2 xs from ⟨by simpa using hb2, fun a n c he => by
    obtain ⟨a', n', c', hv', hbl⟩ := hblk a n c he
    rcases hl.2 a' n' c' hv' with h0 | ⟨h0, h0'⟩
    · rw [ev] at hv'
      simp only [Value.slice.injEq] at hv'
      obtain ⟨_, h2, _⟩ := hv'
      rw [h0] at h2
      simp at h2
    · right; constructor <;> omega⟩)
  obtain ⟨a2, c2, e2⟩ := HL2.out.1.len
  clear h hl hx hb2 hblk
  subst ev e2
  rw [show ((1 : Nat) : Int) = 1 from rfl] at hrun
  rw [Nat.add_zero] at hcell
  simp only [List.length_cons] at h0 hc hrun
  have hnz : (((xs.length + 1 : Nat) : Int) == 0) = false := by simp; omega
  have h0lt : 0 < xs.length + 1 := by omega
  go_enter Tryz.func85, Tryz.ntmps85
  go_wp2
  go_ret2
  exact ⟨rfl, HR.out.setLeft HL2.out, Apart.set_ b 0 w _⟩

theorem or_byte (n : Nat) (hn : n < 16777216) (x : BitVec 8) : bits .or .u32 ((n : Int) * 256) (x.toNat : Int) = ((n * 256 + x.toNat : Nat) : Int) := by
  have hx := x.isLt
  have h1 : n * 256 + x.toNat = n * 256 ||| x.toNat := by
    have := Nat.shiftLeft_add_eq_or_of_lt (i := 8) (b := x.toNat) (by omega) n
    rw [Nat.shiftLeft_eq] at this
    simpa using this
  have e1 : (BitVec.ofInt 32 ((n : Int) * 256)).toNat = n * 256 := by
    rw [show (n : Int) * 256 = ((n * 256 : Nat) : Int) by simp, BitVec.ofInt_natCast, BitVec.toNat_ofNat]
    exact Nat.mod_eq_of_lt (by omega)
  have e2 : (BitVec.ofInt 32 (x.toNat : Int)).toNat = x.toNat := by
    rw [BitVec.ofInt_natCast, BitVec.toNat_ofNat]
    exact Nat.mod_eq_of_lt (by omega)
  show IntKind.u32.wrap ((BitVec.ofInt 32 ((n : Int) * 256) ||| BitVec.ofInt 32 (x.toNat : Int)).toNat : Int) = _
  rw [BitVec.toNat_or, e1, e2, ← h1]
  simp [IntKind.wrap, IntKind.bits, IntKind.signed]
  omega

/-- What a call that asks for k bytes leaves of a reader. -/
def Took (T b lo L : Nat) (xs : List (BitVec 8)) (bad : Bool) (k : Nat) (w w' : World) : Prop := Rd w' T b lo L (xs.drop k) (bad || decide (xs.length < k)) ∧ Apart b w w'

set_option maxHeartbeats 1000000 in
theorem number_any (k : Nat) (hk : k ≤ 4) (T b lo L : Nat) (xs : List (BitVec 8)) (bad : Bool) (w : World) (h : Rd w T b lo L xs bad) :
    Calls Tryz.prog 84 #[.func (.func 85) #[.pointer (some ⟨b, 0, none⟩)] #[], .int .i64 (k : Int)] w fun e w' => e = .returned (.int .u32 (val k xs : Int)) ∧ Took T b lo L xs bad k w w' := by
  have HR := Lib.hid h
  clear h
  go_enter Tryz.func84, Tryz.ntmps84
  go_wp2
  go_loopw [5, 9] (fun n i wr => ∃ j : Nat, j ≤ k ∧ j ≤ xs.length ∧ i = .int .i64 j ∧ n = .int .u32 (num (xs.take j) : Int) ∧ Rd wr T b lo L (xs.drop j) bad ∧ Apart b w wr) (fun _ i _ => k - (intOf i).toNat)
  case atStart => exact ⟨0, by omega, by omega, rfl, rfl, HR.out, Apart.refl b w⟩
  case round =>
    obtain ⟨j, hj, hjl, rfl, rfl, hr, ha⟩ := hrel
    have HW := Lib.hid hr
    have HA := Lib.hid ha
    clear hr ha
    by_cases hlt : j < k
    · by_cases hlx : j < xs.length
      · obtain ⟨x, hx⟩ : ∃ x, xs[j]? = some x := ⟨_, List.getElem?_eq_getElem hlx⟩
        have HD := Lib.hid (show xs.drop j = x :: xs.drop (j + 1) by
          rw [List.drop_eq_getElem_cons hlx]
          congr 1
          rw [List.getElem?_eq_getElem hlx] at hx
          exact Option.some.inj hx)
        have HS := Lib.hid (num_next xs j x hx)
        have hn := take_lt xs j (by omega)
        have hor := or_byte (num (xs.take j)) hn x
        have hxl := x.isLt
        clear hx
        generalize num (xs.take j) = n at *
        go_wp2_with fail
        (with_reducible refine (next_some T b lo L x (xs.drop (j + 1)) bad _ (by rw [← HD.out]; exact HW.out)).mono ?_)
        rintro e w1 ⟨rfl, hr, ha⟩
        have HW1 := Lib.hid hr
        have HA1 := Lib.hid (HA.out.trans ha)
        clear hr ha HW HA
        go_wp2_with fail
        go_roundw
        case rel => exact ⟨j + 1, by omega, by omega, by go_num, by rw [HS.out]; simp, HW1.out, HA1.out⟩
        case measure => simp [intOf]; omega
      · have HE := Lib.hid (show xs.drop j = [] from List.drop_eq_nil_of_le (by omega))
        go_wp2_with fail
        (with_reducible refine (next_none T b lo L bad _ (by rw [← HE.out]; exact HW.out)).mono ?_)
        rintro e w1 ⟨rfl, hr, ha⟩
        have HW1 := Lib.hid hr
        have HA1 := Lib.hid (HA.out.trans ha)
        clear hr ha HW HA
        go_wp2_with fail
        go_ret
        refine ⟨by rw [val_few (by omega)]; rfl, ?_, HA1.out⟩
        rw [List.drop_eq_nil_of_le (by omega), show decide (xs.length < k) = true by simp; omega, Bool.or_true]
        exact HW1.out
    · go_wp2
      go_ret
      obtain rfl : j = k := by omega
      refine ⟨by rw [val_all hjl]; rfl, ?_, HA.out⟩
      rw [show decide (xs.length < j) = false by simp; omega, Bool.or_false]
      exact HW.out

theorem made_next (b : Nat) : ∀ w : World, (Instr.makeFunc (.func 85) #[.pointer (some ⟨b, 0, none⟩)] #[]).run Tryz.prog w = .ok (.func (.func 85) #[.pointer (some ⟨b, 0, none⟩)] #[]) w := fun _ => rfl

theorem u32_any (T b lo L : Nat) (xs : List (BitVec 8)) (bad : Bool) (w : World) (h : Rd w T b lo L xs bad) :
    Calls Tryz.prog 80 #[.pointer (some ⟨b, 0, none⟩)] w fun e w' => e = .returned (.int .u32 (val 4 xs : Int)) ∧ Took T b lo L xs bad 4 w w' := by
  have hmf := made_next b
  have HN := Lib.hid (number_any 4 (by omega) T b lo L xs bad w h)
  rw [show ((4 : Nat) : Int) = 4 from rfl] at HN
  have hv := val4_lt xs
  clear h
  go_enter Tryz.func80, Tryz.ntmps80
  go_wp2_with fail
  (with_reducible refine HN.out.mono ?_)
  rintro e w1 ⟨rfl, ht⟩
  have HT := Lib.hid ht
  clear ht HN
  go_wp2_with fail
  go_ret
  exact ⟨rfl, HT.out⟩
end Go.Proofs.YtekackglcapppaaGreatDoor
/-
  octet.Put32, by contract.
-/
namespace Go.Proofs.YtekackglcapppaaGreatDoor
open Go.RowKit

theorem oc_four (w : World) (n : BitVec 32) : Byts (w.alloc (.cells #[.int .u8 ((n.toNat : Int) / 16777216), .int .u8 ((n.toNat : Int) / 65536 % 256), .int .u8 ((n.toNat : Int) / 256 % 256), .int .u8 ((n.toNat : Int) % 256)] 5)) (.slice (some ⟨w.heap.size, 0, none⟩) 4 4) (lay4 n) := by
  have h := n.isLt
  refine lit_byts w _ 4 (0, 0) (lay4 n) ?_ rfl
  simp [lay4, cel]
  omega

theorem put32_any (v : Value) (n : BitVec 32) (xs : List (BitVec 8)) (w : World) (hv : Byts w v xs) (hl : xs.length ≤ 1000000) :
    Calls Tryz.prog 60 #[v, .int .u32 (n.toNat : Int)] w fun e w' => ∃ r, e = .returned r ∧ Own w' w.heap.size r (xs ++ lay4 n) ∧ Below w.heap.size w w' := by
  have hn := n.isLt
  have HV := Lib.hid hv
  have HL := Lib.hid (oc_four w n)
  clear hv
  go_enter Tryz.func60, Tryz.ntmps60
  go_wp2_with fail
  (with_reducible refine (lay_any _ _ xs (lay4 n) _ (HV.out.below (below_alloc (Below.refl _ w) _)) HL.out (by simp [lay4]; omega)).mono ?_)
  rintro e w1 ⟨r, rfl, hown, hb⟩
  have HO := Lib.hid (hown.mono (le_alloc (Nat.le_refl _) _))
  have HB := Lib.hid (below_call (below_alloc (Below.refl _ w) _) hb)
  clear hown hb HL HV
  go_wp2_with fail
  go_ret
  exact ⟨_, rfl, HO.out, HB.out⟩
end Go.Proofs.YtekackglcapppaaGreatDoor
/-
  octet's Rest by contract.
-/
namespace Go.Proofs.YtekackglcapppaaGreatDoor
open Go.RowKit

theorem rest_any (T b lo L : Nat) (xs : List (BitVec 8)) (bad : Bool) (w : World) (h : Rd w T b lo L xs bad) (hl : xs.length ≤ 140737488355328) :
    Calls Tryz.prog 81 #[.pointer (some ⟨b, 0, none⟩)] w fun e w' => ∃ r, e = .returned r ∧ Own w' w.heap.size r xs ∧ Rd w' T b lo L [] bad ∧ Apart b w w' := by
  obtain ⟨v, h0, h1, f0, f1, hlf⟩ := h.cells
  have HL := Lib.hid (lay_any v _ xs [] w hlf.1 (byts_nil w) (by simpa using hl))
  obtain ⟨av, cv, ev⟩ := hlf.1.len
  have HR := Lib.hid h
  have hlt := h.lt
  clear h hlf f0 f1 h1
  subst ev
  go_enter Tryz.func81, Tryz.ntmps81
  go_wp2_with fail
  (with_reducible refine HL.out.mono ?_)
  rintro e w1 ⟨r, rfl, hown, hb⟩
  rw [List.append_nil] at hown
  obtain ⟨v1, g0, g1, k0, k1, _⟩ := (HR.out.below hb).cells
  have HO := Lib.hid hown
  have HR1 := Lib.hid (HR.out.below hb)
  have HB := Lib.hid hb
  clear hown hb HL HR h0 g1 k1
  go_wp2_with fail
  go_ret
  refine ⟨_, rfl, ?_, HR1.out.setLeft (Left.nil _ _ _), (Apart.of_below HB.out).trans (Apart.set_ b 0 w1 _)⟩
  exact ownsRow_setCell_below HO.out hlt _

end Go.Proofs.YtekackglcapppaaGreatDoor
/-
  The document's own reader by contract: Num.
-/
namespace Go.Proofs.YtekackglcapppaaGreatDoor
open Go.RowKit

set_option maxHeartbeats 1000000 in
theorem rnum_few (k T b lo L : Nat) (xs : List (BitVec 8)) (bad : Bool) (w : World) (_ : k ≤ 4) (hc : bad = true ∨ (bad = false ∧ xs.length < k)) (hb : bad = true → xs = []) (h : Rd w T b lo L xs bad) (_ : xs.length ≤ 100000) :
    Calls Tryz.prog 70 #[.pointer (some ⟨b, 0, none⟩), .int .i64 (k : Int)] w fun e w' => e = .returned (.int .u32 (0 : Int)) ∧ Rd w' T b lo L [] true ∧ Apart b w w' := by
  obtain ⟨v, h0, h1, f0, f1, hlf⟩ := h.cells
  obtain ⟨av, cv, ev⟩ := hlf.1.len
  have HR := Lib.hid h
  obtain ⟨v2, g0, g1, k0, k1, hlf2⟩ := (h.setBad true).cells
  have HEQ : v2 = v := by
    have e : (w.setCell ⟨b, 1, none⟩ (.bool true)).cell? ⟨b, 0, none⟩ = w.cell? ⟨b, 0, none⟩ := World.cell?_setCell_other _ _ _ _ (by simp)
    rw [e, h0] at g0
    exact (Option.some.inj g0).symm
  subst HEQ
  have HR2 := Lib.hid (h.setBad true)
  clear h hlf hlf2 g1 k1
  subst ev
  rcases hc with rfl | ⟨rfl, hlt⟩
  · clear hb
    go_enter Tryz.func70, Tryz.ntmps70
    go_wp2
    go_ret
    exact ⟨rfl, HR2.out.setLeft (Left.nil _ _ _), (Apart.set_ b 1 w _).trans (Apart.set_ b 0 _ _)⟩
  · clear hb
    go_enter Tryz.func70, Tryz.ntmps70
    go_wp2
    go_ret
    exact ⟨rfl, HR2.out.setLeft (Left.nil _ _ _), (Apart.set_ b 1 w _).trans (Apart.set_ b 0 _ _)⟩

theorem num_step (n x : Nat) : (256 : Int) * (n : Int) + (x : Int) = ((n * 256 + x : Nat) : Int) := by simp; omega

set_option maxHeartbeats 1000000 in
theorem rnum_all (k T b lo L : Nat) (xs : List (BitVec 8)) (w : World) (hk : k ≤ 4) (hkx : k ≤ xs.length) (h : Rd w T b lo L xs false) (hl : xs.length ≤ 100000) :
    Calls Tryz.prog 70 #[.pointer (some ⟨b, 0, none⟩), .int .i64 (k : Int)] w fun e w' => e = .returned (.int .u32 (val k xs : Int)) ∧ Rd w' T b lo L (xs.drop k) false ∧ Apart b w w' := by
  obtain ⟨v, h0, h1, f0, f1, hlf⟩ := h.cells
  obtain ⟨av, cv, ev⟩ := hlf.1.len
  obtain ⟨v2, hrun, hb2, hblk⟩ := cutR hlf.1 k hkx
  have HR := Lib.hid h
  have HL2 := Lib.hid (show Left w lo L v2 (xs.drop k) from ⟨hb2, fun a n c he => by
    by_cases h0 : n = 0
    · exact .inl h0
    · obtain ⟨a', n', c', hv', hbl⟩ := hblk a n c he
      rcases hlf.2 a' n' c' hv' with h0' | h0'
      · exfalso
        have e1 : n = xs.length - k := by
          obtain ⟨aa, cc, ee⟩ := hb2.len
          rw [ee] at he
          simp only [Value.slice.injEq, List.length_drop] at he
          omega
        rw [ev] at hv'
        simp only [Value.slice.injEq] at hv'
        omega
      · right; rw [hbl]; exact h0'⟩)
  have HV := Lib.hid hlf.1
  obtain ⟨a2, c2, e2⟩ := hb2.len
  clear h hlf hb2 hblk
  subst ev e2
  have hnl : decide ((xs.length : Int) < (k : Int)) = false := by simp; omega
  go_enter Tryz.func70, Tryz.ntmps70
  go_wp2
  go_loop [5, 6] (fun t i => ∃ j : Nat, j ≤ k ∧ i = .int .i64 j ∧ t = .int .u32 (num (xs.take j) : Int)) (fun _ i => k - (intOf i).toNat)
  case atStart => exact ⟨0, by omega, rfl, rfl⟩
  case round =>
    obtain ⟨j, hj, rfl, rfl⟩ := hrel
    by_cases hlt : j < k
    · obtain ⟨g, o, cap, x, e1, hc1, hg1, hx, hcell⟩ := HV.out.at_ j (by omega)
      have HS := Lib.hid (num_next xs j x hx)
      have hn := take_lt xs j (by omega)
      have hxl := x.isLt
      have hltI : (j : Int) < (xs.length : Int) := by omega
      clear hx
      simp only [Value.slice.injEq] at e1
      obtain ⟨rfl, _, rfl⟩ := e1
      generalize num (xs.take j) = n at *
      go_wp2
      go_round
      case rel => exact ⟨j + 1, by omega, by go_num, by rw [HS.out, ← num_step]⟩
      case measure => simp [intOf]; omega
    · obtain rfl : j = k := by omega
      go_wp2
      go_ret
      exact ⟨by rw [val_all hkx]; rfl, HR.out.setLeft (by have := HL2.out; rwa [List.length_drop] at this), Apart.set_ b 0 w _⟩

/-- Both cases in one: as octet's own. -/
theorem rnum_any (k T b lo L : Nat) (xs : List (BitVec 8)) (bad : Bool) (w : World) (hk : k ≤ 4) (hk0 : 0 < k) (hb : bad = true → xs = []) (h : Rd w T b lo L xs bad) (hl : xs.length ≤ 100000) :
    Calls Tryz.prog 70 #[.pointer (some ⟨b, 0, none⟩), .int .i64 (k : Int)] w fun e w' => e = .returned (.int .u32 (val k xs : Int)) ∧ Took T b lo L xs bad k w w' := by
  cases bad with
  | true =>
    have hx := hb rfl
    subst hx
    refine (rnum_few k T b lo L [] true w hk (.inl rfl) hb h hl).mono fun e w' ⟨he, hr, ha⟩ => ⟨?_, ?_, ha⟩
    · rw [he, val_nil k hk0]; rfl
    · rw [List.drop_nil, Bool.true_or]; exact hr
  | false =>
    by_cases hlt : xs.length < k
    · refine (rnum_few k T b lo L xs false w hk (.inr ⟨rfl, hlt⟩) hb h hl).mono fun e w' ⟨he, hr, ha⟩ => ⟨?_, ?_, ha⟩
      · rw [he, val_few hlt]; rfl
      · rw [List.drop_eq_nil_of_le (by omega), show decide (xs.length < k) = true by simp; omega, Bool.or_true]; exact hr
    · refine (rnum_all k T b lo L xs w hk (by omega) h hl).mono fun e w' ⟨he, hr, ha⟩ => ⟨he, ?_, ha⟩
      rw [show decide (xs.length < k) = false by simp; omega, Bool.or_false]; exact hr

end Go.Proofs.YtekackglcapppaaGreatDoor
/-
  The document's own reader by contracts: Rest.
-/
namespace Go.Proofs.YtekackglcapppaaGreatDoor
open Go.RowKit

set_option maxHeartbeats 1000000 in
theorem rrest_any (T b lo L : Nat) (xs : List (BitVec 8)) (bad : Bool) (w : World) (h : Rd w T b lo L xs bad) (hl : xs.length ≤ 300) :
    Calls Tryz.prog 71 #[.pointer (some ⟨b, 0, none⟩)] w fun e w' => ∃ r, e = .returned r ∧ Own w' w.heap.size r xs ∧ Rd w' T b lo L [] bad ∧ Apart b w w' := by
  obtain ⟨v, h0, h1, f0, f1, hlf⟩ := h.cells
  obtain ⟨av, cv, ev⟩ := hlf.1.len
  have HV := Lib.hid hlf.1
  have HR := Lib.hid h
  have hlt := h.lt
  clear h hlf f0 f1 h1
  subst ev
  have HO := Lib.hid (own_lit w w.heap.size [] (Nat.le_refl _) (by unfold maxLen; simp))
  have HB := Lib.hid ((Below.refl w.heap.size w).alloc (Nat.le_refl _) (.cells #[] 5))
  have HV1 := Lib.hid (HV.out.below HB.out)
  have hsz := HB.out.size
  go_enter Tryz.func71, Tryz.ntmps71
  go_wp2_with (at_builtin; refine wpList_app rfl _ _ rfl w.heap.size _ [] rfl HO.out _ xs rfl HV1.out (by simp; omega) hsz ?_; intro v1 w1 hown1 hg1; have HO1 := Lib.hid hown1; have HB1 := Lib.hid (HO.out.grown HB.out hg1); have HR1 := Lib.hid (HR.out.below HB1.out); obtain ⟨v3, g0, g1, k0, k1, _⟩ := HR1.out.cells; clear hown1 hg1 HO HB HV1 hsz h0 g1 k1)
  go_ret
  refine ⟨_, rfl, ?_, HR1.out.setLeft (Left.nil _ _ _), (Apart.of_below HB1.out).trans (Apart.set_ b 0 w1 _)⟩
  exact ownsRow_setCell_below HO1.out hlt _
end Go.Proofs.YtekackglcapppaaGreatDoor
/-
  The document's Put, by contract.
-/
namespace Go.Proofs.YtekackglcapppaaGreatDoor
open Go.RowKit

theorem oc_one (w : World) (n i : Nat) : Byts (w.alloc (.cells #[.int .u8 ((n : Int) / 2 ^ (8 * i) % 256)] 5)) (.slice (some ⟨w.heap.size, 0, none⟩) 1 1) [BitVec.ofNat 8 (n / 2 ^ (8 * i))] := by
  refine lit_byts w _ 1 (0, 0) _ ?_ rfl
  simp [cel]
set_option maxHeartbeats 1000000 in
set_option maxRecDepth 100000 in
theorem rput_any (v : Value) (n : Nat) (size : Nat) (xs : List (BitVec 8)) (w : World) (hv : Byts w v xs) (hl : xs.length ≤ 1000000) (_ : n < 4294967296) (hs : size ≤ 4) :
    Calls Tryz.prog 49 #[v, .int .u32 (n : Int), .int .i64 (size : Int)] w fun e w' => ∃ r, e = .returned r ∧ Own w' w.heap.size r (xs ++ tops n size size) ∧ Below w.heap.size w w' := by
  obtain ⟨av, cv, ev⟩ := hv.len
  have HV := Lib.hid hv
  clear hv
  subst ev
  have HO := Lib.hid (own_lit w w.heap.size [] (Nat.le_refl _) (by unfold maxLen; simp))
  have HB := Lib.hid ((Below.refl w.heap.size w).alloc (Nat.le_refl _) (.cells #[] 5))
  have HV1 := Lib.hid (HV.out.below HB.out)
  have hsz := HB.out.size
  go_enter Tryz.func49, Tryz.ntmps49
  go_wp2_with (at_builtin; refine wpList_app rfl _ _ rfl w.heap.size _ [] rfl HO.out _ xs rfl HV1.out (by simp; omega) hsz ?_; intro v1 w1 hown1 hg1; have HO1 := Lib.hid hown1; have HB1 := Lib.hid (HO.out.grown HB.out hg1); clear hown1 hg1 HO HB HV1 hsz)
  go_loopw [7, 8] (fun o k wr => ∃ d : Nat, d ≤ size ∧ k = .int .i64 ((size : Int) - 1 - d) ∧ Own wr w.heap.size o (xs ++ tops n size d) ∧ Below w.heap.size w wr) (fun _ k _ => (intOf k + 1).toNat)
  case atStart => exact ⟨0, by omega, by simp, by simpa [tops] using HO1.out, HB1.out⟩
  case round =>
    obtain ⟨d, hd, hk, ho, hb⟩ := hrel
    have HOW := Lib.hid ho
    have HBW := Lib.hid hb
    clear ho hb HO1 HB1
    by_cases hlt : d < size
    · obtain ⟨i, hi⟩ : ∃ i, i = size - 1 - d := ⟨_, rfl⟩
      have hi3 : i ≤ 3 := by omega
      rw [show (size : Int) - 1 - d = (i : Int) by omega] at hk
      subst hk
      have HT := Lib.hid (show tops n size (d + 1) = tops n size d ++ [BitVec.ofNat 8 (n / 2 ^ (8 * i))] by rw [hi]; rfl)
      have HI := Lib.hid hi
      have hz1 := HBW.out.size
      clear hi
      go_wp2_with (at_builtin; refine wpList_app rfl _ _ rfl w.heap.size _ _ rfl (HOW.out.alloc _) _ [BitVec.ofNat 8 (n / 2 ^ (8 * i))] rfl (oc_one _ n i) (by simp [tops_length]; omega) (le_alloc hz1 _) ?_; intro v2 w2 hown2 hg2; have HO2 := Lib.hid hown2; have HB2 := Lib.hid ((HOW.out.alloc _).grown (below_alloc HBW.out _) hg2); clear hown2 hg2 HOW HBW hz1)
      go_roundw
      case rel => exact ⟨d + 1, by omega, by have := HI.out; congr 1; omega, by rw [HT.out, ← List.append_assoc]; exact HO2.out, HB2.out⟩
      case measure => simp [intOf]
    · obtain rfl : d = size := by omega
      have hneg : decide ((0 : Int) ≤ (d : Int) - 1 - (d : Int)) = false := by simp; omega
      subst hk
      go_wp2
      go_ret
      exact ⟨_, rfl, HOW.out, HBW.out⟩
end Go.Proofs.YtekackglcapppaaGreatDoor

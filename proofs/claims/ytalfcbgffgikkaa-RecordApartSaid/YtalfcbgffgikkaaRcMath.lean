/-
  What survives, as numbers and as bytes: plain mathematics.
-/
import Derived.Test.YtalfcbgffgikkaaTkDat
namespace Go.Proofs.Ytalfcbgffgikkaa

/-- What survives: the phase, which tracks are wrong, which jumped. -/
structure Rc where
  p : Int
  w : Int
  j : Int
/-- Has it bytes? -/
def rcok (r : Rc) : Bool := decide (0 ≤ r.p ∧ r.p ≤ 7 ∧ 0 ≤ r.w ∧ r.w ≤ 255 ∧ 0 ≤ r.j ∧ r.j ≤ 255)
/-- Its bytes. -/
def rcpr (r : Rc) : List (BitVec 8) := if rcok r = true then [BitVec.ofInt 8 r.p, BitVec.ofInt 8 r.w, BitVec.ofInt 8 r.j] else []
/-- What bytes are. -/
def rcps : List (BitVec 8) → Option Rc
  | [x, y, z] => if x.toNat ≤ 7 then some ⟨(x.toNat : Int), (y.toNat : Int), (z.toNat : Int)⟩ else none
  | _ => none
theorem rcok_iff {r : Rc} : rcok r = true ↔ 0 ≤ r.p ∧ r.p ≤ 7 ∧ 0 ≤ r.w ∧ r.w ≤ 255 ∧ 0 ≤ r.j ∧ r.j ≤ 255 := by unfold rcok; exact decide_eq_true_iff
theorem rc_byte {n : Int} (h0 : 0 ≤ n) (h1 : n ≤ 255) : ((BitVec.ofInt 8 n).toNat : Int) = n := by rw [BitVec.toNat_ofInt]; omega
theorem rc_back (x : BitVec 8) : BitVec.ofInt 8 (x.toNat : Int) = x := by rw [BitVec.ofInt_natCast, BitVec.ofNat_toNat, BitVec.setWidth_eq]
theorem rcpr_len (r : Rc) : (rcpr r).length = if rcok r = true then 3 else 0 := by unfold rcpr; split <;> rfl
/-- What was printed is read as it was. -/
theorem rcps_pr {r : Rc} (h : rcok r = true) : rcps (rcpr r) = some r := by
  obtain ⟨a, b, c, d, e, f⟩ := rcok_iff.1 h
  unfold rcpr
  rw [if_pos h]
  show (if (BitVec.ofInt 8 r.p).toNat ≤ 7 then some _ else none) = _
  have h1 := rc_byte a (show r.p ≤ 255 by omega)
  rw [if_pos (by omega), h1, rc_byte c d, rc_byte e f]
/-- What is read is printed as it was: it has one form. -/
theorem rcpr_ps {b : List (BitVec 8)} {r : Rc} (h : rcps b = some r) : rcok r = true ∧ rcpr r = b := by
  match b, h with
  | [x, y, z], h =>
    have h' : (if x.toNat ≤ 7 then some (⟨(x.toNat : Int), (y.toNat : Int), (z.toNat : Int)⟩ : Rc) else none) = some r := h
    by_cases h7 : x.toNat ≤ 7
    · rw [if_pos h7] at h'
      injection h' with h'
      have hx := x.isLt
      have hy := y.isLt
      have hz := z.isLt
      have hok : rcok r = true := rcok_iff.2 (by rw [← h']; dsimp only; omega)
      refine ⟨hok, ?_⟩
      unfold rcpr
      rw [if_pos hok, ← h']
      dsimp only
      rw [rc_back, rc_back, rc_back]
    · rw [if_neg h7] at h'; cases h'
theorem rcpr_inj {a b : Rc} (ha : rcok a = true) (hb : rcok b = true) (h : rcpr a = rcpr b) : a = b := by
  have h1 := rcps_pr ha
  rw [h, rcps_pr hb] at h1
  injection h1 with h1
  exact h1.symm
/-- A bit for each track of which q is so, the first one's the lowest. -/
def rcs (q : Tk → Bool) : List Tk → Int
  | [] => 0
  | t :: ls => (if q t = true then 1 else 0) + 2 * rcs q ls
/-- What survives of a road, and of tracks. -/
def rcof (p : Int) (ls : List Tk) : Rc := ⟨p, rcs (fun t => t.g) (ls.take 8), rcs (fun t => t.j) (ls.take 8)⟩
theorem rcs_range (q : Tk → Bool) : ∀ ls : List Tk, 0 ≤ rcs q ls ∧ rcs q ls < 2 ^ ls.length
  | [] => ⟨Int.le_refl 0, (by decide : (0 : Int) < 1)⟩
  | t :: ls => by
    have ih := rcs_range q ls
    show 0 ≤ _ + 2 * _ ∧ _ + 2 * _ < (2 : Int) ^ (ls.length + 1)
    rw [Int.pow_succ]
    split <;> omega
theorem rcs_bit (q : Tk → Bool) : ∀ (ls : List Tk) (i : Nat), rcs q ls / 2 ^ i % 2 = (match ls[i]? with | some t => if q t = true then 1 else 0 | none => 0)
  | [], i => by simp [rcs]
  | t :: ls, 0 => by
    show (_ + 2 * rcs q ls) / 2 ^ 0 % 2 = (if q t = true then 1 else 0)
    rw [Int.pow_zero, Int.ediv_one]
    split <;> omega
  | t :: ls, i + 1 => by
    have ih := rcs_bit q ls i
    have e : ∀ x : Int, 0 ≤ x → x ≤ 1 → (x + 2 * rcs q ls) / 2 ^ (i + 1) = rcs q ls / 2 ^ i := fun x h0 h1 => by
      rw [Int.pow_succ, Int.mul_comm (2 ^ i) 2, ← Int.ediv_ediv_of_nonneg (by decide : (0 : Int) ≤ 2)]
      rw [show (x + 2 * rcs q ls) / 2 = rcs q ls by omega]
    show ((if q t = true then 1 else 0) + 2 * rcs q ls) / 2 ^ (i + 1) % 2 = _
    rw [e _ (by split <;> omega) (by split <;> omega), List.getElem?_cons_succ, ← ih]
theorem rcs_take (q : Tk → Bool) : ∀ (ls : List Tk) (i : Nat) (t : Tk), ls[i]? = some t → rcs q (ls.take (i + 1)) = rcs q (ls.take i) + (if q t = true then 2 ^ i else 0)
  | [], i, t, h => by simp at h
  | u :: ls, 0, t, h => by
    injection h with h
    subst h
    simp [rcs]
  | u :: ls, i + 1, t, h => by
    have ih := rcs_take q ls i t h
    rw [List.take_succ_cons, List.take_succ_cons]
    show _ + 2 * rcs q (ls.take (i + 1)) = _ + 2 * rcs q (ls.take i) + _
    rw [ih, Int.pow_succ]
    by_cases h1 : q t = true
    · rw [if_pos h1, if_pos h1]; omega
    · rw [if_neg h1, if_neg h1]; omega
theorem rcof_ok {p : Int} (ls : List Tk) (h0 : 0 ≤ p) (h1 : p ≤ 7) : rcok (rcof p ls) = true := by
  have hl : (ls.take 8).length ≤ 8 := by rw [List.length_take]; omega
  have hp : (2 : Int) ^ (ls.take 8).length ≤ 256 := by
    have h : ∀ n : Nat, n ≤ 8 → (2 : Int) ^ n ≤ 256 := by decide
    exact h _ hl
  have ha := rcs_range (fun t => t.g) (ls.take 8)
  have hb := rcs_range (fun t => t.j) (ls.take 8)
  exact rcok_iff.2 ⟨h0, h1, ha.1, by show rcs _ _ ≤ 255; omega, hb.1, by show rcs _ _ ≤ 255; omega⟩
end Go.Proofs.Ytalfcbgffgikkaa

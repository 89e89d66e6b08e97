/-
  Crossings and their bytes: plain mathematics.
-/
import Derived.Test.YtkagkfgnnhdofaaDoorOcMath
namespace Go.Proofs.YtkagkfgnnhdofaaDoor

/-- A line: Strike, Signal, Speeds. -/
structure Ln where
  k : Int
  g : Int
  a : Int
  b : Int
  c : Int
instance : Inhabited Ln := ⟨⟨0, 0, 0, 0, 0⟩⟩
abbrev OkL (l : Ln) : Prop := 1 ≤ l.g ∧ l.g < l.k ∧ l.k ≤ 1000000 ∧ 1 ≤ l.a ∧ l.a ≤ 5000 ∧ 1 ≤ l.b ∧ l.b ≤ 5000 ∧ 1 ≤ l.c ∧ l.c ≤ 5000
abbrev OkN (n : Nat) : Prop := 1 ≤ n ∧ n ≤ 8
/-- One time. -/
abbrev OkT (t : Int) : Prop := 1 ≤ t ∧ t ≤ 6000
def OkTs (T : Nat → Int) : Prop := ∀ i, i < 10 → OkT (T i)
def OkLs (ls : List Ln) : Prop := ∀ l ∈ ls, OkL l
/-- A crossing that may be. -/
def OkC (T : Nat → Int) (ls : List Ln) : Prop := OkN ls.length ∧ OkTs T ∧ OkLs ls
instance (T : Nat → Int) : Decidable (OkTs T) := inferInstanceAs (Decidable (∀ i, i < 10 → OkT (T i)))
instance (ls : List Ln) : Decidable (OkLs ls) := inferInstanceAs (Decidable (∀ l ∈ ls, OkL l))
instance (T : Nat → Int) (ls : List Ln) : Decidable (OkC T ls) := inferInstanceAs (Decidable (_ ∧ _ ∧ _))

/-- The two bytes of a number, the four. -/
def two (n : Int) : List (BitVec 8) := lay2 (BitVec.ofInt 16 n)
def four (n : Int) : List (BitVec 8) := lay4 (BitVec.ofInt 32 n)
theorem two_length (n : Int) : (two n).length = 2 := rfl
theorem four_length (n : Int) : (four n).length = 4 := rfl
theorem ofInt16_val {n : Int} (h0 : 0 ≤ n) (h : n < 65536) : ((BitVec.ofInt 16 n).toNat : Int) = n := by
  rw [BitVec.toNat_ofInt]; omega
theorem ofInt32_val {n : Int} (h0 : 0 ≤ n) (h : n < 4294967296) : ((BitVec.ofInt 32 n).toNat : Int) = n := by
  rw [BitVec.toNat_ofInt]; omega
theorem val_two {n : Int} (h0 : 0 ≤ n) (h : n < 65536) (xs : List (BitVec 8)) : (val 2 (two n ++ xs) : Int) = n := by
  unfold two; rw [val_lay2, ofInt16_val h0 h]
theorem val_four {n : Int} (h0 : 0 ≤ n) (h : n < 4294967296) (xs : List (BitVec 8)) : (val 4 (four n ++ xs) : Int) = n := by
  unfold four; rw [val_lay4, ofInt32_val h0 h]
/-- The bytes of a line. -/
def layL (l : Ln) : List (BitVec 8) := four l.k ++ (four l.g ++ (two l.a ++ (two l.b ++ two l.c)))
theorem layL_length (l : Ln) : (layL l).length = 14 := rfl
/-- The first n times' bytes, the first n lines'. -/
def layT (T : Nat → Int) : Nat → List (BitVec 8)
  | 0 => []
  | n + 1 => layT T n ++ two (T n)
def layLs (ls : List Ln) : List (BitVec 8) := ls.flatMap layL
theorem layT_length (T : Nat → Int) (n : Nat) : (layT T n).length = 2 * n := by
  induction n with
  | zero => rfl
  | succ n ih => simp [layT, two_length, ih]; omega
theorem layLs_length (ls : List Ln) : (layLs ls).length = 14 * ls.length := by
  induction ls with
  | nil => rfl
  | cons x l ih => simp [layLs, layL_length] at ih ⊢; omega
theorem layLs_next (ls : List Ln) (k : Nat) (y : Ln) (h : ls[k]? = some y) : layLs (ls.take (k + 1)) = layLs (ls.take k) ++ layL y := by
  rw [List.take_add_one, h]; simp [layLs]
theorem layLs_drop (ls : List Ln) (k : Nat) (y : Ln) (h : ls[k]? = some y) : (layLs ls).drop (14 * k) = layL y ++ layLs (ls.drop (k + 1)) := by
  induction ls generalizing k with
  | nil => simp at h
  | cons x l ih =>
    cases k with
    | zero => simp at h; subst h; simp [layLs]
    | succ k =>
      simp at h
      have := ih k h
      rw [show layLs (x :: l) = layL x ++ layLs l by simp [layLs], show 14 * (k + 1) = (layL x).length + 14 * k by rw [layL_length]; omega, List.drop_append, List.drop_eq_nil_of_le (by rw [layL_length]; omega), List.nil_append]
      simpa [Nat.add_sub_cancel_left] using this
/-- The bytes of a crossing behind their mark, and with it. -/
def body (T : Nat → Int) (ls : List Ln) : List (BitVec 8) := BitVec.ofNat 8 ls.length :: (layT T 10 ++ layLs ls)
def mark : List (BitVec 8) := [88#8, 66#8, 49#8]
def cbytes (T : Nat → Int) (ls : List Ln) : List (BitVec 8) := mark ++ body T ls
theorem body_length (T : Nat → Int) (ls : List Ln) : (body T ls).length = 21 + 14 * ls.length := by
  simp [body, layT_length, layLs_length]; omega
theorem cbytes_length (T : Nat → Int) (ls : List Ln) : (cbytes T ls).length = 24 + 14 * ls.length := by
  unfold cbytes; rw [List.length_append, body_length]; simp [mark]; omega
/-- What is read of bytes behind their mark. -/
def rdN (xs : List (BitVec 8)) : Nat := val 1 xs
def rdT (xs : List (BitVec 8)) (i : Nat) : Int := (val 2 (xs.drop (1 + 2 * i)) : Int)
def rdL (xs : List (BitVec 8)) (m : Nat) : Ln := ⟨(val 4 (xs.drop m) : Int), (val 4 (xs.drop (m + 4)) : Int), (val 2 (xs.drop (m + 8)) : Int), (val 2 (xs.drop (m + 10)) : Int), (val 2 (xs.drop (m + 12)) : Int)⟩
def rdLs (xs : List (BitVec 8)) : Nat → List Ln
  | 0 => []
  | n + 1 => rdLs xs n ++ [rdL xs (21 + 14 * n)]
theorem rdLs_length (xs : List (BitVec 8)) (n : Nat) : (rdLs xs n).length = n := by
  induction n with
  | zero => rfl
  | succ n ih => simp [rdLs, ih]
theorem rdLs_at (xs : List (BitVec 8)) (n j : Nat) (h : j < n) : (rdLs xs n)[j]? = some (rdL xs (21 + 14 * j)) := by
  induction n with
  | zero => omega
  | succ n ih =>
    unfold rdLs
    by_cases hj : j < n
    · rw [List.getElem?_append_left (by rw [rdLs_length]; exact hj)]; exact ih hj
    · obtain rfl : j = n := by omega
      rw [List.getElem?_append_right (by rw [rdLs_length]; exact Nat.le_refl _), rdLs_length]; simp
theorem rdN_lt (xs : List (BitVec 8)) : rdN xs < 256 := val1_lt xs
/-- Just as many bytes as its first one tells. -/
def Full (xs : List (BitVec 8)) : Prop := xs.length = 21 + 14 * rdN xs
instance (xs : List (BitVec 8)) : Decidable (Full xs) := inferInstanceAs (Decidable (_ = _))

/-! What was laid is read as it was. -/
theorem layT_drop (T : Nat → Int) (n i : Nat) (h : i < n) : ∃ ys, (layT T n).drop (2 * i) = two (T i) ++ ys := by
  induction n with
  | zero => omega
  | succ n ih =>
    unfold layT
    by_cases hi : i < n
    · obtain ⟨ys, hy⟩ := ih hi
      refine ⟨ys ++ two (T n), ?_⟩
      rw [List.drop_append_of_le_length (by rw [layT_length]; omega), hy, List.append_assoc]
    · obtain rfl : i = n := by omega
      refine ⟨[], ?_⟩
      rw [List.append_nil]
      rw [List.drop_append_of_le_length (by rw [layT_length]; omega), List.drop_eq_nil_of_le (by rw [layT_length]; omega), List.nil_append]
theorem num_single (x : BitVec 8) : num [x] = x.toNat := by simp [num]
theorem rdN_body (T : Nat → Int) (ls : List Ln) (h : ls.length ≤ 8) : rdN (body T ls) = ls.length := by
  unfold rdN body
  rw [val_all (by simp)]
  simp [num_single]
  omega
theorem full_body (T : Nat → Int) (ls : List Ln) (h : ls.length ≤ 8) : Full (body T ls) := by
  unfold Full; rw [rdN_body T ls h, body_length]
theorem body_dropT (T : Nat → Int) (ls : List Ln) (i : Nat) (h : i < 10) : ∃ ys, (body T ls).drop (1 + 2 * i) = two (T i) ++ ys := by
  obtain ⟨ys, hy⟩ := layT_drop T 10 i h
  refine ⟨ys ++ layLs ls, ?_⟩
  unfold body
  rw [show 1 + 2 * i = 2 * i + 1 by omega, List.drop_succ_cons, List.drop_append_of_le_length (by rw [layT_length]; omega), hy, List.append_assoc]
theorem body_dropL (T : Nat → Int) (ls : List Ln) (m : Nat) : (body T ls).drop (21 + m) = (layLs ls).drop m := by
  unfold body
  rw [show 21 + m = (20 + m) + 1 by omega, List.drop_succ_cons, show 20 + m = (layT T 10).length + m by rw [layT_length], List.drop_append, List.drop_eq_nil_of_le (by omega), List.nil_append, Nat.add_sub_cancel_left]
theorem rdT_body (T : Nat → Int) (ls : List Ln) (hT : OkTs T) (i : Nat) (h : i < 10) : rdT (body T ls) i = T i := by
  obtain ⟨ys, hy⟩ := body_dropT T ls i h
  have := hT i h
  unfold rdT
  rw [hy, val_two (by omega) (by omega)]
theorem rdL_lay (l : Ln) (h : OkL l) (xs ys : List (BitVec 8)) (m : Nat) (hx : xs.drop m = layL l ++ ys) : rdL xs m = l := by
  have e : ∀ k, xs.drop (m + k) = (layL l ++ ys).drop k := fun k => by rw [← hx, List.drop_drop]
  unfold rdL
  rw [hx, e 4, e 8, e 10, e 12]
  have e0 : layL l ++ ys = four l.k ++ (four l.g ++ (two l.a ++ (two l.b ++ (two l.c ++ ys)))) := by simp [layL]
  have e4 : (layL l ++ ys).drop 4 = four l.g ++ (two l.a ++ (two l.b ++ (two l.c ++ ys))) := by rw [e0]; rfl
  have e8 : (layL l ++ ys).drop 8 = two l.a ++ (two l.b ++ (two l.c ++ ys)) := by rw [e0]; rfl
  have e10 : (layL l ++ ys).drop 10 = two l.b ++ (two l.c ++ ys) := by rw [e0]; rfl
  have e12 : (layL l ++ ys).drop 12 = two l.c ++ ys := by rw [e0]; rfl
  rw [e4, e8, e10, e12, e0]
  obtain ⟨h1, h2, h3, h4, h5, h6, h7, h8, h9⟩ := h
  rw [val_four (by omega) (by omega), val_four (by omega) (by omega), val_two (by omega) (by omega), val_two (by omega) (by omega), val_two (by omega) (by omega)]
theorem rdLs_body (T : Nat → Int) (ls : List Ln) (hL : OkLs ls) : rdLs (body T ls) ls.length = ls := by
  apply List.ext_getElem?
  intro j
  by_cases hj : j < ls.length
  · have hy : ls[j]? = some ls[j] := List.getElem?_eq_getElem hj
    rw [rdLs_at _ _ _ hj, hy]
    congr 1
    refine rdL_lay _ (hL _ (List.getElem_mem hj)) _ (layLs (ls.drop (j + 1))) _ ?_
    rw [body_dropL, layLs_drop _ _ _ hy]
  · rw [List.getElem?_eq_none (by rw [rdLs_length]; omega), List.getElem?_eq_none (by omega)]

/-! What was read is laid as it was. -/
theorem lay2_num (a b : BitVec 8) : two (num [a, b] : Int) = [a, b] := by
  have ha := a.isLt
  have hb := b.isLt
  unfold two lay2
  have e : (BitVec.ofInt 16 (num [a, b] : Int)).toNat = a.toNat * 256 + b.toNat := by
    rw [num_two, BitVec.toNat_ofInt]; omega
  rw [e]
  congr 1
  · apply BitVec.eq_of_toNat_eq; simp; omega
  · congr 1
    apply BitVec.eq_of_toNat_eq; simp; omega
theorem lay4_num (a b c d : BitVec 8) : four (num [a, b, c, d] : Int) = [a, b, c, d] := by
  have ha := a.isLt
  have hb := b.isLt
  have hc := c.isLt
  have hd := d.isLt
  unfold four lay4
  have e : (BitVec.ofInt 32 (num [a, b, c, d] : Int)).toNat = ((a.toNat * 256 + b.toNat) * 256 + c.toNat) * 256 + d.toNat := by
    rw [num_four, BitVec.toNat_ofInt]; omega
  rw [e]
  congr 1
  · apply BitVec.eq_of_toNat_eq; simp; omega
  · congr 1
    · apply BitVec.eq_of_toNat_eq; simp; omega
    · congr 1
      · apply BitVec.eq_of_toNat_eq; simp; omega
      · congr 1
        apply BitVec.eq_of_toNat_eq; simp; omega
theorem two_val (xs : List (BitVec 8)) (h : 2 ≤ xs.length) : two (val 2 xs : Int) = xs.take 2 := by
  rw [val_all h]
  match xs, h with
  | a :: b :: t, _ => exact lay2_num a b
theorem four_val (xs : List (BitVec 8)) (h : 4 ≤ xs.length) : four (val 4 xs : Int) = xs.take 4 := by
  rw [val_all h]
  match xs, h with
  | a :: b :: c :: d :: t, _ => exact lay4_num a b c d
theorem take_more (xs : List (BitVec 8)) (m k : Nat) : (xs.drop m).take k ++ (xs.drop (m + k)) = xs.drop m := by
  rw [show xs.drop (m + k) = (xs.drop m).drop k by rw [List.drop_drop], List.take_append_drop]
theorem layT_rd (xs : List (BitVec 8)) (n : Nat) (h : 1 + 2 * n ≤ xs.length) : layT (rdT xs) n ++ xs.drop (1 + 2 * n) = xs.drop 1 := by
  induction n with
  | zero => simp [layT]
  | succ n ih =>
    have ih := ih (by omega)
    unfold layT
    rw [List.append_assoc, ← ih]
    congr 1
    unfold rdT
    rw [two_val _ (by simp; omega), show 1 + 2 * (n + 1) = 1 + 2 * n + 2 by omega, take_more]
theorem layL_rd (xs : List (BitVec 8)) (m : Nat) (h : m + 14 ≤ xs.length) : layL (rdL xs m) ++ xs.drop (m + 14) = xs.drop m := by
  unfold layL rdL
  simp only [List.append_assoc]
  rw [four_val _ (by simp; omega), four_val _ (by simp; omega), two_val _ (by simp; omega), two_val _ (by simp; omega), two_val _ (by simp; omega)]
  rw [show m + 14 = m + 12 + 2 by omega, take_more, show m + 12 = m + 10 + 2 by omega, take_more, show m + 10 = m + 8 + 2 by omega, take_more, show m + 8 = m + 4 + 4 by omega, take_more, take_more]
theorem layLs_rd (xs : List (BitVec 8)) (n : Nat) (h : 21 + 14 * n ≤ xs.length) : layLs (rdLs xs n) ++ xs.drop (21 + 14 * n) = xs.drop 21 := by
  induction n with
  | zero => simp [rdLs, layLs]
  | succ n ih =>
    have ih := ih (by omega)
    rw [← ih, show rdLs xs (n + 1) = rdLs xs n ++ [rdL xs (21 + 14 * n)] from rfl]
    rw [show layLs (rdLs xs n ++ [rdL xs (21 + 14 * n)]) = layLs (rdLs xs n) ++ layL (rdL xs (21 + 14 * n)) by simp [layLs], List.append_assoc]
    congr 1
    rw [show 21 + 14 * (n + 1) = 21 + 14 * n + 14 by omega, layL_rd _ _ (by omega)]
theorem body_rd (xs : List (BitVec 8)) (h : Full xs) : body (rdT xs) (rdLs xs (rdN xs)) = xs := by
  have hn := rdN_lt xs
  unfold Full at h
  match xs, h with
  | x :: t, h =>
    have e0 : BitVec.ofNat 8 (rdN (x :: t)) = x := by
      unfold rdN
      rw [val_all (by simp)]
      simp [num_single]
    have e1 := layT_rd (x :: t) 10 (by omega)
    have e2 := layLs_rd (x :: t) (rdN (x :: t)) (by omega)
    rw [List.drop_eq_nil_of_le (by omega), List.append_nil] at e2
    unfold body
    rw [rdLs_length, e0]
    congr 1
    rw [e2]
    simpa using e1
end Go.Proofs.YtkagkfgnnhdofaaDoor

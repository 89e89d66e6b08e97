/-
  Numbers of bytes, the highest first: plain mathematics.
-/
import GoSem.Claim
namespace Go.Proofs.Ytecfobmmbdmdgaa

/-- The number of some bytes, the highest first. -/
def num (xs : List (BitVec 8)) : Nat := xs.foldl (fun n x => n * 256 + x.toNat) 0
theorem num_nil : num [] = 0 := rfl
theorem num_snoc (xs : List (BitVec 8)) (x : BitVec 8) : num (xs ++ [x]) = num xs * 256 + x.toNat := by
  unfold num; rw [List.foldl_append]; rfl
theorem num_lt (k : Nat) (xs : List (BitVec 8)) (h : xs.length ≤ k) : num xs < 256 ^ k := by
  induction k generalizing xs with
  | zero =>
    have : xs = [] := List.length_eq_zero_iff.1 (by omega)
    subst this; decide
  | succ k ih =>
    rcases List.eq_nil_or_concat xs with rfl | ⟨ys, x, rfl⟩
    · rw [num_nil]; exact Nat.pow_pos (by decide)
    · rw [List.concat_eq_append] at h ⊢
      rw [num_snoc]
      have h1 := ih ys (by simp at h; omega)
      have h2 := x.isLt
      rw [Nat.pow_succ]
      omega
/-- What a call that reads k bytes tells. -/
def val (k : Nat) (xs : List (BitVec 8)) : Nat := if k ≤ xs.length then num (xs.take k) else 0
theorem val_lt (k : Nat) (xs : List (BitVec 8)) : val k xs < 256 ^ k := by
  unfold val
  split
  · exact num_lt k _ (by simp; omega)
  · exact Nat.pow_pos (by decide)
theorem val1_lt (xs : List (BitVec 8)) : val 1 xs < 256 := val_lt 1 xs
theorem val2_lt (xs : List (BitVec 8)) : val 2 xs < 65536 := val_lt 2 xs
theorem val4_lt (xs : List (BitVec 8)) : val 4 xs < 4294967296 := val_lt 4 xs
theorem val_few {k : Nat} {xs : List (BitVec 8)} (h : xs.length < k) : val k xs = 0 := by
  unfold val; rw [if_neg (by omega)]
theorem val_nil (k : Nat) (h : 0 < k) : val k [] = 0 := val_few (by simpa using h)
theorem val_all {k : Nat} {xs : List (BitVec 8)} (h : k ≤ xs.length) : val k xs = num (xs.take k) := by
  unfold val; rw [if_pos h]
theorem num_next (xs : List (BitVec 8)) (k : Nat) (x : BitVec 8) (h : xs[k]? = some x) : num (xs.take (k + 1)) = num (xs.take k) * 256 + x.toNat := by
  have : xs.take (k + 1) = xs.take k ++ [x] := by
    rw [List.take_add_one, h]; rfl
  rw [this, num_snoc]
theorem take_lt (xs : List (BitVec 8)) (k : Nat) (hk : k ≤ 3) : num (xs.take k) < 16777216 := by
  have h := num_lt 3 (xs.take k) (by simp; omega)
  simpa using h

/-- The bytes of a number of two bytes, of four. -/
def lay2 (n : BitVec 16) : List (BitVec 8) := [BitVec.ofNat 8 (n.toNat / 256), BitVec.ofNat 8 n.toNat]
def lay4 (n : BitVec 32) : List (BitVec 8) := [BitVec.ofNat 8 (n.toNat / 16777216), BitVec.ofNat 8 (n.toNat / 65536), BitVec.ofNat 8 (n.toNat / 256), BitVec.ofNat 8 n.toNat]
theorem num_two (a b : BitVec 8) : num [a, b] = a.toNat * 256 + b.toNat := by simp [num]
theorem num_four (a b c d : BitVec 8) : num [a, b, c, d] = ((a.toNat * 256 + b.toNat) * 256 + c.toNat) * 256 + d.toNat := by simp [num]
theorem num_lay2 (n : BitVec 16) : num (lay2 n) = n.toNat := by
  have h := n.isLt
  unfold lay2
  rw [num_two]
  simp
  omega
theorem num_lay4 (n : BitVec 32) : num (lay4 n) = n.toNat := by
  have h := n.isLt
  unfold lay4
  rw [num_four]
  simp
  omega
theorem val_lay2 (n : BitVec 16) (xs : List (BitVec 8)) : val 2 (lay2 n ++ xs) = n.toNat := by
  rw [val_all (by simp [lay2])]
  rw [show (lay2 n ++ xs).take 2 = lay2 n by simp [lay2], num_lay2]
theorem val_lay4 (n : BitVec 32) (xs : List (BitVec 8)) : val 4 (lay4 n ++ xs) = n.toNat := by
  rw [val_all (by simp [lay4])]
  rw [show (lay4 n ++ xs).take 4 = lay4 n by simp [lay4], num_lay4]
theorem drop_lay2 (n : BitVec 16) (xs : List (BitVec 8)) : (lay2 n ++ xs).drop 2 = xs := by simp [lay2]
theorem drop_lay4 (n : BitVec 32) (xs : List (BitVec 8)) : (lay4 n ++ xs).drop 4 = xs := by simp [lay4]

/-- The first d of a number's bytes, of which there are size. -/
def tops (n size : Nat) : Nat → List (BitVec 8)
  | 0 => []
  | d + 1 => tops n size d ++ [BitVec.ofNat 8 (n / 2 ^ (8 * (size - 1 - d)))]
theorem tops_two (n : BitVec 16) : tops n.toNat 2 2 = lay2 n := by simp [tops, lay2]
theorem tops_four (n : BitVec 32) : tops n.toNat 4 4 = lay4 n := by simp [tops, lay4]
theorem tops_length (n size d : Nat) : (tops n size d).length = d := by
  induction d with
  | zero => rfl
  | succ d ih => simp [tops, ih]

/-- Numbers' bytes, one behind the other. -/
def flat4 (l : List (BitVec 32)) : List (BitVec 8) := l.flatMap lay4
def flat2 (l : List (BitVec 16)) : List (BitVec 8) := l.flatMap lay2
theorem flat4_length (l : List (BitVec 32)) : (flat4 l).length = 4 * l.length := by
  induction l with
  | nil => rfl
  | cons x l ih => simp [flat4, lay4] at ih ⊢; omega
theorem flat2_length (l : List (BitVec 16)) : (flat2 l).length = 2 * l.length := by
  induction l with
  | nil => rfl
  | cons x l ih => simp [flat2, lay2] at ih ⊢; omega
theorem flat4_next (l : List (BitVec 32)) (k : Nat) (y : BitVec 32) (h : l[k]? = some y) : flat4 (l.take (k + 1)) = flat4 (l.take k) ++ lay4 y := by
  rw [List.take_add_one, h]; simp [flat4]
theorem flat2_next (l : List (BitVec 16)) (k : Nat) (y : BitVec 16) (h : l[k]? = some y) : flat2 (l.take (k + 1)) = flat2 (l.take k) ++ lay2 y := by
  rw [List.take_add_one, h]; simp [flat2]
theorem flat4_drop (l : List (BitVec 32)) (k : Nat) (y : BitVec 32) (h : l[k]? = some y) : flat4 (l.drop k) = lay4 y ++ flat4 (l.drop (k + 1)) := by
  obtain ⟨hk, rfl⟩ := List.getElem?_eq_some_iff.1 h
  rw [List.drop_eq_getElem_cons hk]; unfold flat4; rw [List.flatMap_cons]
theorem flat2_drop (l : List (BitVec 16)) (k : Nat) (y : BitVec 16) (h : l[k]? = some y) : flat2 (l.drop k) = lay2 y ++ flat2 (l.drop (k + 1)) := by
  obtain ⟨hk, rfl⟩ := List.getElem?_eq_some_iff.1 h
  rw [List.drop_eq_getElem_cons hk]; unfold flat2; rw [List.flatMap_cons]
end Go.Proofs.Ytecfobmmbdmdgaa

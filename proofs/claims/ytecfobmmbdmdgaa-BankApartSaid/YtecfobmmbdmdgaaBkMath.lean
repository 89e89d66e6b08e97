/-
  Records one behind the other: plain mathematics.
-/
import Derived.Test.YtecfobmmbdmdgaaOcMath
import Derived.Test.YtecfobmmbdmdgaaCrcOpens
namespace Go.Proofs.Ytecfobmmbdmdgaa

/-- What is told of a record: its number, its data, the place behind it. -/
structure Nt where
  s : Nat
  d : List (BitVec 8)
  e : Nat

/-- A record's bytes ahead of its sum; the record. -/
def hd (s : Nat) (d : List (BitVec 8)) : List (BitVec 8) := BitVec.ofNat 8 d.length :: (lay4 (BitVec.ofNat 32 s) ++ d)
def pr (s : Nat) (d : List (BitVec 8)) : List (BitVec 8) := sealed (hd s d) ++ [0#8]
theorem len_sealed (xs : List (BitVec 8)) : (sealed xs).length = xs.length + 2 := by simp [sealed]
theorem len_hd (s : Nat) (d : List (BitVec 8)) : (hd s d).length = d.length + 5 := by simp [hd, lay4]
theorem len_pr (s : Nat) (d : List (BitVec 8)) : (pr s d).length = d.length + 8 := by simp [pr, len_sealed, len_hd]

/-- How many bytes a record has that xs begins with, if there are as many, and the last one closes it. -/
def bsz (xs : List (BitVec 8)) : Option Nat :=
  match xs with
  | [] => none
  | x :: _ => if 1 ≤ x.toNat ∧ x.toNat ≤ 40 ∧ x.toNat + 8 ≤ xs.length ∧ xs[x.toNat + 7]? = some 0#8 then some (x.toNat + 8) else none
/-- The record with which xs begins: number, data, how many bytes. -/
def bone (xs : List (BitVec 8)) : Option (Nat × List (BitVec 8) × Nat) :=
  match bsz xs with
  | none => none
  | some n => if opens (xs.take (n - 1)) = true then some (num (((front (xs.take (n - 1))).drop 1).take 4), (front (xs.take (n - 1))).drop 5, n) else none
def brec (xs : List (BitVec 8)) (o : Nat) : Option Nt :=
  match bone (xs.drop o) with
  | none => none
  | some (s, d, n) => some ⟨s, d, o + n⟩
/-- The record behind n. -/
def bnxt (xs : List (BitVec 8)) (n : Nt) : Option Nt :=
  if n.s = 4294967295 then none else
  match brec xs n.e with
  | none => none
  | some m => if m.s = n.s + 1 then some m else none
def btodo (xs : List (BitVec 8)) : Nat → Option Nt → List Nt
  | 0, _ => []
  | _ + 1, none => []
  | f + 1, some n => n :: btodo xs f (bnxt xs n)
def brest (xs : List (BitVec 8)) (c : Option Nt) : List Nt := btodo xs (xs.length + 1) c
def bnotes (xs : List (BitVec 8)) : List Nt := brest xs (brec xs 0)

theorem bsz_some {xs : List (BitVec 8)} {n : Nat} (h : bsz xs = some n) : ∃ x t, xs = x :: t ∧ 1 ≤ x.toNat ∧ x.toNat ≤ 40 ∧ n = x.toNat + 8 ∧ n ≤ xs.length ∧ xs[n - 1]? = some 0#8 := by
  cases xs with
  | nil => simp [bsz] at h
  | cons x t =>
    simp only [bsz] at h
    split at h
    · rename_i hc
      obtain ⟨h1, h2, h3, h4⟩ := hc
      cases h
      exact ⟨x, t, rfl, h1, h2, rfl, h3, by rw [show x.toNat + 8 - 1 = x.toNat + 7 by omega]; exact h4⟩
    · cases h
theorem lay4_num (a b c d : BitVec 8) : lay4 (BitVec.ofNat 32 (num [a, b, c, d])) = [a, b, c, d] := by
  have h1 := a.isLt
  have h2 := b.isLt
  have h3 := c.isLt
  have h4 := d.isLt
  rw [num_four]
  unfold lay4
  have e : (BitVec.ofNat 32 (((a.toNat * 256 + b.toNat) * 256 + c.toNat) * 256 + d.toNat)).toNat = ((a.toNat * 256 + b.toNat) * 256 + c.toNat) * 256 + d.toNat := by
    rw [BitVec.toNat_ofNat]; omega
  rw [e]
  congr 1
  · apply BitVec.eq_of_toNat_eq; simp; omega
  · congr 1
    · apply BitVec.eq_of_toNat_eq; simp; omega
    · congr 1
      · apply BitVec.eq_of_toNat_eq; simp; omega
      · congr 1
        apply BitVec.eq_of_toNat_eq; simp; omega
theorem four_of {xs : List (BitVec 8)} (h : 4 ≤ xs.length) : ∃ a b c d t, xs = a :: b :: c :: d :: t := by
  rcases xs with _ | ⟨a, _ | ⟨b, _ | ⟨c, _ | ⟨d, t⟩⟩⟩⟩
  all_goals first | (simp at h; done) | exact ⟨_, _, _, _, _, rfl⟩

/-- What a record tells. -/
theorem bone_facts {xs : List (BitVec 8)} {s n : Nat} {d : List (BitVec 8)} (h : bone xs = some (s, d, n)) :
    bsz xs = some n ∧ opens (xs.take (n - 1)) = true ∧ s = num (((front (xs.take (n - 1))).drop 1).take 4) ∧ d = (front (xs.take (n - 1))).drop 5 := by
  unfold bone at h
  split at h
  · cases h
  · rename_i m hm
    split at h
    · rename_i ho
      simp only [Option.some.injEq, Prod.mk.injEq] at h
      obtain ⟨rfl, rfl, rfl⟩ := h
      exact ⟨hm, ho, rfl, rfl⟩
    · cases h
theorem bone_some {xs : List (BitVec 8)} {s n : Nat} {d : List (BitVec 8)} (h : bone xs = some (s, d, n)) :
    1 ≤ d.length ∧ d.length ≤ 40 ∧ s < 4294967296 ∧ n = d.length + 8 ∧ n ≤ xs.length ∧ xs.take n = pr s d := by
  obtain ⟨hs, ho, rfl, rfl⟩ := bone_facts h
  obtain ⟨x, t, rfl, h1, h2, rfl, h3, h4⟩ := bsz_some hs
  have hf := sealed_front ho
  have hlen : (front ((x :: t).take (x.toNat + 8 - 1))).length = x.toNat + 5 := by
    unfold front
    simp at h3 ⊢
    omega
  have hhead : (front ((x :: t).take (x.toNat + 8 - 1)))[0]? = some x := by
    unfold front
    rw [List.getElem?_take, if_pos (by simp at h3 ⊢; omega), List.getElem?_take, if_pos (by omega)]
    rfl
  have htake : (x :: t).take (x.toNat + 8) = (x :: t).take (x.toNat + 8 - 1) ++ [0#8] := by
    have : x.toNat + 8 = (x.toNat + 8 - 1) + 1 := by omega
    rw [this, List.take_add_one]
    rw [show x.toNat + 8 - 1 + 1 - 1 = x.toNat + 8 - 1 by omega, h4]
    rfl
  generalize front ((x :: t).take (x.toNat + 8 - 1)) = f at *
  cases f with
  | nil => simp at hlen
  | cons y r =>
    simp only [List.length_cons, List.getElem?_cons_zero, Option.some.injEq] at hlen hhead
    subst hhead
    obtain ⟨a, b, c, d, u, rfl⟩ := four_of (xs := r) (by omega)
    simp only [List.length_cons] at hlen
    have hn : num [a, b, c, d] < 4294967296 := num_lt 4 [a, b, c, d] (by simp)
    have hul : u.length = y.toNat := by omega
    refine ⟨by simp; omega, by simp; omega, by simpa using hn, by simp; omega, h3, ?_⟩
    rw [htake, ← hf]
    unfold pr hd
    have e1 : List.take 4 (List.drop 1 (y :: a :: b :: c :: d :: u)) = [a, b, c, d] := rfl
    have e2 : List.drop 5 (y :: a :: b :: c :: d :: u) = u := rfl
    rw [e1, e2, lay4_num, hul, BitVec.ofNat_toNat, BitVec.setWidth_eq]
    rfl
theorem bone_pr (s : Nat) (d t : List (BitVec 8)) (h1 : 1 ≤ d.length) (h2 : d.length ≤ 40) (hs : s < 4294967296) : bone (pr s d ++ t) = some (s, d, d.length + 8) := by
  have hb : (BitVec.ofNat 8 d.length).toNat = d.length := by rw [BitVec.toNat_ofNat]; omega
  have hz : bsz (pr s d ++ t) = some (d.length + 8) := by
    have e : pr s d ++ t = BitVec.ofNat 8 d.length :: ((lay4 (BitVec.ofNat 32 s) ++ d) ++ [hi (crcSum (hd s d)), lo (crcSum (hd s d))] ++ [0#8] ++ t) := by
      simp [pr, sealed, hd]
    have hl : (pr s d ++ t).length = d.length + 8 + t.length := by rw [List.length_append, len_pr]
    have hg : (pr s d ++ t)[d.length + 7]? = some 0#8 := by
      rw [List.getElem?_append_left (by rw [len_pr]; omega)]
      unfold pr
      rw [List.getElem?_append_right (by rw [len_sealed, len_hd]; omega), len_sealed, len_hd]
      simp
    rw [e] at hl hg ⊢
    simp only [bsz]
    rw [hb, if_pos ⟨h1, h2, by omega, hg⟩]
  have ht : (pr s d ++ t).take (d.length + 8 - 1) = sealed (hd s d) := by
    unfold pr
    rw [List.append_assoc, List.take_append_of_le_length (by rw [len_sealed, len_hd]; omega), List.take_of_length_le (by rw [len_sealed, len_hd]; omega)]
  unfold bone
  rw [hz]
  simp only [ht, opens_sealed, if_true, front_sealed]
  have e1 : (hd s d).drop 1 = lay4 (BitVec.ofNat 32 s) ++ d := rfl
  have e2 : (hd s d).drop 5 = d := by simp [hd, lay4]
  rw [e1, e2]
  have e3 : (lay4 (BitVec.ofNat 32 s) ++ d).take 4 = lay4 (BitVec.ofNat 32 s) := by simp [lay4]
  rw [e3, num_lay4, BitVec.toNat_ofNat, Nat.mod_eq_of_lt hs]

/-- A record as data is one that is found at its place. -/
theorem brec_some {xs : List (BitVec 8)} {o : Nat} {n : Nt} (h : brec xs o = some n) :
    1 ≤ n.d.length ∧ n.d.length ≤ 40 ∧ n.s < 4294967296 ∧ n.e = o + (n.d.length + 8) ∧ n.e ≤ xs.length ∧ (xs.drop o).take (n.d.length + 8) = pr n.s n.d := by
  unfold brec at h
  split at h
  · cases h
  · rename_i s d m hm
    cases h
    obtain ⟨h1, h2, h3, rfl, h5, h6⟩ := bone_some hm
    refine ⟨h1, h2, h3, rfl, ?_, h6⟩
    simp at h5
    show o + (d.length + 8) ≤ xs.length
    omega
theorem brec_end (xs : List (BitVec 8)) (o : Nat) (h : xs.length ≤ o) : brec xs o = none := by
  unfold brec
  rw [List.drop_eq_nil_of_le h]
  rfl
theorem bnxt_some {xs : List (BitVec 8)} {n m : Nt} (h : bnxt xs n = some m) : n.s ≠ 4294967295 ∧ brec xs n.e = some m ∧ m.s = n.s + 1 := by
  unfold bnxt at h
  split at h
  · cases h
  · rename_i h0
    split at h
    · cases h
    · rename_i m' hm
      split at h
      · rename_i hs
        cases h
        exact ⟨h0, hm, hs⟩
      · cases h
theorem bnxt_end {xs : List (BitVec 8)} {n m : Nt} (h : bnxt xs n = some m) : n.e + 9 ≤ m.e ∧ m.e ≤ xs.length := by
  obtain ⟨_, h, _⟩ := bnxt_some h
  obtain ⟨h1, _, _, h2, h3, _⟩ := brec_some h
  omega
theorem btodo_fuel (xs : List (BitVec 8)) : ∀ (f g : Nat) (c : Option Nt), (∀ n, c = some n → n.e ≤ xs.length ∧ xs.length < f + n.e ∧ xs.length < g + n.e) → btodo xs f c = btodo xs g c
  | 0, 0, _, _ => rfl
  | 0, _ + 1, none, _ => rfl
  | _ + 1, 0, none, _ => rfl
  | _ + 1, _ + 1, none, _ => rfl
  | 0, _, some n, h => by have := h n rfl; omega
  | _, 0, some n, h => by have := h n rfl; omega
  | f + 1, g + 1, some n, h => by
    have h0 := h n rfl
    simp only [btodo]
    rw [btodo_fuel xs f g (bnxt xs n) fun m hm => by have := bnxt_end hm; omega]
theorem brest_none (xs : List (BitVec 8)) : brest xs none = [] := rfl
theorem brest_some (xs : List (BitVec 8)) (n : Nt) (_ : n.e ≤ xs.length) : brest xs (some n) = n :: brest xs (bnxt xs n) := by
  unfold brest
  simp only [btodo]
  cases hn : bnxt xs n with
  | none => cases xs.length <;> rfl
  | some m => rw [btodo_fuel xs xs.length (xs.length + 1) (some m) fun k hk => by cases hk; have := bnxt_end hn; omega]

theorem brec_none {xs : List (BitVec 8)} {o : Nat} (h : brec xs o = none) : bsz (xs.drop o) = none ∨ ∃ n, bsz (xs.drop o) = some n ∧ opens ((xs.drop o).take (n - 1)) = false := by
  unfold brec bone at h
  cases hz : bsz (xs.drop o) with
  | none => exact .inl rfl
  | some n =>
    refine .inr ⟨n, rfl, ?_⟩
    rw [hz] at h
    simp only at h
    split at h
    · rename_i heq
      split at heq
      · cases heq
      · rename_i ho
        simpa using ho
    · cases h
theorem brec_yes {xs : List (BitVec 8)} {o : Nat} {m : Nt} (h : brec xs o = some m) :
    ∃ n, bsz (xs.drop o) = some n ∧ opens ((xs.drop o).take (n - 1)) = true ∧ m.s = val 4 ((front ((xs.drop o).take (n - 1))).drop 1) ∧ m.d = ((front ((xs.drop o).take (n - 1))).drop 1).drop 4 ∧ m.e = o + n ∧ 9 ≤ n ∧ n ≤ 48 ∧ o + n ≤ xs.length ∧
      (front ((xs.drop o).take (n - 1))).length = n - 3 := by
  unfold brec at h
  split at h
  · cases h
  · rename_i s d n hm
    cases h
    obtain ⟨hz, ho, hs, hd⟩ := bone_facts hm
    obtain ⟨h1, h2, h3, h4, h5, h6⟩ := bone_some hm
    have hlen : (front ((xs.drop o).take (n - 1))).length = n - 3 := by
      unfold front
      rw [List.length_take, List.length_take]
      omega
    have h5' : n ≤ xs.length - o := by simpa using h5
    refine ⟨n, hz, ho, ?_, ?_, rfl, by omega, by omega, by omega, hlen⟩
    · rw [val_all (by rw [List.length_drop, hlen]; omega)]
      exact hs
    · rw [List.drop_drop]; exact hd

theorem btodo_len (xs : List (BitVec 8)) : ∀ (f : Nat) (c : Option Nt), (btodo xs f c).length ≤ f
  | 0, _ => by simp [btodo]
  | f + 1, none => by simp [btodo]
  | f + 1, some n => by have := btodo_len xs f (bnxt xs n); simp [btodo]; omega
theorem bnotes_len (xs : List (BitVec 8)) : (bnotes xs).length ≤ xs.length + 1 := btodo_len _ _ _

/-- Are all bytes blank from o on? -/
def bblank (xs : List (BitVec 8)) (o : Nat) : Bool := (xs.drop o).all (· == 255#8)
end Go.Proofs.Ytecfobmmbdmdgaa

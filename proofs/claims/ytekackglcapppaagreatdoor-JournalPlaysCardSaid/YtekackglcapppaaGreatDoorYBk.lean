/-
  BkMath BkFlat BkNote BkPrint BkRec BkRecord BkNext BkRow BkRange BkFar BkLast BkBlank: merged.
-/
import Derived.OwnWalkIn
import Derived.Deep.RegionHeld3
import Derived.RangeFuncFrom
import Derived.RangeFuncCalls
import Derived.TacticsInMore
import Derived.LoopIn
import Derived.RegionIn
import Derived.Deep.DeepCutAuto
import Derived.Test.YtekackglcapppaaGreatDoorYOc
import Derived.Test.YtekackglcapppaaGreatDoorYCrc
import Derived.Test.YtekackglcapppaaGreatDoorBlk
import Derived.Test.YtekackglcapppaaGreatDoorYByt
import Derived.Test.YtekackglcapppaaGreatDoorKeep
/-
  Records one behind the other: plain mathematics.
-/
namespace Go.Proofs.YtekackglcapppaaGreatDoor

/-- What is told of a record: its number, its data, the place behind it. -/
structure Nt where
  s : Nat
  d : List (BitVec 8)
  e : Nat

/-- A record's bytes ahead of its sum; the record. -/
def hd (s : Nat) (d : List (BitVec 8)) : List (BitVec 8) := BitVec.ofNat 8 d.length :: (lay4 (BitVec.ofNat 32 s) ++ d)
def pr (s : Nat) (d : List (BitVec 8)) : List (BitVec 8) := sealed (hd s d) ++ [0#8]
theorem len_sealed (xs : List (BitVec 8)) : (sealed xs).length = xs.length + 2 := by simp [sealed]
theorem len_hd (s : Nat) (d : List (BitVec 8)) : (hd s d).length = d.length + 5 := by simp [hd, lay4]
theorem len_pr (s : Nat) (d : List (BitVec 8)) : (pr s d).length = d.length + 8 := by simp [pr, len_sealed, len_hd]

/-- How many bytes a record has that xs begins with, if there are as many, and the last one closes it. -/
def bsz (xs : List (BitVec 8)) : Option Nat :=
  match xs with
  | [] => none
  | x :: _ => if 1 ≤ x.toNat ∧ x.toNat ≤ 40 ∧ x.toNat + 8 ≤ xs.length ∧ xs[x.toNat + 7]? = some 0#8 then some (x.toNat + 8) else none
/-- The record with which xs begins: number, data, how many bytes. -/
def bone (xs : List (BitVec 8)) : Option (Nat × List (BitVec 8) × Nat) :=
  match bsz xs with
  | none => none
  | some n => if opens (xs.take (n - 1)) = true then some (num (((front (xs.take (n - 1))).drop 1).take 4), (front (xs.take (n - 1))).drop 5, n) else none
def brec (xs : List (BitVec 8)) (o : Nat) : Option Nt :=
  match bone (xs.drop o) with
  | none => none
  | some (s, d, n) => some ⟨s, d, o + n⟩
/-- The record behind n. -/
def bnxt (xs : List (BitVec 8)) (n : Nt) : Option Nt :=
  if n.s = 4294967295 then none else
  match brec xs n.e with
  | none => none
  | some m => if m.s = n.s + 1 then some m else none
def btodo (xs : List (BitVec 8)) : Nat → Option Nt → List Nt
  | 0, _ => []
  | _ + 1, none => []
  | f + 1, some n => n :: btodo xs f (bnxt xs n)
def brest (xs : List (BitVec 8)) (c : Option Nt) : List Nt := btodo xs (xs.length + 1) c
def bnotes (xs : List (BitVec 8)) : List Nt := brest xs (brec xs 0)

theorem bsz_some {xs : List (BitVec 8)} {n : Nat} (h : bsz xs = some n) : ∃ x t, xs = x :: t ∧ 1 ≤ x.toNat ∧ x.toNat ≤ 40 ∧ n = x.toNat + 8 ∧ n ≤ xs.length ∧ xs[n - 1]? = some 0#8 := by
  cases xs with
  | nil => simp [bsz] at h
  | cons x t =>
    simp only [bsz] at h
    split at h
    · rename_i hc
      obtain ⟨h1, h2, h3, h4⟩ := hc
      cases h
      exact ⟨x, t, rfl, h1, h2, rfl, h3, by rw [show x.toNat + 8 - 1 = x.toNat + 7 by omega]; exact h4⟩
    · cases h
theorem lay4_num (a b c d : BitVec 8) : lay4 (BitVec.ofNat 32 (num [a, b, c, d])) = [a, b, c, d] := by
  have h1 := a.isLt
  have h2 := b.isLt
  have h3 := c.isLt
  have h4 := d.isLt
  rw [num_four]
  unfold lay4
  have e : (BitVec.ofNat 32 (((a.toNat * 256 + b.toNat) * 256 + c.toNat) * 256 + d.toNat)).toNat = ((a.toNat * 256 + b.toNat) * 256 + c.toNat) * 256 + d.toNat := by
    rw [BitVec.toNat_ofNat]; omega
  rw [e]
  congr 1
  · apply BitVec.eq_of_toNat_eq; simp; omega
  · congr 1
    · apply BitVec.eq_of_toNat_eq; simp; omega
    · congr 1
      · apply BitVec.eq_of_toNat_eq; simp; omega
      · congr 1
        apply BitVec.eq_of_toNat_eq; simp; omega
theorem four_of {xs : List (BitVec 8)} (h : 4 ≤ xs.length) : ∃ a b c d t, xs = a :: b :: c :: d :: t := by
  rcases xs with _ | ⟨a, _ | ⟨b, _ | ⟨c, _ | ⟨d, t⟩⟩⟩⟩
  all_goals first | (simp at h; done) | exact ⟨_, _, _, _, _, rfl⟩

/-- What a record tells. -/
theorem bone_facts {xs : List (BitVec 8)} {s n : Nat} {d : List (BitVec 8)} (h : bone xs = some (s, d, n)) :
    bsz xs = some n ∧ opens (xs.take (n - 1)) = true ∧ s = num (((front (xs.take (n - 1))).drop 1).take 4) ∧ d = (front (xs.take (n - 1))).drop 5 := by
  unfold bone at h
  split at h
  · cases h
  · rename_i m hm
    split at h
    · rename_i ho
      simp only [Option.some.injEq, Prod.mk.injEq] at h
      obtain ⟨rfl, rfl, rfl⟩ := h
      exact ⟨hm, ho, rfl, rfl⟩
    · cases h
theorem bone_some {xs : List (BitVec 8)} {s n : Nat} {d : List (BitVec 8)} (h : bone xs = some (s, d, n)) :
    1 ≤ d.length ∧ d.length ≤ 40 ∧ s < 4294967296 ∧ n = d.length + 8 ∧ n ≤ xs.length ∧ xs.take n = pr s d := by
  obtain ⟨hs, ho, rfl, rfl⟩ := bone_facts h
  obtain ⟨x, t, rfl, h1, h2, rfl, h3, h4⟩ := bsz_some hs
  have hf := sealed_front ho
  have hlen : (front ((x :: t).take (x.toNat + 8 - 1))).length = x.toNat + 5 := by
    unfold front
    simp at h3 ⊢
    omega
  have hhead : (front ((x :: t).take (x.toNat + 8 - 1)))[0]? = some x := by
    unfold front
    rw [List.getElem?_take, if_pos (by simp at h3 ⊢; omega), List.getElem?_take, if_pos (by omega)]
    rfl
  have htake : (x :: t).take (x.toNat + 8) = (x :: t).take (x.toNat + 8 - 1) ++ [0#8] := by
    have : x.toNat + 8 = (x.toNat + 8 - 1) + 1 := by omega
    rw [this, List.take_add_one]
    rw [show x.toNat + 8 - 1 + 1 - 1 = x.toNat + 8 - 1 by omega, h4]
    rfl
  generalize front ((x :: t).take (x.toNat + 8 - 1)) = f at *
  cases f with
  | nil => simp at hlen
  | cons y r =>
    simp only [List.length_cons, List.getElem?_cons_zero, Option.some.injEq] at hlen hhead
    subst hhead
    obtain ⟨a, b, c, d, u, rfl⟩ := four_of (xs := r) (by omega)
    simp only [List.length_cons] at hlen
    have hn : num [a, b, c, d] < 4294967296 := num_lt 4 [a, b, c, d] (by simp)
    have hul : u.length = y.toNat := by omega
    refine ⟨by simp; omega, by simp; omega, by simpa using hn, by simp; omega, h3, ?_⟩
    rw [htake, ← hf]
    unfold pr hd
    have e1 : List.take 4 (List.drop 1 (y :: a :: b :: c :: d :: u)) = [a, b, c, d] := rfl
    have e2 : List.drop 5 (y :: a :: b :: c :: d :: u) = u := rfl
    rw [e1, e2, lay4_num, hul, BitVec.ofNat_toNat, BitVec.setWidth_eq]
    rfl
theorem bone_pr (s : Nat) (d t : List (BitVec 8)) (h1 : 1 ≤ d.length) (h2 : d.length ≤ 40) (hs : s < 4294967296) : bone (pr s d ++ t) = some (s, d, d.length + 8) := by
  have hb : (BitVec.ofNat 8 d.length).toNat = d.length := by rw [BitVec.toNat_ofNat]; omega
  have hz : bsz (pr s d ++ t) = some (d.length + 8) := by
    have e : pr s d ++ t = BitVec.ofNat 8 d.length :: ((lay4 (BitVec.ofNat 32 s) ++ d) ++ [hi (crcSum (hd s d)), lo (crcSum (hd s d))] ++ [0#8] ++ t) := by
      simp [pr, sealed, hd]
    have hl : (pr s d ++ t).length = d.length + 8 + t.length := by rw [List.length_append, len_pr]
    have hg : (pr s d ++ t)[d.length + 7]? = some 0#8 := by
      rw [List.getElem?_append_left (by rw [len_pr]; omega)]
      unfold pr
      rw [List.getElem?_append_right (by rw [len_sealed, len_hd]; omega), len_sealed, len_hd]
      simp
    rw [e] at hl hg ⊢
    simp only [bsz]
    rw [hb, if_pos ⟨h1, h2, by omega, hg⟩]
  have ht : (pr s d ++ t).take (d.length + 8 - 1) = sealed (hd s d) := by
    unfold pr
    rw [List.append_assoc, List.take_append_of_le_length (by rw [len_sealed, len_hd]; omega), List.take_of_length_le (by rw [len_sealed, len_hd]; omega)]
  unfold bone
  rw [hz]
  simp only [ht, opens_sealed, if_true, front_sealed]
  have e1 : (hd s d).drop 1 = lay4 (BitVec.ofNat 32 s) ++ d := rfl
  have e2 : (hd s d).drop 5 = d := by simp [hd, lay4]
  rw [e1, e2]
  have e3 : (lay4 (BitVec.ofNat 32 s) ++ d).take 4 = lay4 (BitVec.ofNat 32 s) := by simp [lay4]
  rw [e3, num_lay4, BitVec.toNat_ofNat, Nat.mod_eq_of_lt hs]

/-- A record as data is one that is found at its place. -/
theorem brec_some {xs : List (BitVec 8)} {o : Nat} {n : Nt} (h : brec xs o = some n) :
    1 ≤ n.d.length ∧ n.d.length ≤ 40 ∧ n.s < 4294967296 ∧ n.e = o + (n.d.length + 8) ∧ n.e ≤ xs.length ∧ (xs.drop o).take (n.d.length + 8) = pr n.s n.d := by
  unfold brec at h
  split at h
  · cases h
  · rename_i s d m hm
    cases h
    obtain ⟨h1, h2, h3, rfl, h5, h6⟩ := bone_some hm
    refine ⟨h1, h2, h3, rfl, ?_, h6⟩
    simp at h5
    show o + (d.length + 8) ≤ xs.length
    omega
theorem brec_end (xs : List (BitVec 8)) (o : Nat) (h : xs.length ≤ o) : brec xs o = none := by
  unfold brec
  rw [List.drop_eq_nil_of_le h]
  rfl
theorem bnxt_some {xs : List (BitVec 8)} {n m : Nt} (h : bnxt xs n = some m) : n.s ≠ 4294967295 ∧ brec xs n.e = some m ∧ m.s = n.s + 1 := by
  unfold bnxt at h
  split at h
  · cases h
  · rename_i h0
    split at h
    · cases h
    · rename_i m' hm
      split at h
      · rename_i hs
        cases h
        exact ⟨h0, hm, hs⟩
      · cases h
theorem bnxt_end {xs : List (BitVec 8)} {n m : Nt} (h : bnxt xs n = some m) : n.e + 9 ≤ m.e ∧ m.e ≤ xs.length := by
  obtain ⟨_, h, _⟩ := bnxt_some h
  obtain ⟨h1, _, _, h2, h3, _⟩ := brec_some h
  omega
theorem btodo_fuel (xs : List (BitVec 8)) : ∀ (f g : Nat) (c : Option Nt), (∀ n, c = some n → n.e ≤ xs.length ∧ xs.length < f + n.e ∧ xs.length < g + n.e) → btodo xs f c = btodo xs g c
  | 0, 0, _, _ => rfl
  | 0, _ + 1, none, _ => rfl
  | _ + 1, 0, none, _ => rfl
  | _ + 1, _ + 1, none, _ => rfl
  | 0, _, some n, h => by have := h n rfl; omega
  | _, 0, some n, h => by have := h n rfl; omega
  | f + 1, g + 1, some n, h => by
    have h0 := h n rfl
    simp only [btodo]
    rw [btodo_fuel xs f g (bnxt xs n) fun m hm => by have := bnxt_end hm; omega]
theorem brest_none (xs : List (BitVec 8)) : brest xs none = [] := rfl
theorem brest_some (xs : List (BitVec 8)) (n : Nt) (_ : n.e ≤ xs.length) : brest xs (some n) = n :: brest xs (bnxt xs n) := by
  unfold brest
  simp only [btodo]
  cases hn : bnxt xs n with
  | none => cases xs.length <;> rfl
  | some m => rw [btodo_fuel xs xs.length (xs.length + 1) (some m) fun k hk => by cases hk; have := bnxt_end hn; omega]

theorem brec_none {xs : List (BitVec 8)} {o : Nat} (h : brec xs o = none) : bsz (xs.drop o) = none ∨ ∃ n, bsz (xs.drop o) = some n ∧ opens ((xs.drop o).take (n - 1)) = false := by
  unfold brec bone at h
  cases hz : bsz (xs.drop o) with
  | none => exact .inl rfl
  | some n =>
    refine .inr ⟨n, rfl, ?_⟩
    rw [hz] at h
    simp only at h
    split at h
    · rename_i heq
      split at heq
      · cases heq
      · rename_i ho
        simpa using ho
    · cases h
theorem brec_yes {xs : List (BitVec 8)} {o : Nat} {m : Nt} (h : brec xs o = some m) :
    ∃ n, bsz (xs.drop o) = some n ∧ opens ((xs.drop o).take (n - 1)) = true ∧ m.s = val 4 ((front ((xs.drop o).take (n - 1))).drop 1) ∧ m.d = ((front ((xs.drop o).take (n - 1))).drop 1).drop 4 ∧ m.e = o + n ∧ 9 ≤ n ∧ n ≤ 48 ∧ o + n ≤ xs.length ∧
      (front ((xs.drop o).take (n - 1))).length = n - 3 := by
  unfold brec at h
  split at h
  · cases h
  · rename_i s d n hm
    cases h
    obtain ⟨hz, ho, hs, hd⟩ := bone_facts hm
    obtain ⟨h1, h2, h3, h4, h5, h6⟩ := bone_some hm
    have hlen : (front ((xs.drop o).take (n - 1))).length = n - 3 := by
      unfold front
      rw [List.length_take, List.length_take]
      omega
    have h5' : n ≤ xs.length - o := by simpa using h5
    refine ⟨n, hz, ho, ?_, ?_, rfl, by omega, by omega, by omega, hlen⟩
    · rw [val_all (by rw [List.length_drop, hlen]; omega)]
      exact hs
    · rw [List.drop_drop]; exact hd

theorem btodo_len (xs : List (BitVec 8)) : ∀ (f : Nat) (c : Option Nt), (btodo xs f c).length ≤ f
  | 0, _ => by simp [btodo]
  | f + 1, none => by simp [btodo]
  | f + 1, some n => by have := btodo_len xs f (bnxt xs n); simp [btodo]; omega
theorem bnotes_len (xs : List (BitVec 8)) : (bnotes xs).length ≤ xs.length + 1 := btodo_len _ _ _

/-- Are all bytes blank from o on? -/
def bblank (xs : List (BitVec 8)) (o : Nat) : Bool := (xs.drop o).all (· == 255#8)
end Go.Proofs.YtekackglcapppaaGreatDoor
/-
  Records one behind the other: what was printed is found; what is found is as it was printed.
-/
namespace Go.Proofs.YtekackglcapppaaGreatDoor

/-- Records of these rows, numbered from s on; what is told of them. -/
def flat (s : Nat) : List (List (BitVec 8)) → List (BitVec 8)
  | [] => []
  | d :: t => pr s d ++ flat (s + 1) t
def nts (s o : Nat) : List (List (BitVec 8)) → List Nt
  | [] => []
  | d :: t => ⟨s, d, o + (d.length + 8)⟩ :: nts (s + 1) (o + (d.length + 8)) t
theorem flat_snoc : ∀ (s : Nat) (l : List (List (BitVec 8))) (d : List (BitVec 8)), flat s (l ++ [d]) = flat s l ++ pr (s + l.length) d
  | s, [], d => by simp [flat]
  | s, c :: t, d => by
    simp only [List.cons_append, flat, flat_snoc (s + 1) t d, List.append_assoc, List.length_cons]
    rw [show s + 1 + t.length = s + (t.length + 1) by omega]
theorem nts_snoc : ∀ (s o : Nat) (l : List (List (BitVec 8))) (d : List (BitVec 8)), nts s o (l ++ [d]) = nts s o l ++ [⟨s + l.length, d, o + (flat s l).length + (d.length + 8)⟩]
  | s, o, [], d => by simp [nts, flat]
  | s, o, c :: t, d => by
    simp only [List.cons_append, nts, nts_snoc (s + 1) _ t d, flat, List.length_append, List.length_cons, len_pr]
    rw [show s + 1 + t.length = s + (t.length + 1) by omega, show o + (c.length + 8) + (flat (s + 1) t).length + (d.length + 8) = o + (c.length + 8 + (flat (s + 1) t).length) + (d.length + 8) by omega]
theorem nts_len (s o : Nat) (l : List (List (BitVec 8))) : (nts s o l).length = l.length := by
  induction l generalizing s o with
  | nil => rfl
  | cons d t ih => simp [nts, ih]
theorem nts_at : ∀ (l : List (List (BitVec 8))) (s o i : Nat) (d : List (BitVec 8)), l[i]? = some d → (nts s o l)[i]? = some ⟨s + i, d, o + (flat s (l.take (i + 1))).length⟩
  | [], s, o, i, d, h => by simp at h
  | c :: t, s, o, 0, d, h => by
    simp at h
    subst h
    simp [nts, flat, len_pr]
  | c :: t, s, o, i + 1, d, h => by
    have ih := nts_at t (s + 1) (o + (c.length + 8)) i d (by simpa using h)
    simp only [nts, List.getElem?_cons_succ, ih, List.take_succ_cons, flat, List.length_append, len_pr]
    rw [show s + 1 + i = s + (i + 1) by omega, show o + (c.length + 8) + (flat (s + 1) (t.take (i + 1))).length = o + (c.length + 8 + (flat (s + 1) (t.take (i + 1))).length) by omega]
theorem flat_len_le (s : Nat) (l : List (List (BitVec 8))) (h : ∀ d ∈ l, d.length ≤ 40) : (flat s l).length ≤ 48 * l.length := by
  induction l generalizing s with
  | nil => simp [flat]
  | cons d t ih =>
    have h1 := h d (by simp)
    have h2 := ih (s + 1) fun d hd => h d (by simp [hd])
    simp [flat, len_pr]
    omega

theorem brec_at {P t : List (BitVec 8)} : brec (P ++ t) P.length = match bone t with
    | none => none
    | some (s, d, n) => some ⟨s, d, P.length + n⟩ := by
  unfold brec
  rw [List.drop_left]
  first | done | (cases bone t <;> rfl)
/-- What was printed, one behind the other, is found as it was, if behind it there is no record. -/
theorem brest_flat : ∀ (l : List (List (BitVec 8))) (s : Nat) (P tail : List (BitVec 8)), (∀ d ∈ l, 1 ≤ d.length ∧ d.length ≤ 40) → s + l.length ≤ 4294967295 → bone tail = none →
    brest (P ++ (flat s l ++ tail)) (brec (P ++ (flat s l ++ tail)) P.length) = nts s P.length l
  | [], s, P, tail, _, _, ht => by
    simp only [flat, List.nil_append]
    rw [brec_at, ht]
    rfl
  | d :: t, s, P, tail, hl, hs, ht => by
    have hd := hl d (by simp)
    have hs' : s + 1 + t.length ≤ 4294967295 := by simp at hs; omega
    have ih := brest_flat t (s + 1) (P ++ pr s d) tail (fun x hx => hl x (by simp [hx])) hs' ht
    have e0 : P ++ (flat s (d :: t) ++ tail) = (P ++ pr s d) ++ (flat (s + 1) t ++ tail) := by simp [flat]
    have hb : brec (P ++ (flat s (d :: t) ++ tail)) P.length = some ⟨s, d, P.length + (d.length + 8)⟩ := by
      rw [brec_at]
      simp only [flat, List.append_assoc]
      rw [bone_pr s d _ hd.1 hd.2 (by omega)]
    have hle : P.length + (d.length + 8) ≤ (P ++ (flat s (d :: t) ++ tail)).length := by simp [flat, len_pr]
    rw [hb, brest_some _ _ hle]
    simp only [nts]
    have hP : (P ++ pr s d).length = P.length + (d.length + 8) := by rw [List.length_append, len_pr]
    rw [← e0, hP] at ih
    have hn : bnxt (P ++ (flat s (d :: t) ++ tail)) ⟨s, d, P.length + (d.length + 8)⟩ = brec (P ++ (flat s (d :: t) ++ tail)) (P.length + (d.length + 8)) := by
      unfold bnxt
      rw [if_neg (by show s ≠ 4294967295; omega)]
      cases hr : brec (P ++ (flat s (d :: t) ++ tail)) (P.length + (d.length + 8)) with
      | none => rfl
      | some m =>
        have hm : m.s = s + 1 := by
          rw [e0, ← hP, brec_at] at hr
          cases t with
          | nil =>
            simp only [flat, List.nil_append, ht] at hr
            cases hr
          | cons d' t' =>
            have hd' := hl d' (by simp)
            simp only [flat, List.append_assoc] at hr
            rw [bone_pr (s + 1) d' _ hd'.1 hd'.2 (by omega)] at hr
            simp only [Option.some.injEq] at hr
            rw [← hr]
        simp [hm]
    rw [hn, ih]
theorem bnotes_flat (s : Nat) (l : List (List (BitVec 8))) (tail : List (BitVec 8)) (hl : ∀ d ∈ l, 1 ≤ d.length ∧ d.length ≤ 40) (hs : s + l.length ≤ 4294967295) (ht : bone tail = none) : bnotes (flat s l ++ tail) = nts s 0 l := by
  have := brest_flat l s [] tail hl hs ht
  simpa [bnotes] using this
theorem bone_ff (x : BitVec 8) (t : List (BitVec 8)) (h : x.toNat = 0 ∨ 40 < x.toNat) : bone (x :: t) = none := by
  have hz : bsz (x :: t) = none := by
    simp only [bsz]
    rw [if_neg (by omega)]
  unfold bone
  rw [hz]
theorem bone_blank (n : Nat) : bone (List.replicate n 255#8) = none := by
  cases n with
  | zero => rfl
  | succ n => exact bone_ff _ _ (.inr (by decide))
/-- Of a record of which only a part was written over blank bytes nothing is found. -/
theorem bone_torn (s cut k : Nat) (d : List (BitVec 8)) (h1 : 1 ≤ d.length) (h2 : d.length ≤ 40) (hc : cut < d.length + 8) (hk : d.length + 8 ≤ cut + k) : bone ((pr s d).take cut ++ List.replicate k 255#8) = none := by
  cases cut with
  | zero =>
    simp only [List.take_zero, List.nil_append]
    exact bone_blank k
  | succ c =>
    have hp : ∃ t, pr s d = BitVec.ofNat 8 d.length :: t := ⟨_, rfl⟩
    obtain ⟨t, ht⟩ := hp
    have hlt : (pr s d).length = d.length + 8 := len_pr s d
    have hb : (BitVec.ofNat 8 d.length).toNat = d.length := by rw [BitVec.toNat_ofNat]; omega
    have hg : ((pr s d).take (c + 1) ++ List.replicate k 255#8)[d.length + 7]? = some 255#8 := by
      rw [List.getElem?_append_right (by rw [List.length_take, hlt]; omega), List.length_take, hlt, List.getElem?_replicate, if_pos (by omega)]
    rw [ht] at hg ⊢
    rw [List.take_succ_cons, List.cons_append] at hg ⊢
    have hz : bsz (BitVec.ofNat 8 d.length :: (t.take c ++ List.replicate k 255#8)) = none := by
      simp only [bsz]
      rw [hb, if_neg]
      rintro ⟨_, _, _, h4⟩
      rw [h4] at hg
      cases hg
    unfold bone
    rw [hz]

/-- What is found: each note is that at the place behind the one ahead, numbered one more. -/
theorem btodo_first {xs : List (BitVec 8)} {f : Nat} {c : Option Nt} {n : Nt} (h : (btodo xs f c)[0]? = some n) : c = some n := by
  cases f with
  | zero => simp [btodo] at h
  | succ f =>
    cases c with
    | none => simp [btodo] at h
    | some m => simp [btodo] at h; rw [h]
theorem btodo_next {xs : List (BitVec 8)} : ∀ (f : Nat) (c : Option Nt) (i : Nat) (n : Nt), (btodo xs f c)[i + 1]? = some n → ∃ m, (btodo xs f c)[i]? = some m ∧ bnxt xs m = some n
  | 0, c, i, n, h => by simp [btodo] at h
  | f + 1, none, i, n, h => by simp [btodo] at h
  | f + 1, some m, i, n, h => by
    simp only [btodo, List.getElem?_cons_succ] at h
    cases i with
    | zero => exact ⟨m, by simp [btodo], btodo_first h⟩
    | succ i =>
      obtain ⟨q, hq, hn⟩ := btodo_next f (bnxt xs m) i n h
      exact ⟨q, by simpa [btodo] using hq, hn⟩
theorem bnotes_first {xs : List (BitVec 8)} {n : Nt} (h : (bnotes xs)[0]? = some n) : brec xs 0 = some n := btodo_first h
theorem bnotes_next {xs : List (BitVec 8)} {i : Nat} {n : Nt} (h : (bnotes xs)[i + 1]? = some n) : ∃ m, (bnotes xs)[i]? = some m ∧ bnxt xs m = some n := btodo_next _ _ _ _ h

/-- Each note that is found has data of 1 to 40 bytes, a number of 32 bits, a place within. -/
theorem bnotes_fit {xs : List (BitVec 8)} {i : Nat} {n : Nt} (h : (bnotes xs)[i]? = some n) : 1 ≤ n.d.length ∧ n.d.length ≤ 40 ∧ n.s < 4294967296 ∧ n.e ≤ xs.length := by
  have key : ∃ o, brec xs o = some n := by
    cases i with
    | zero => exact ⟨0, bnotes_first h⟩
    | succ i =>
      obtain ⟨m, _, hm⟩ := bnotes_next h
      exact ⟨_, (bnxt_some hm).2.1⟩
  obtain ⟨o, ho⟩ := key
  have hb := brec_some ho
  exact ⟨hb.1, hb.2.1, hb.2.2.1, hb.2.2.2.2.1⟩
theorem nv_fit {NV' : Type} {xs : List (BitVec 8)} {ys : List NV'} {f : NV' → Nt} (h : ys.map f = bnotes xs) {i : Nat} {y : NV'} (hy : ys[i]? = some y) : 1 ≤ (f y).d.length ∧ (f y).d.length ≤ 40 ∧ (f y).s < 4294967296 ∧ (f y).e ≤ xs.length :=
  bnotes_fit (i := i) (by rw [← h, List.getElem?_map, hy]; rfl)

/-- Unlike records have unlike bytes. -/
theorem pr_inj {p q : Nat} {a b : List (BitVec 8)} (ha : 1 ≤ a.length ∧ a.length ≤ 40) (hb : 1 ≤ b.length ∧ b.length ≤ 40) (hp : p < 4294967296) (hq : q < 4294967296) (h : pr p a = pr q b) : p = q ∧ a = b := by
  have h1 := bone_pr p a [] ha.1 ha.2 hp
  have h2 := bone_pr q b [] hb.1 hb.2 hq
  rw [h, h2] at h1
  simp only [Option.some.injEq, Prod.mk.injEq] at h1
  exact ⟨h1.1.symm, h1.2.1.symm⟩
theorem blank_end (xs : List (BitVec 8)) (n : Nat) : bblank (xs ++ List.replicate n 255#8) xs.length = true := by
  unfold bblank
  rw [List.drop_left]
  simp
end Go.Proofs.YtekackglcapppaaGreatDoor
/-
  Notes in memory: slices of notes that a call made, appended to.
-/
namespace Go.Proofs.YtekackglcapppaaGreatDoor
open Go.RowKit

/-- A note as it lies in memory: its data's block and room beside what is told. -/
structure NV where
  s : Nat
  g : Nat
  c : Nat
  d : List (BitVec 8)
  e : Nat
def NV.v (y : NV) : Value := .slice (some ⟨y.g, 0, none⟩) y.d.length y.c
def NV.nt (y : NV) : Nt := ⟨y.s, y.d, y.e⟩
def NV.agg (y : NV) : Value := .agg #[.int .u32 (y.s : Int), y.v, .int .i64 (y.e : Int)]
def ntl (y : NV) : List Value := [.int .u32 (y.s : Int), y.v, .int .i64 (y.e : Int)]
theorem ntl_len (l : List NV) : (l.flatMap ntl).length = l.length * 3 := by
  induction l with
  | nil => rfl
  | cons a t ih => rw [List.flatMap_cons, List.length_append, ih, List.length_cons]; show 3 + _ = _; omega
theorem ntl_one (l : List NV) : ∀ u ∈ l.flatMap ntl, u.oneCell' = true := by
  intro u hu
  obtain ⟨a, _, h⟩ := List.mem_flatMap.1 hu
  simp [ntl, NV.v] at h
  rcases h with rfl | rfl | rfl <;> rfl
theorem ntl_at : ∀ (l : List NV) (j : Nat) (y : NV) (r : Nat), r < 3 → l[j]? = some y → (l.flatMap ntl)[j * 3 + r]? = (ntl y)[r]?
  | [], j, y, r, _, h => by simp at h
  | c :: t, 0, y, r, hr, h => by
    simp at h
    subst h
    rw [List.flatMap_cons, List.getElem?_append_left (by show 0 * 3 + r < 3; omega), Nat.zero_mul, Nat.zero_add]
  | c :: t, j + 1, y, r, hr, h => by
    have ih := ntl_at t j y r hr (by simpa using h)
    have hl : (ntl c).length = 3 := rfl
    rw [List.flatMap_cons, List.getElem?_append_right (by omega), hl, show (j + 1) * 3 + r - 3 = j * 3 + r by omega]
    exact ih

/-- The slice v owns the notes ys, at a block from B on. -/
def OwnN (w : World) (B : Nat) (v : Value) (ys : List NV) : Prop := w.ownsRow B 47 3 v ys.length (ys.flatMap ntl)
theorem ownN_nil (w : World) (B : Nat) : OwnN w B (.slice none 0 0) [] := World.ownsRow_nil w B 47 3
variable {B : Nat} {w w' : World} {v : Value} {ys : List NV}
theorem OwnN.keep {F : Nat → Prop} (h : OwnN w B v ys) (hk : Keep F w w') (hn : ∀ g, v.ownBlock = some g → ¬ F g) : OwnN w' B v ys := by
  refine ⟨h.1, ?_⟩
  rcases h.2 with h1 | ⟨g, cap, cur, rfl, hB, hg, rest⟩
  · exact .inl h1
  · refine .inr ⟨g, cap, cur, rfl, hB, ?_, rest⟩
    rw [hk.block g (lt_of_block hg) (hn g rfl)]; exact hg
theorem OwnN.keepB {F : Nat → Prop} (h : OwnN w B v ys) (hk : Keep F w w') (hn : ∀ g, F g → g < B) : OwnN w' B v ys := by
  refine h.keep hk fun g hg hF => ?_
  have h1 := (World.ownsRow.lt h g hg).1
  have h2 := hn g hF
  omega
theorem OwnN.below (h : OwnN w B v ys) (hb : Below w.heap.size w w') : OwnN w' B v ys := h.keep (F := fun _ => False) (Keep.of_below hb) (fun _ _ h => h)
theorem OwnN.mono {B' : Nat} (h : OwnN w B v ys) (hB : B' ≤ B) : OwnN w B' v ys := by
  refine ⟨h.1, ?_⟩
  rcases h.2 with hn | ⟨g, cap, cur, hv, hb, rest⟩
  · exact .inl hn
  · exact .inr ⟨g, cap, cur, hv, by omega, rest⟩
theorem OwnN.grown (h : OwnN w B v ys) (hg : w.grownBy w' v.ownBlock) (hB : B ≤ w.heap.size) : Below B w w' := (Below.refl B w).grown hg hB fun k hk => (World.ownsRow.lt h k hk).1
theorem OwnN.len (h : OwnN w B v ys) : ∃ a c, v = .slice a ys.length c := by
  rcases h.2 with ⟨rfl, hn⟩ | ⟨g, cap, cur, rfl, _⟩
  · rw [hn]; exact ⟨_, _, rfl⟩
  · exact ⟨_, _, rfl⟩
/-- A note of the row. -/
theorem OwnN.at_ (h : OwnN w B v ys) {j : Nat} {y : NV} (hy : ys[j]? = some y) : ∃ g c, v = .slice (some ⟨g, 0, none⟩) ys.length c ∧ B ≤ g ∧ g < w.heap.size ∧
    w.cell? ⟨g, j * 3, none⟩ = some (.int .u32 (y.s : Int)) ∧ w.cell? ⟨g, j * 3 + 1, none⟩ = some y.v ∧ w.cell? ⟨g, j * 3 + 2, none⟩ = some (.int .i64 (y.e : Int)) := by
  have hj : j < ys.length := (List.getElem?_eq_some_iff.1 hy).1
  rcases h.2 with ⟨rfl, hn⟩ | ⟨g, cap, cur, rfl, hB, hg, _⟩
  · omega
  · have c : ∀ r, r < 3 → w.cell? ⟨g, j * 3 + r, none⟩ = (ntl y)[r]? := fun r hr => by
      rw [World.ownsRow.cellAt h _ (by omega)]
      exact ntl_at ys j y r hr hy
    exact ⟨g, cap, rfl, hB, lt_of_block hg, c 0 (by decide), c 1 (by decide), c 2 (by decide)⟩

theorem infoN : (Tryz.prog.info? 47).map (fun i => (i.zero, i.size, i.bytes)) = some (some (.agg #[.int .u32 0, .slice none 0 0, .int .i64 0]), 3, 40) := by kernel_rfl
/-- One note at the head of a block. -/
theorem note_cells {g : Nat} {y : NV} (h : Blk w g #[.int .u32 (y.s : Int), y.v, .int .i64 (y.e : Int)] 47) : ∀ (j : Nat) u, (ntl y)[j]? = some u → w.cell? ((⟨g, 0, none⟩ : Addr).add j) = some u := by
  intro j u hu
  rw [plain_add, Nat.zero_add]
  rcases j with _ | _ | _ | j
  · exact h.cell 0 (by simpa [ntl] using hu)
  · exact h.cell 1 (by simpa [ntl] using hu)
  · exact h.cell 2 (by simpa [ntl] using hu)
  · simp [ntl] at hu
/-! The notes' data. -/
/-- Each note's bytes are the call's own, in a block of their own. -/
def Dat (w : World) (lo : Nat) (ys : List NV) : Prop := (∀ y ∈ ys, Own w lo y.v y.d) ∧ ys.Pairwise (fun a b => a.g < b.g)
theorem Dat.nil (w : World) (lo : Nat) : Dat w lo [] := ⟨fun _ h => by simp at h, List.Pairwise.nil⟩
theorem NV.own_block {w : World} {lo : Nat} {y : NV} (h : Own w lo y.v y.d) : ∃ C, w.heap[y.g]? = some (.cells C 5 (0, 0)) ∧ lo ≤ y.g := by
  rcases h.2 with ⟨h1, _⟩ | ⟨g, cap, cur, h1, hB, hg, _⟩
  · cases h1
  · simp only [NV.v, Value.slice.injEq, Option.some.injEq, Addr.mk.injEq] at h1
    obtain ⟨⟨rfl, _⟩, _⟩ := h1
    exact ⟨_, hg, hB⟩
theorem NV.lt {w : World} {lo : Nat} {y : NV} (h : Own w lo y.v y.d) : y.g < w.heap.size := by obtain ⟨C, h, _⟩ := NV.own_block h; exact lt_of_block h
theorem Dat.keep {F : Nat → Prop} {lo : Nat} (h : Dat w lo ys) (hk : Keep F w w') (hn : ∀ y ∈ ys, ¬ F y.g) : Dat w' lo ys :=
  ⟨fun y hy => (h.1 y hy).keepB hk fun g hg => by simp only [NV.v, Value.ownBlock, Option.some.injEq] at hg; subst hg; exact hn y hy, h.2⟩
theorem Dat.below {lo : Nat} (h : Dat w lo ys) (hb : Below w.heap.size w w') : Dat w' lo ys := h.keep (F := fun _ => False) (Keep.of_below hb) (fun _ _ h => h)
theorem Dat.snoc {lo : Nat} (h : Dat w lo ys) {y : NV} (hy : Own w lo y.v y.d) (hg : ∀ x ∈ ys, x.g < y.g) : Dat w lo (ys ++ [y]) :=
  ⟨fun x hx => (List.mem_append.1 hx).elim (h.1 x) (fun hx => by simp at hx; subst hx; exact hy), List.pairwise_append.2 ⟨h.2, by simp, fun a ha b hb => by simp at hb; subst hb; exact hg a ha⟩⟩
theorem Dat.lt {lo : Nat} (h : Dat w lo ys) {y : NV} (hy : y ∈ ys) : y.g < w.heap.size := NV.lt (h.1 y hy)
/-- Notes' data lie apart from the notes themselves. -/
theorem Dat.ne {lo : Nat} (h : Dat w lo ys) (hv : OwnN w B v ys) {y : NV} (hy : y ∈ ys) : ∀ g, v.ownBlock = some g → g ≠ y.g := by
  intro g hg he
  subst he
  obtain ⟨C, hC, _⟩ := NV.own_block (h.1 y hy)
  rcases hv.2 with ⟨rfl, _⟩ | ⟨g', cap, cur, rfl, _, hgb, _⟩
  · cases hg
  · simp [Value.ownBlock] at hg
    subst hg
    rw [hC] at hgb
    simp at hgb
/-- What a call that made a note's bytes hands over. -/
theorem nv_of {w : World} {lo : Nat} {r : Value} {m : Nt} (h : Own w lo r m.d) (h1 : 1 ≤ m.d.length) : ∃ y : NV, y.nt = m ∧ y.v = r ∧ Own w lo y.v y.d ∧ lo ≤ y.g := by
  obtain ⟨g, cap, rfl, _, hB⟩ := h.form h1
  exact ⟨⟨m.s, g, cap, m.d, m.e⟩, rfl, rfl, h, hB⟩
/-- What Last tells: a note, or a zero one. -/
def LastT (m : Option Nt) (B : Nat) (w : World) (s : Int) (a : Option Addr) (k c : Nat) (e : Int) (ok : Bool) : Prop :=
  (m = none ∧ ok = false ∧ s = 0 ∧ a = none ∧ k = 0 ∧ c = 0 ∧ e = 0) ∨ (ok = true ∧ ∃ y : NV, m = some y.nt ∧ s = (y.s : Int) ∧ .slice a k c = y.v ∧ e = (y.e : Int) ∧ Own w B y.v y.d)
theorem LastT.keep {m : Option Nt} {B : Nat} {w w' : World} {s : Int} {a : Option Addr} {k c : Nat} {e : Int} {ok : Bool} {F : Nat → Prop} (h : LastT m B w s a k c e ok) (hk : Keep F w w') (hF : ∀ y : NV, .slice a k c = y.v → ok = true → ¬ F y.g) : LastT m B w' s a k c e ok := by
  rcases h with h | ⟨rfl, y, h1, h2, h3, h4, h5⟩
  · exact .inl h
  · exact .inr ⟨rfl, y, h1, h2, h3, h4, h5.keepB hk fun g hg => by simp only [NV.v, Value.ownBlock, Option.some.injEq] at hg; subst hg; exact hF y h3 rfl⟩
theorem LastT.mono {m : Option Nt} {B B' : Nat} {w : World} {s : Int} {a : Option Addr} {k c : Nat} {e : Int} {ok : Bool} (h : LastT m B w s a k c e ok) (hB : B' ≤ B) : LastT m B' w s a k c e ok := by
  rcases h with h | ⟨rfl, y, h1, h2, h3, h4, h5⟩
  · exact .inl h
  · exact .inr ⟨rfl, y, h1, h2, h3, h4, h5.mono hB⟩
theorem LastT.below {m : Option Nt} {B : Nat} {w w' : World} {s : Int} {a : Option Addr} {k c : Nat} {e : Int} {ok : Bool} (h : LastT m B w s a k c e ok) (hb : Below w.heap.size w w') : LastT m B w' s a k c e ok :=
  h.keep (F := fun _ => False) (Keep.of_below hb) fun _ _ _ h => h
end Go.Proofs.YtekackglcapppaaGreatDoor
/-
  bank.fits, Print, by contract.
-/
namespace Go.Proofs.YtekackglcapppaaGreatDoor
open Go.RowKit

theorem fits_yes (n : Nat) (h1 : 1 ≤ n) (h2 : n ≤ 40) (w : World) : Calls Tryz.prog 59 #[.int .i64 (n : Int)] w fun e w' => e = .returned (.bool true) ∧ w = w' := by
  have b1 : (1 : Int) ≤ (n : Int) := by omega
  have b2 : (n : Int) ≤ 40 := by omega
  go_enter Tryz.func59, Tryz.ntmps59
  go_wp2
  go_ret
  exact ⟨rfl, rfl⟩
theorem fits_no (n : Nat) (h : n = 0 ∨ 40 < n) (w : World) : Calls Tryz.prog 59 #[.int .i64 (n : Int)] w fun e w' => e = .returned (.bool false) ∧ w = w' := by
  rcases h with rfl | h
  · go_enter Tryz.func59, Tryz.ntmps59
    go_wp2
    go_ret
    exact ⟨rfl, rfl⟩
  · have b1 : decide ((1 : Int) ≤ (n : Int)) = true := by simp; omega
    have b2 : decide ((n : Int) ≤ 40) = false := by simp; omega
    go_enter Tryz.func59, Tryz.ntmps59
    go_wp2
    go_ret
    exact ⟨rfl, rfl⟩

theorem print_no (s : Int) (v : Value) (xs : List (BitVec 8)) (w : World) (hv : Byts w v xs) (h : xs.length = 0 ∨ 40 < xs.length) :
    Calls Tryz.prog 45 #[.int .u32 s, v] w fun e w' => e = .returned (.tuple #[.slice none 0 0, .bool false]) ∧ w = w' := by
  obtain ⟨av, cv, ev⟩ := hv.len
  have HF := Lib.hid (fits_no xs.length h w)
  clear hv h
  subst ev
  go_enter Tryz.func45, Tryz.ntmps45
  go_wp2_with fail
  (with_reducible refine HF.out.mono ?_)
  rintro e w1 ⟨rfl, rfl⟩
  go_wp2_with fail
  go_ret2
  exact ⟨rfl, rfl⟩

theorem bk_one (w : World) (n : Nat) (hn : n < 256) : Byts (w.alloc (.cells #[.int .u8 (n : Int)] 5)) (.slice (some ⟨w.heap.size, 0, none⟩) 1 1) [BitVec.ofNat 8 n] := by
  refine lit_byts w _ 1 (0, 0) _ ?_ rfl
  simp [cel]
  omega
theorem bk_zero (w : World) : Byts (w.alloc (.cells #[.int .u8 0] 5)) (.slice (some ⟨w.heap.size, 0, none⟩) 1 1) [0#8] := lit_byts w _ 1 (0, 0) _ rfl rfl

set_option maxHeartbeats 1000000 in
theorem print_yes (s : BitVec 32) (v : Value) (xs : List (BitVec 8)) (w : World) (hv : Byts w v xs) (h1 : 1 ≤ xs.length) (h2 : xs.length ≤ 40) :
    Calls Tryz.prog 45 #[.int .u32 (s.toNat : Int), v] w fun e w' => ∃ r, e = .returned (.tuple #[r, .bool true]) ∧ Own w' w.heap.size r (pr s.toNat xs) ∧ Below w.heap.size w w' := by
  obtain ⟨av, cv, ev⟩ := hv.len
  have HF := Lib.hid (fits_yes xs.length h1 h2 w)
  have HV := Lib.hid hv
  have HP := Lib.hid (show pr s.toNat xs = sealed (([BitVec.ofNat 8 xs.length] ++ lay4 s) ++ xs) ++ [0#8] by unfold pr hd; rw [BitVec.ofNat_toNat, BitVec.setWidth_eq]; rfl)
  have hw : IntKind.u8.wrap (xs.length : Int) = (xs.length : Int) := by simp [IntKind.wrap, IntKind.bits, IntKind.signed]; omega
  have HB0 := Lib.hid (below_alloc (Below.refl _ w) (.cells #[.int .u8 (xs.length : Int)] 5))
  have HT := Lib.hid (put32_any _ s _ _ (bk_one w xs.length (by omega)) (by simp))
  have HL := Lib.hid h2
  clear hv h1 h2
  subst ev
  go_enter Tryz.func45, Tryz.ntmps45
  go_wp2_with fail
  (with_reducible refine HF.out.mono ?_)
  rintro e w1 ⟨rfl, rfl⟩
  go_wp2_with fail
  (with_reducible refine HT.out.mono ?_)
  rintro e w2 ⟨r, rfl, hown, hb⟩
  have HO := Lib.hid (hown.mono (le_alloc (Nat.le_refl _) _))
  have HB := Lib.hid (below_call HB0.out hb)
  have HV1 := Lib.hid (HV.out.below HB.out)
  have hsz := HB.out.size
  have hn : xs.length ≤ 40 := HL.out
  clear hown hb HF HT HB0
  go_wp2_with (at_builtin; refine wpList_app rfl _ _ rfl w.heap.size _ _ rfl HO.out _ xs rfl HV1.out (by simp [lay4]; omega) hsz ?_; intro v3 w3 hown3 hg3; have HO3 := Lib.hid hown3; have HB3 := Lib.hid (HO.out.grown HB.out hg3); clear hown3 hg3 HO HB HV1 hsz)
  (with_reducible refine (seal_any _ _ _ HO3.out.byts (by simp [lay4]; omega)).mono ?_)
  rintro e w4 ⟨r4, rfl, hown, hb⟩
  have HO4 := Lib.hid (hown.mono HB3.out.size)
  have HB4 := Lib.hid (below_call HB3.out hb)
  have hsz := HB4.out.size
  clear hown hb HO3 HB3
  go_wp2_with (at_builtin; refine wpList_app rfl _ _ rfl w.heap.size _ _ rfl (HO4.out.alloc _) _ [0#8] rfl (bk_zero _) (by simp [len_sealed, lay4]; omega) (le_alloc hsz _) ?_; intro v5 w5 hown5 hg5; have HO5 := Lib.hid hown5; have HB5 := Lib.hid ((HO4.out.alloc _).grown (below_alloc HB4.out _) hg5); clear hown5 hg5 HO4 HB4 hsz)
  go_ret2
  exact ⟨_, rfl, by rw [HP.out]; exact HO5.out, HB5.out⟩
end Go.Proofs.YtekackglcapppaaGreatDoor
/-
  bank.whole, record, next, by contract.
-/
namespace Go.Proofs.YtekackglcapppaaGreatDoor
open Go.RowKit

/-- b[o:k]. -/
theorem cutM {w : World} {v : Value} {xs : List (BitVec 8)} (h : Byts w v xs) (o k : Nat) (ho : o < k) (hk : k ≤ xs.length) : ∃ v2,
    (∀ w', (Instr.slice 22 v (some (.int .i64 (o : Int))) (some (.int .i64 (k : Int))) none).run Tryz.prog w' = .ok v2 w') ∧ Byts w v2 ((xs.drop o).take (k - o)) := by
  have hu : Tryz.prog.underlying 22 = some (.slice (Tryz.prog.elem 22)) := by rw [elemB]; exact Tryz.underlying22
  rcases h with ⟨rfl, _⟩ | ⟨g, p, cap, rfl, hc, h⟩
  · simp at hk; omega
  · have hck : ¬ cap = o := by omega
    refine ⟨.slice (some ⟨g, p + o, none⟩) (k - o) (cap - o), fun w' => ?_, .inr ⟨g, p + o, cap - o, ?_, by simp; omega, fun j x hx => ?_⟩⟩
    · rw [run_slice_lh _ _ _ _ _ hu _ _ _ _ (by omega) (by omega) (by omega), elemB, sizeU8]
      simp [Result.andThen, sliced, hck, plain_add]
    · simp; omega
    · rw [List.getElem?_take] at hx
      split at hx
      · rw [List.getElem?_drop] at hx
        have := h _ x hx
        rwa [show p + o + j = p + (o + j) by omega]
      · cases hx

theorem whole_yes (v : Value) (xs : List (BitVec 8)) (w : World) (hv : Byts w v xs) (hl : xs.length ≤ 1000000) (n : Nat) (h : bsz xs = some n) :
    Calls Tryz.prog 77 #[v] w fun e w' => e = .returned (.tuple #[.int .i64 (n : Int), .bool true]) ∧ Below w.heap.size w w' := by
  obtain ⟨x, t, hx, h1, h2, hn, h3, h4⟩ := bsz_some h
  obtain ⟨g, o, cap, x', ev, hc, hg, hx0, hcell⟩ := hv.at_ 0 (by rw [hx]; simp)
  obtain rfl : x = x' := by rw [hx] at hx0; simpa using hx0
  rw [Nat.add_zero] at hcell
  obtain ⟨m, hm⟩ : ∃ m, n = m + 1 := ⟨n - 1, by omega⟩
  obtain ⟨g', o', cap', x', ev', _, _, hx1, hcell1⟩ := hv.at_ m (by omega)
  obtain rfl : x' = 0#8 := by rw [show n - 1 = m by omega] at h4; rw [h4] at hx1; cases hx1; rfl
  rw [ev] at ev'
  simp only [Value.slice.injEq, Option.some.injEq, Addr.mk.injEq] at ev'
  obtain ⟨⟨rfl, rfl, _⟩, _, rfl⟩ := ev'
  have HF := Lib.hid (fits_yes x.toNat h1 h2 w)
  have hxl := x.isLt
  have b0 : ((xs.length : Int) == 0) = false := by simp; intro hh; rw [hh] at hx; cases hx
  have b00 : (0 : Int) < (xs.length : Int) := by omega
  have e1 : IntKind.i64.wrap ((x.toNat : Int) + 8) = (n : Int) := by rw [IntWalk.i64_in _ (by omega)]; omega
  have e2 : IntKind.i64.wrap ((n : Int) - 1) = (m : Int) := by rw [IntWalk.i64_in _ (by omega)]; omega
  have b1 : decide (n ≤ xs.length) = true := by simp; omega
  have b2 : (m : Int) < (xs.length : Int) := by omega
  have b3 : (0 : Int) ≤ (m : Int) := by omega
  have hcell1' : w.cell? ⟨g, o + m, none⟩ = some (.int .u8 0) := hcell1
  clear hv hx hx0 hx1 h1 h2 h3 h4 hcell1 hm hn h
  subst ev
  go_enter Tryz.func77, Tryz.ntmps77
  go_wp2_with fail
  (with_reducible refine HF.out.mono ?_)
  rintro e w1 ⟨rfl, rfl⟩
  go_wp2_with fail
  go_quiet (fail)
  go_wp2_with fail
  go_ret2
  exact ⟨rfl, bel_drewN _ _⟩

/-- What holds where no record begins. -/
theorem bsz_none {xs : List (BitVec 8)} (h : bsz xs = none) : xs = [] ∨ ∃ x t, xs = x :: t ∧ ((x.toNat = 0 ∨ 40 < x.toNat) ∨ (1 ≤ x.toNat ∧ x.toNat ≤ 40 ∧ (xs.length < x.toNat + 8 ∨ (x.toNat + 8 ≤ xs.length ∧ ∃ y, xs[x.toNat + 7]? = some y ∧ y ≠ 0#8)))) := by
  cases xs with
  | nil => exact .inl rfl
  | cons x t =>
    refine .inr ⟨x, t, rfl, ?_⟩
    by_cases h1 : 1 ≤ x.toNat
    · by_cases h2 : x.toNat ≤ 40
      · refine .inr ⟨h1, h2, ?_⟩
        by_cases h3 : x.toNat + 8 ≤ (x :: t).length
        · refine .inr ⟨h3, _, List.getElem?_eq_getElem (by omega), fun h4 => ?_⟩
          have : (x :: t)[x.toNat + 7]? = some 0#8 := by rw [List.getElem?_eq_getElem (by omega), h4]
          simp only [bsz] at h
          rw [if_pos ⟨h1, h2, h3, this⟩] at h
          cases h
        · exact .inl (by omega)
      · exact .inl (.inr (by omega))
    · exact .inl (.inl (by omega))
theorem byte_ne {y : BitVec 8} (h : y ≠ 0#8) : ((y.toNat : Int) == 0) = false := by
  simp
  intro h'
  exact h (BitVec.eq_of_toNat_eq (by simpa using h'))

theorem whole_no (v : Value) (xs : List (BitVec 8)) (w : World) (hv : Byts w v xs) (hl : xs.length ≤ 1000000) (h : bsz xs = none) :
    Calls Tryz.prog 77 #[v] w fun e w' => ∃ z, e = .returned (.tuple #[.int .i64 z, .bool false]) ∧ Below w.heap.size w w' := by
  rcases bsz_none h with rfl | ⟨x, t, hx, hcase⟩
  · obtain ⟨av, cv, ev⟩ := hv.len
    clear hv h hl
    subst ev
    go_enter Tryz.func77, Tryz.ntmps77
    go_wp2
    go_ret2
    exact ⟨_, rfl, Below.refl _ _⟩
  · obtain ⟨g, o, cap, x', ev, hc, hg, hx0, hcell⟩ := hv.at_ 0 (by rw [hx]; simp)
    obtain rfl : x = x' := by rw [hx] at hx0; simpa using hx0
    rw [Nat.add_zero] at hcell
    have hlen : 1 ≤ xs.length := by rw [hx]; simp
    have hxl := x.isLt
    have b0 : ((xs.length : Int) == 0) = false := by simp; intro hh; rw [hh] at hlen; simp at hlen
    have b00 : (0 : Int) < (xs.length : Int) := by omega
    rcases hcase with h1 | ⟨h1, h2, hcase⟩
    · have HF := Lib.hid (fits_no x.toNat h1 w)
      clear hv hx hx0 h1 h
      subst ev
      go_enter Tryz.func77, Tryz.ntmps77
      go_wp2_with fail
      (with_reducible refine HF.out.mono ?_)
      rintro e w1 ⟨rfl, rfl⟩
      go_wp2_with fail
      go_ret2
      exact ⟨_, rfl, Below.refl _ _⟩
    · have HF := Lib.hid (fits_yes x.toNat h1 h2 w)
      obtain ⟨n, hn⟩ : ∃ n, n = x.toNat + 8 := ⟨_, rfl⟩
      have e1 : IntKind.i64.wrap ((x.toNat : Int) + 8) = (n : Int) := by rw [IntWalk.i64_in _ (by omega)]; omega
      rcases hcase with h3 | ⟨h3, y, hy, hne⟩
      · have b1 : decide (n ≤ xs.length) = false := by simp; omega
        clear hv hx hx0 h1 h2 h3 hn h
        subst ev
        go_enter Tryz.func77, Tryz.ntmps77
        go_wp2_with fail
        (with_reducible refine HF.out.mono ?_)
        rintro e w1 ⟨rfl, rfl⟩
        go_wp2_with fail
        go_quiet (fail)
        go_wp2_with fail
        go_ret2
        exact ⟨_, rfl, bel_drewN _ _⟩
      · obtain ⟨m, hm⟩ : ∃ m, n = m + 1 := ⟨n - 1, by omega⟩
        obtain ⟨g', o', cap', y', ev', _, _, hx1, hcell1⟩ := hv.at_ m (by omega)
        obtain rfl : y' = y := by rw [show x.toNat + 7 = m by omega, hx1] at hy; cases hy; rfl
        rw [ev] at ev'
        simp only [Value.slice.injEq, Option.some.injEq, Addr.mk.injEq] at ev'
        obtain ⟨⟨rfl, rfl, _⟩, _, rfl⟩ := ev'
        have hq := byte_ne hne
        have e2 : IntKind.i64.wrap ((n : Int) - 1) = (m : Int) := by rw [IntWalk.i64_in _ (by omega)]; omega
        have b1 : decide (n ≤ xs.length) = true := by simp; omega
        have b2 : (m : Int) < (xs.length : Int) := by omega
        have b3 : (0 : Int) ≤ (m : Int) := by omega
        have hyl := y'.isLt
        clear hv hx hx0 h1 h2 h3 hn h hy hne hm hx1
        subst ev
        go_enter Tryz.func77, Tryz.ntmps77
        go_wp2_with fail
        (with_reducible refine HF.out.mono ?_)
        rintro e w1 ⟨rfl, rfl⟩
        go_wp2_with fail
        go_quiet (fail)
        go_wp2_with fail
        go_ret2
        exact ⟨_, rfl, bel_drewN _ _⟩
end Go.Proofs.YtekackglcapppaaGreatDoor
/-
  bank.record, by contract.
-/
namespace Go.Proofs.YtekackglcapppaaGreatDoor
open Go.RowKit

theorem bel_two (w : World) (a b : Obj) : Below w.heap.size w ((w.alloc a).alloc b) := below_alloc (below_alloc (Below.refl _ w) a) b
theorem bel_set3 {w0 w1 : World} (h : Below w0.heap.size w0 w1) {g : Nat} (hg : w0.heap.size ≤ g) (u0 u1 u2 : Value) :
    Below w0.heap.size w0 (((w1.setCell ⟨g, 0, none⟩ u0).setCell ⟨g, 1, none⟩ u1).setCell ⟨g, 2, none⟩ u2) := bel_set (bel_set (bel_set h hg 0 u0) hg 1 u1) hg 2 u2
theorem Blk.apart {w w' : World} {g b : Nat} {C : Array Value} {T : TypeId} (h : Blk w g C T) (ha : Apart b w w') (hne : g ≠ b) : Blk w' g C T := (ha.block g h.lt hne).trans h
theorem own_set3 {w : World} {B g : Nat} {v : Value} {xs : List (BitVec 8)} (h : Own w B v xs) (hg : g < B) (u0 u1 u2 : Value) : Own (((w.setCell ⟨g, 0, none⟩ u0).setCell ⟨g, 1, none⟩ u1).setCell ⟨g, 2, none⟩ u2) B v xs :=
  ownsRow_setCell_below (ownsRow_setCell_below (ownsRow_setCell_below h hg u0) hg u1) hg u2

set_option maxHeartbeats 1000000 in
theorem record_no (v : Value) (xs : List (BitVec 8)) (w : World) (hv : Byts w v xs) (hl : xs.length ≤ 100000) (o : Nat) (ho : o ≤ xs.length) (h : brec xs o = none) :
    Calls Tryz.prog 67 #[v, .int .i64 (o : Int)] w fun e w' => e = .returned (.tuple #[.agg #[.int .u32 0, .slice none 0 0, .int .i64 0], .bool false]) ∧ Below w.heap.size w w' := by
  obtain ⟨v1, hrun1, hv1, _⟩ := cutR hv o ho
  have HB := Lib.hid (below_alloc (Below.refl _ w) (.cells #[.int .u32 0, .slice none 0 0, .int .i64 0] 47))
  have HX := Lib.hid (blk_new w #[.int .u32 0, .slice none 0 0, .int .i64 0] 47)
  have HV1 := Lib.hid (hv1.below HB.out)
  rcases brec_none h with hz | ⟨n, hz, hop⟩
  · have HW := Lib.hid (whole_no v1 _ _ HV1.out (by simp; omega) hz)
    clear hv hv1 h hz
    go_enter Tryz.func67, Tryz.ntmps67
    go_wp2_with fail
    (with_reducible refine HW.out.mono ?_)
    rintro e w1 ⟨z, rfl, hb⟩
    have HX1 := Lib.hid (HX.out.below hb)
    have HB1 := Lib.hid (below_call HB.out hb)
    obtain ⟨c0, c1, c2⟩ := HX1.out.three
    have f0 := HX1.out.frz 0
    have f1 := HX1.out.frz 1
    have f2 := HX1.out.frz 2
    clear hb hrun1
    go_wp2_with fail
    (try simp only [Exit.inBlock, Exit.then])
    refine bodyPost_ret (v := .tuple #[.agg #[.int .u32 0, .slice none 0 0, .int .i64 0], .bool false]) ?_ rfl ⟨rfl, bel_set3 HB1.out (Nat.le_refl _) _ _ _⟩
    rw [results_cell_tmp rfl]
    go_simp
  · obtain ⟨_, _, _, h1, h2, h3, h4, _⟩ := bsz_some hz
    have h4' : n ≤ xs.length - o := by simpa using h4
    obtain ⟨k, hk⟩ : ∃ k, k = o + n := ⟨_, rfl⟩
    obtain ⟨m, hm⟩ : ∃ m, k = m + 1 := ⟨k - 1, by omega⟩
    obtain ⟨v2, hrun2, hv2⟩ := cutM hv o m (by omega) (by omega)
    rw [show m - o = n - 1 by omega] at hv2
    have e1 : IntKind.i64.wrap ((o : Int) + (n : Int)) = (k : Int) := by rw [IntWalk.i64_in _ (by omega)]; omega
    have e2 : IntKind.i64.wrap ((k : Int) - 1) = (m : Int) := by rw [IntWalk.i64_in _ (by omega)]; omega
    have HW := Lib.hid (whole_yes v1 _ _ HV1.out (by simp; omega) n hz)
    have HV2 := Lib.hid (hv2.below HB.out)
    have HN := Lib.hid (show ((xs.drop o).take (n - 1)).length ≤ 140737488351232 by rw [List.length_take, List.length_drop]; omega)
    have HOP := Lib.hid hop
    clear hv hv1 h hz hv2 hop h1 h2 h3 h4 h4' hk hm
    go_enter Tryz.func67, Tryz.ntmps67
    go_wp2_with fail
    (with_reducible refine HW.out.mono ?_)
    rintro e w1 ⟨rfl, hb⟩
    have HX1 := Lib.hid (HX.out.below hb)
    have HB1 := Lib.hid (below_call HB.out hb)
    have HV3 := Lib.hid (HV2.out.below hb)
    clear hb HW HX
    go_wp2_with fail
    (with_reducible refine (open_f v2 _ _ HV3.out HN.out HOP.out).mono ?_)
    rintro e w2 ⟨rfl, hb⟩
    have HX2 := Lib.hid (HX1.out.below hb)
    have HB2 := Lib.hid (below_call HB1.out hb)
    obtain ⟨c0, c1, c2⟩ := HX2.out.three
    have f0 := HX2.out.frz 0
    have f1 := HX2.out.frz 1
    have f2 := HX2.out.frz 2
    clear hb hrun1 hrun2
    go_wp2_with fail
    (try simp only [Exit.inBlock, Exit.then])
    refine bodyPost_ret (v := .tuple #[.agg #[.int .u32 0, .slice none 0 0, .int .i64 0], .bool false]) ?_ rfl ⟨rfl, bel_set3 HB2.out (Nat.le_refl _) _ _ _⟩
    rw [results_cell_tmp rfl]
    go_simp

set_option maxHeartbeats 1000000 in
theorem record_yes (v : Value) (xs : List (BitVec 8)) (w : World) (hv : Byts w v xs) (hl : xs.length ≤ 100000) (o : Nat) (y : Nt) (h : brec xs o = some y) :
    Calls Tryz.prog 67 #[v, .int .i64 (o : Int)] w fun e w' => ∃ r, e = .returned (.tuple #[.agg #[.int .u32 (y.s : Int), r, .int .i64 (y.e : Int)], .bool true]) ∧ Own w' (w.heap.size + 1) r y.d ∧ Below w.heap.size w w' := by
  obtain ⟨n, hz, hop, hs, hd, he, h9, h48, hle, hlen⟩ := brec_yes h
  obtain ⟨v1, hrun1, hv1, _⟩ := cutR hv o (by omega)
  have HB := Lib.hid (below_alloc (Below.refl _ w) (.cells #[.int .u32 0, .slice none 0 0, .int .i64 0] 47))
  have HX := Lib.hid (blk_new w #[.int .u32 0, .slice none 0 0, .int .i64 0] 47)
  have HV1 := Lib.hid (hv1.below HB.out)
  obtain ⟨k, hk⟩ : ∃ k, k = o + n := ⟨_, rfl⟩
  obtain ⟨m, hm⟩ : ∃ m, k = m + 1 := ⟨k - 1, by omega⟩
  obtain ⟨v2, hrun2, hv2⟩ := cutM hv o m (by omega) (by omega)
  rw [show m - o = n - 1 by omega] at hv2
  have e1 : IntKind.i64.wrap ((o : Int) + (n : Int)) = (k : Int) := by rw [IntWalk.i64_in _ (by omega)]; omega
  have e2 : IntKind.i64.wrap ((k : Int) - 1) = (m : Int) := by rw [IntWalk.i64_in _ (by omega)]; omega
  have HW := Lib.hid (whole_yes v1 _ _ HV1.out (by simp; omega) n hz)
  have HV2 := Lib.hid (hv2.below HB.out)
  have HN := Lib.hid (show ((xs.drop o).take (n - 1)).length ≤ 140737488351232 by rw [List.length_take, List.length_drop]; omega)
  have HOP := Lib.hid hop
  have HK := Lib.hid (show y.e = k by omega)
  obtain ⟨f, hf⟩ : ∃ f, front ((xs.drop o).take (n - 1)) = f := ⟨_, rfl⟩
  rw [hf] at hs hd hlen
  have HF := Lib.hid hf
  have HS := Lib.hid hs
  have HD := Lib.hid hd
  have HFL := Lib.hid (show 6 ≤ f.length ∧ f.length ≤ 45 by omega)
  clear hv hv1 h hz hv2 hop hk hm hs hd he h9 h48 hle hlen hf
  go_enter Tryz.func67, Tryz.ntmps67
  go_wp2_with fail
  (with_reducible refine HW.out.mono ?_)
  rintro e w1 ⟨rfl, hb⟩
  have HX1 := Lib.hid (HX.out.below hb)
  have HB1 := Lib.hid (below_call HB.out hb)
  have HV3 := Lib.hid (HV2.out.below hb)
  clear hb HW HX
  go_wp2_with fail
  (with_reducible refine (open_t v2 _ _ HV3.out HN.out HOP.out).mono ?_)
  rintro e w2 ⟨r2, rfl, hown, hb⟩
  rw [HF.out] at hown
  have HX2 := Lib.hid (HX1.out.below hb)
  have HB2 := Lib.hid (below_call HB1.out hb)
  obtain ⟨v3, hrun3, hv3, _⟩ := cutR hown.byts 1 (by have := HFL.out; omega)
  rw [show ((1 : Nat) : Int) = 1 from rfl] at hrun3
  have HV4 := Lib.hid hv3
  clear hb hrun1 hrun2 HX1 HB1 HV3 HV2 HV1 hown hv3 HB
  go_wp2_with fail
  clear hrun3
  (with_reducible refine (over_any v3 _ _ HV4.out (by have := HFL.out; simp; omega)).mono ?_)
  rintro e w3 ⟨b, rfl, hr, hbb, hb⟩
  have HX3 := Lib.hid (HX2.out.below hb)
  have HB3 := Lib.hid (below_call HB2.out hb)
  have HR := Lib.hid hr
  have HLT := Lib.hid (show w.heap.size < b from Nat.lt_of_lt_of_le HX2.out.lt hbb)
  clear hr hb hbb HX2 HB2 HV4
  go_wp2_with fail
  (with_reducible refine (u32_any _ _ _ _ _ _ _ HR.out).mono ?_)
  rintro e w4 ⟨rfl, hr, ha⟩
  have HX4 := Lib.hid (HX3.out.apart ha (by have := HLT.out; omega))
  have HB4 := Lib.hid (below_apart HB3.out ha (by have := HLT.out; omega))
  have HR4 := Lib.hid hr
  clear hr ha HR HX3 HB3
  rw [← HS.out]
  go_wp2_with fail
  (with_reducible refine (rest_any _ _ _ _ _ _ _ HR4.out (by have := HFL.out; simp; omega)).mono ?_)
  rintro e w5 ⟨r5, rfl, hown, hr, ha⟩
  rw [← HD.out] at hown
  have HX5 := Lib.hid (HX4.out.apart ha (by have := HLT.out; omega))
  have HB5 := Lib.hid (below_apart HB4.out ha (by have := HLT.out; omega))
  have HO5 := Lib.hid (hown.mono (show w.heap.size + 1 ≤ w4.heap.size by have := HX4.out.lt; omega))
  obtain ⟨av, cv, ev⟩ := hown.byts.len
  obtain ⟨c0, c1, c2⟩ := HX5.out.three
  have f0 := HX5.out.frz 0
  have f1 := HX5.out.frz 1
  have f2 := HX5.out.frz 2
  clear hown hr ha HR4 HX4 HB4
  subst ev
  go_wp2_with fail
  (try simp only [Exit.inBlock, Exit.then])
  refine bodyPost_ret (v := .tuple #[.agg #[.int .u32 (y.s : Int), .slice av y.d.length cv, .int .i64 (k : Int)], .bool true]) ?_ rfl ⟨_, by rw [HK.out], own_set3 HO5.out (by omega) _ _ _, bel_set3 HB5.out (Nat.le_refl _) _ _ _⟩
  rw [results_cell_tmp rfl]
  go_simp
end Go.Proofs.YtekackglcapppaaGreatDoor
/-
  bank.next, by contract.
-/
namespace Go.Proofs.YtekackglcapppaaGreatDoor
open Go.RowKit

theorem bnxt_none {xs : List (BitVec 8)} {n : Nt} (h : bnxt xs n = none) : n.s = 4294967295 ∨ (n.s ≠ 4294967295 ∧ brec xs n.e = none) ∨ (n.s ≠ 4294967295 ∧ ∃ m, brec xs n.e = some m ∧ m.s ≠ n.s + 1) := by
  unfold bnxt at h
  split at h
  · exact .inl ‹_›
  · rename_i h0
    cases hr : brec xs n.e with
    | none => exact .inr (.inl ⟨h0, rfl⟩)
    | some m =>
      refine .inr (.inr ⟨h0, m, rfl, fun hs => ?_⟩)
      rw [hr] at h
      simp [hs] at h

theorem two_new (w : World) (C D : Array Value) (T : TypeId) : Blk ((w.alloc (.cells C T)).alloc (.cells D T)) w.heap.size C T ∧ Blk ((w.alloc (.cells C T)).alloc (.cells D T)) (w.heap.size + 1) D T := by
  refine ⟨(blk_new w C T).below (below_alloc (Below.refl _ _) _), ?_⟩
  have := blk_new (w.alloc (.cells C T)) D T
  simpa using this

theorem next_last (v ra : Value) (k c : Nat) (a : Option Addr) (e : Int) (w : World) (hra : ra = .slice a k c) :
    Calls Tryz.prog 68 #[v, .agg #[.int .u32 4294967295, ra, .int .i64 e]] w fun e w' => e = .returned (.tuple #[.agg #[.int .u32 0, .slice none 0 0, .int .i64 0], .bool false]) ∧ Below w.heap.size w w' := by
  subst hra
  have HB := Lib.hid (bel_two w (.cells #[.int .u32 4294967295, .slice a k c, .int .i64 e] 47) (.cells #[.int .u32 0, .slice none 0 0, .int .i64 0] 47))
  go_enter Tryz.func68, Tryz.ntmps68
  go_wp2_with fail
  (try simp only [Exit.inBlock, Exit.then])
  refine bodyPost_ret (v := .tuple #[.agg #[.int .u32 0, .slice none 0 0, .int .i64 0], .bool false]) ?_ rfl ⟨rfl, HB.out⟩
  rw [results_cell_tmp rfl]
  go_simp
theorem bel_drew_ {w0 w : World} (h : Below w0.heap.size w0 w) : Below w0.heap.size w0 w.drew := ⟨h.os, h.tape, h.output, h.size, h.block⟩
theorem own_drew {w : World} {B : Nat} {v : Value} {xs : List (BitVec 8)} (h : Own w B v xs) : Own w.drew B v xs := h

set_option maxHeartbeats 1000000 in
theorem next_gone (v : Value) (xs : List (BitVec 8)) (w : World) (hv : Byts w v xs) (hl : xs.length ≤ 100000) (n : Nt) (hs : n.s < 4294967295) (hn : n.e ≤ xs.length) (ra : Value) (k c : Nat) (a : Option Addr) (hra : ra = .slice a k c) (h : brec xs n.e = none) :
    Calls Tryz.prog 68 #[v, .agg #[.int .u32 (n.s : Int), ra, .int .i64 (n.e : Int)]] w fun e w' => e = .returned (.tuple #[.agg #[.int .u32 0, .slice none 0 0, .int .i64 0], .bool false]) ∧ Below w.heap.size w w' := by
  subst hra
  have HB := Lib.hid (bel_two w (.cells #[.int .u32 (n.s : Int), .slice a k c, .int .i64 (n.e : Int)] 47) (.cells #[.int .u32 0, .slice none 0 0, .int .i64 0] 47))
  have HN := Lib.hid (two_new w #[.int .u32 (n.s : Int), .slice a k c, .int .i64 (n.e : Int)] #[.int .u32 0, .slice none 0 0, .int .i64 0] 47)
  have HR := Lib.hid (record_no v xs _ (hv.below HB.out) hl n.e hn h)
  have b0 : ((n.s : Int) == 4294967295) = false := by simp; omega
  clear hn hs
  clear hv h
  go_enter Tryz.func68, Tryz.ntmps68
  go_wp2_with fail
  (with_reducible refine HR.out.mono ?_)
  rintro e w1 ⟨rfl, hb⟩
  have HB1 := Lib.hid (below_alloc (below_call HB.out hb) (.cells #[.int .u32 0, .slice none 0 0, .int .i64 0] 47))
  have HN1 := Lib.hid ((HN.out.1.below hb).below (below_alloc (Below.refl _ w1) (.cells #[.int .u32 0, .slice none 0 0, .int .i64 0] 47)))
  have HN2 := Lib.hid ((HN.out.2.below hb).below (below_alloc (Below.refl _ w1) (.cells #[.int .u32 0, .slice none 0 0, .int .i64 0] 47)))
  have HN3 := Lib.hid (blk_new w1 #[.int .u32 0, .slice none 0 0, .int .i64 0] 47)
  have HNE1 : Hid (¬ w.heap.size = w.heap.size + 1) := Lib.hid (by omega)
  have HNE3 : Hid (¬ w1.heap.size = w.heap.size + 1) := Lib.hid (by have := (HN.out.2.below hb).lt; omega)
  clear hb HB HN HR
  go_wp2_with fail
  generalize w1.alloc (.cells #[.int .u32 0, .slice none 0 0, .int .i64 0] 47) = w2 at *
  obtain ⟨c0, c1, c2⟩ := HN2.out.three
  have f0 := HN2.out.frz 0
  have f1 := HN2.out.frz 1
  have f2 := HN2.out.frz 2
  refine wp_region_held_drew (S := fun w' => Keep (fun g => g = w.heap.size + 1) w2 w') (by kernel_rfl) (Keep.of_below (bel_drew w2)) (fun hHeld => ?_)
  refine wpAnyH_take (i := 0) (oi := ?_) (v := ?_) ?_ (by kernel_rfl) (by kernel_rfl) (by kernel_rfl) ?_ (Or.inl ⟨?_, ?_⟩) hHeld ?_
  rotate_left 2
  · (simp only [List.getElem?_toArray, List.getElem?_cons_zero]; rfl)
  · exact (fun _ _ _ h => h)
  · rfl
  · (intro w hSw; (try dsimp only at hSw); obtain ⟨q0, q1, q2⟩ := (HN3.out.keep hSw HNE3.out).three; go_simp; try with_reducible rfl)
  (try simp only [Act.put, List.setIfInBounds_toArray, List.set_cons_zero, List.set_cons_succ])
  refine wpAnyH_take (i := 1) (oi := ?_) (v := ?_) ?_ (by kernel_rfl) (by kernel_rfl) (by kernel_rfl) ?_ (Or.inl ⟨?_, ?_⟩) hHeld ?_
  rotate_left 2
  · (simp only [List.getElem?_toArray, List.getElem?_cons_zero, List.getElem?_cons_succ]; rfl)
  · exact (fun _ _ _ h => h)
  · rfl
  · (intro w hSw; (try dsimp only at hSw); go_simp; try with_reducible rfl)
  (try simp only [Act.put, List.setIfInBounds_toArray, List.set_cons_zero, List.set_cons_succ])
  refine wpAnyH_take (i := 2) (oi := ?_) (v := ?_) ?_ (by kernel_rfl) (by kernel_rfl) (by kernel_rfl) ?_ (Or.inl ⟨?_, ?_⟩) hHeld ?_
  rotate_left 2
  · (simp only [List.getElem?_toArray, List.getElem?_cons_zero, List.getElem?_cons_succ]; rfl)
  · exact (fun _ _ _ h => h)
  · rfl
  · (intro w hSw; (try dsimp only at hSw); go_simp; try with_reducible rfl)
  (try simp only [Act.put, List.setIfInBounds_toArray, List.set_cons_zero, List.set_cons_succ])
  refine wpAnyH_take (i := 3) (oi := ?_) (v := undef) ?_ (by kernel_rfl) (by kernel_rfl) (by kernel_rfl) ?_ (Or.inr ⟨?_, rfl⟩) hHeld ?_
  rotate_left 1
  · (simp only [List.getElem?_toArray, List.getElem?_cons_zero, List.getElem?_cons_succ]; rfl)
  · exact (fun _ _ _ h => h)
  · rfl
  (try simp only [Act.put, List.setIfInBounds_toArray, List.set_cons_zero, List.set_cons_succ])
  refine wpAnyH_take (i := 4) (oi := ?_) (v := undef) ?_ (by kernel_rfl) (by kernel_rfl) (by kernel_rfl) ?_ (Or.inr ⟨?_, rfl⟩) hHeld ?_
  rotate_left 1
  · (simp only [List.getElem?_toArray, List.getElem?_cons_zero, List.getElem?_cons_succ]; rfl)
  · exact (fun _ _ _ h => h)
  · rfl
  (try simp only [Act.put, List.setIfInBounds_toArray, List.set_cons_zero, List.set_cons_succ])
  refine wpAnyH_take (i := 5) (oi := ?_) (v := undef) ?_ (by kernel_rfl) (by kernel_rfl) (by kernel_rfl) ?_ (Or.inr ⟨?_, rfl⟩) hHeld ?_
  rotate_left 1
  · (simp only [List.getElem?_toArray, List.getElem?_cons_zero, List.getElem?_cons_succ]; rfl)
  · exact (fun _ _ _ h => h)
  · rfl
  (try simp only [Act.put, List.setIfInBounds_toArray, List.set_cons_zero, List.set_cons_succ])
  refine wpAnyH_take (i := 6) (oi := ?_) (v := undef) ?_ (by kernel_rfl) (by kernel_rfl) (by kernel_rfl) ?_ (Or.inr ⟨?_, rfl⟩) hHeld ?_
  rotate_left 1
  · (simp only [List.getElem?_toArray, List.getElem?_cons_zero, List.getElem?_cons_succ]; rfl)
  · exact (fun _ _ _ h => h)
  · rfl
  (try simp only [Act.put, List.setIfInBounds_toArray, List.set_cons_zero, List.set_cons_succ])
  refine wpAnyH_take (i := 7) (oi := ?_) (v := undef) ?_ (by kernel_rfl) (by kernel_rfl) (by kernel_rfl) ?_ (Or.inr ⟨?_, rfl⟩) hHeld ?_
  rotate_left 1
  · (simp only [List.getElem?_toArray, List.getElem?_cons_zero, List.getElem?_cons_succ]; rfl)
  · exact (fun _ _ _ h => h)
  · rfl
  (try simp only [Act.put, List.setIfInBounds_toArray, List.set_cons_zero, List.set_cons_succ])
  refine wpAnyH_take (i := 8) (oi := ?_) (v := undef) ?_ (by kernel_rfl) (by kernel_rfl) (by kernel_rfl) ?_ (Or.inr ⟨?_, rfl⟩) hHeld ?_
  rotate_left 1
  · (simp only [List.getElem?_toArray, List.getElem?_cons_zero, List.getElem?_cons_succ]; rfl)
  · exact (fun _ _ _ h => h)
  · rfl
  (try simp only [Act.put, List.setIfInBounds_toArray, List.set_cons_zero, List.set_cons_succ])
  refine wpAnyH_take (i := 9) (oi := ?_) (v := ?_) ?_ (by kernel_rfl) (by kernel_rfl) (by kernel_rfl) ?_ (Or.inl ⟨?_, ?_⟩) hHeld ?_
  rotate_left 2
  · (simp only [List.getElem?_toArray, List.getElem?_cons_zero, List.getElem?_cons_succ]; rfl)
  · exact (fun _ _ _ h => h)
  · rfl
  · (intro w hSw; (try dsimp only at hSw); go_simp; try with_reducible rfl)
  (try simp only [Act.put, List.setIfInBounds_toArray, List.set_cons_zero, List.set_cons_succ])
  refine wpAnyH_ready (rs := [10]) (by kernel_rfl) (by simp) ?_
  refine AllReadyH.cons (o := ?_) ?_ (fun K hK => ?_) AllReadyH.nil
  rotate_left
  · (simp only [List.getElem?_toArray, List.getElem?_cons_zero, List.getElem?_cons_succ]; rfl)
  go_simp
  refine hK.out _ _ (((hHeld.store _ 0 _ rfl).store _ 1 _ rfl).store _ 2 _ rfl) (fun hHeld => ?_)
  clear hK K
  (try simp only [Act.put, List.setIfInBounds_toArray, List.set_cons_zero, List.set_cons_succ])
  refine wpAnyH_take (i := 11) (oi := ?_) (v := ?_) ?_ (by kernel_rfl) (by kernel_rfl) (by kernel_rfl) ?_ (Or.inl ⟨?_, ?_⟩) hHeld ?_
  rotate_left 2
  · (simp only [List.getElem?_toArray, List.getElem?_cons_zero, List.getElem?_cons_succ]; rfl)
  · exact (fun _ _ _ h => h)
  · rfl
  · (intro w hSw; (try dsimp only at hSw); go_simp; try with_reducible rfl)
  (try simp only [Act.put, List.setIfInBounds_toArray, List.set_cons_zero, List.set_cons_succ])
  refine wpAnyH_done (by kernel_rfl) ?_ _
  go_wp2_with fail
  (try simp only [Exit.inBlock, Exit.then])
  refine bodyPost_ret (v := .tuple #[.agg #[.int .u32 0, .slice none 0 0, .int .i64 0], .bool false]) ?_ rfl ⟨rfl, bel_set3 (bel_drew_ HB1.out) (by omega) _ _ _⟩
  rw [results_cell_tmp rfl]
  go_simp

set_option maxHeartbeats 1000000 in
theorem next_other (v : Value) (xs : List (BitVec 8)) (w : World) (hv : Byts w v xs) (hl : xs.length ≤ 100000) (n : Nt) (hs : n.s < 4294967295) (ra : Value) (k c : Nat) (a : Option Addr) (hra : ra = .slice a k c) (m : Nt) (h : brec xs n.e = some m) (hne : m.s ≠ n.s + 1) :
    Calls Tryz.prog 68 #[v, .agg #[.int .u32 (n.s : Int), ra, .int .i64 (n.e : Int)]] w fun e w' => ∃ am km cm, e = .returned (.tuple #[.agg #[.int .u32 (m.s : Int), .slice am km cm, .int .i64 (m.e : Int)], .bool false]) ∧ Below w.heap.size w w' := by
  subst hra
  have HB := Lib.hid (bel_two w (.cells #[.int .u32 (n.s : Int), .slice a k c, .int .i64 (n.e : Int)] 47) (.cells #[.int .u32 0, .slice none 0 0, .int .i64 0] 47))
  have HN := Lib.hid (two_new w #[.int .u32 (n.s : Int), .slice a k c, .int .i64 (n.e : Int)] #[.int .u32 0, .slice none 0 0, .int .i64 0] 47)
  have HR := Lib.hid (record_yes v xs _ (hv.below HB.out) hl n.e m h)
  have b0 : ((n.s : Int) == 4294967295) = false := by simp; omega
  have b1 : ((m.s : Int) == (n.s : Int) + 1) = false := by simp; omega
  have e1 : IntKind.u32.wrap ((n.s : Int) + 1) = (n.s : Int) + 1 := by simp [IntKind.wrap, IntKind.bits, IntKind.signed]; omega
  clear hne hs
  clear hv h
  go_enter Tryz.func68, Tryz.ntmps68
  go_wp2_with fail
  (with_reducible refine HR.out.mono ?_)
  rintro e w1 ⟨rm, rfl, hown, hb⟩
  obtain ⟨am, cm, em⟩ := hown.byts.len
  subst em
  have HO := Lib.hid ((hown.below (below_alloc (Below.refl _ w1) (.cells #[.int .u32 (m.s : Int), .slice am m.d.length cm, .int .i64 (m.e : Int)] 47))).mono (show w.heap.size + 2 ≤ _ by simp))
  clear hown
  have HB1 := Lib.hid (below_alloc (below_call HB.out hb) (.cells #[.int .u32 (m.s : Int), .slice am m.d.length cm, .int .i64 (m.e : Int)] 47))
  have HN1 := Lib.hid ((HN.out.1.below hb).below (below_alloc (Below.refl _ w1) (.cells #[.int .u32 (m.s : Int), .slice am m.d.length cm, .int .i64 (m.e : Int)] 47)))
  have HN2 := Lib.hid ((HN.out.2.below hb).below (below_alloc (Below.refl _ w1) (.cells #[.int .u32 (m.s : Int), .slice am m.d.length cm, .int .i64 (m.e : Int)] 47)))
  have HN3 := Lib.hid (blk_new w1 #[.int .u32 (m.s : Int), .slice am m.d.length cm, .int .i64 (m.e : Int)] 47)
  have HNE1 : Hid (¬ w.heap.size = w.heap.size + 1) := Lib.hid (by omega)
  have HNE3 : Hid (¬ w1.heap.size = w.heap.size + 1) := Lib.hid (by have := (HN.out.2.below hb).lt; omega)
  clear hb HB HN HR
  go_wp2_with fail
  generalize w1.alloc (.cells #[.int .u32 (m.s : Int), .slice am m.d.length cm, .int .i64 (m.e : Int)] 47) = w2 at *
  obtain ⟨c0, c1, c2⟩ := HN2.out.three
  have f0 := HN2.out.frz 0
  have f1 := HN2.out.frz 1
  have f2 := HN2.out.frz 2
  refine wp_region_held_drew (S := fun w' => Keep (fun g => g = w.heap.size + 1) w2 w') (by kernel_rfl) (Keep.of_below (bel_drew w2)) (fun hHeld => ?_)
  refine wpAnyH_take (i := 0) (oi := ?_) (v := ?_) ?_ (by kernel_rfl) (by kernel_rfl) (by kernel_rfl) ?_ (Or.inl ⟨?_, ?_⟩) hHeld ?_
  rotate_left 2
  · (simp only [List.getElem?_toArray, List.getElem?_cons_zero]; rfl)
  · exact (fun _ _ _ h => h)
  · rfl
  · (intro w hSw; (try dsimp only at hSw); obtain ⟨q0, q1, q2⟩ := (HN3.out.keep hSw HNE3.out).three; go_simp; try with_reducible rfl)
  (try simp only [Act.put, List.setIfInBounds_toArray, List.set_cons_zero, List.set_cons_succ])
  refine wpAnyH_take (i := 1) (oi := ?_) (v := ?_) ?_ (by kernel_rfl) (by kernel_rfl) (by kernel_rfl) ?_ (Or.inl ⟨?_, ?_⟩) hHeld ?_
  rotate_left 2
  · (simp only [List.getElem?_toArray, List.getElem?_cons_zero, List.getElem?_cons_succ]; rfl)
  · exact (fun _ _ _ h => h)
  · rfl
  · (intro w hSw; (try dsimp only at hSw); go_simp; try with_reducible rfl)
  (try simp only [Act.put, List.setIfInBounds_toArray, List.set_cons_zero, List.set_cons_succ])
  refine wpAnyH_take (i := 2) (oi := ?_) (v := ?_) ?_ (by kernel_rfl) (by kernel_rfl) (by kernel_rfl) ?_ (Or.inl ⟨?_, ?_⟩) hHeld ?_
  rotate_left 2
  · (simp only [List.getElem?_toArray, List.getElem?_cons_zero, List.getElem?_cons_succ]; rfl)
  · exact (fun _ _ _ h => h)
  · rfl
  · (intro w hSw; (try dsimp only at hSw); go_simp; try with_reducible rfl)
  (try simp only [Act.put, List.setIfInBounds_toArray, List.set_cons_zero, List.set_cons_succ])
  refine wpAnyH_take (i := 3) (oi := ?_) (v := ?_) ?_ (by kernel_rfl) (by kernel_rfl) (by kernel_rfl) ?_ (Or.inl ⟨?_, ?_⟩) hHeld ?_
  rotate_left 2
  · (simp only [List.getElem?_toArray, List.getElem?_cons_zero, List.getElem?_cons_succ]; rfl)
  · exact (fun _ _ _ h => h)
  · rfl
  · (intro w hSw; (try dsimp only at hSw); go_simp; try with_reducible rfl)
  (try simp only [Act.put, List.setIfInBounds_toArray, List.set_cons_zero, List.set_cons_succ])
  refine wpAnyH_take (i := 4) (oi := ?_) (v := ?_) ?_ (by kernel_rfl) (by kernel_rfl) (by kernel_rfl) ?_ (Or.inl ⟨?_, ?_⟩) hHeld ?_
  rotate_left 2
  · (simp only [List.getElem?_toArray, List.getElem?_cons_zero, List.getElem?_cons_succ]; rfl)
  · exact (fun _ _ _ h => h)
  · rfl
  · (intro w hSw; (try dsimp only at hSw); obtain ⟨q0, q1, q2⟩ := (HN3.out.keep hSw HNE3.out).three; go_simp; try with_reducible rfl)
  (try simp only [Act.put, List.setIfInBounds_toArray, List.set_cons_zero, List.set_cons_succ])
  refine wpAnyH_take (i := 5) (oi := ?_) (v := ?_) ?_ (by kernel_rfl) (by kernel_rfl) (by kernel_rfl) ?_ (Or.inl ⟨?_, ?_⟩) hHeld ?_
  rotate_left 2
  · (simp only [List.getElem?_toArray, List.getElem?_cons_zero, List.getElem?_cons_succ]; rfl)
  · exact (fun _ _ _ h => h)
  · rfl
  · (intro w hSw; (try dsimp only at hSw); go_simp; try with_reducible rfl)
  (try simp only [Act.put, List.setIfInBounds_toArray, List.set_cons_zero, List.set_cons_succ])
  refine wpAnyH_take (i := 6) (oi := ?_) (v := ?_) ?_ (by kernel_rfl) (by kernel_rfl) (by kernel_rfl) ?_ (Or.inl ⟨?_, ?_⟩) hHeld ?_
  rotate_left 2
  · (simp only [List.getElem?_toArray, List.getElem?_cons_zero, List.getElem?_cons_succ]; rfl)
  · exact (fun _ _ _ h => h)
  · rfl
  · (intro w hSw; (try dsimp only at hSw); obtain ⟨q0, q1, q2⟩ := (HN1.out.keep hSw HNE1.out).three; go_simp; try with_reducible rfl)
  (try simp only [Act.put, List.setIfInBounds_toArray, List.set_cons_zero, List.set_cons_succ])
  refine wpAnyH_take (i := 7) (oi := ?_) (v := ?_) ?_ (by kernel_rfl) (by kernel_rfl) (by kernel_rfl) ?_ (Or.inl ⟨?_, ?_⟩) hHeld ?_
  rotate_left 2
  · (simp only [List.getElem?_toArray, List.getElem?_cons_zero, List.getElem?_cons_succ]; rfl)
  · exact (fun _ _ _ h => h)
  · rfl
  · (intro w hSw; (try dsimp only at hSw); go_simp; try with_reducible rfl)
  (try simp only [Act.put, List.setIfInBounds_toArray, List.set_cons_zero, List.set_cons_succ])
  refine wpAnyH_take (i := 8) (oi := ?_) (v := ?_) ?_ (by kernel_rfl) (by kernel_rfl) (by kernel_rfl) ?_ (Or.inl ⟨?_, ?_⟩) hHeld ?_
  rotate_left 2
  · (simp only [List.getElem?_toArray, List.getElem?_cons_zero, List.getElem?_cons_succ]; rfl)
  · exact (fun _ _ _ h => h)
  · rfl
  · (intro w hSw; (try dsimp only at hSw); go_simp; try with_reducible rfl)
  (try simp only [Act.put, List.setIfInBounds_toArray, List.set_cons_zero, List.set_cons_succ])
  refine wpAnyH_take (i := 9) (oi := ?_) (v := ?_) ?_ (by kernel_rfl) (by kernel_rfl) (by kernel_rfl) ?_ (Or.inl ⟨?_, ?_⟩) hHeld ?_
  rotate_left 2
  · (simp only [List.getElem?_toArray, List.getElem?_cons_zero, List.getElem?_cons_succ]; rfl)
  · exact (fun _ _ _ h => h)
  · rfl
  · (intro w hSw; (try dsimp only at hSw); go_simp; try with_reducible rfl)
  (try simp only [Act.put, List.setIfInBounds_toArray, List.set_cons_zero, List.set_cons_succ])
  refine wpAnyH_ready (rs := [10]) (by kernel_rfl) (by simp) ?_
  refine AllReadyH.cons (o := ?_) ?_ (fun K hK => ?_) AllReadyH.nil
  rotate_left
  · (simp only [List.getElem?_toArray, List.getElem?_cons_zero, List.getElem?_cons_succ]; rfl)
  go_simp
  refine hK.out _ _ (((hHeld.store _ 0 _ rfl).store _ 1 _ rfl).store _ 2 _ rfl) (fun hHeld => ?_)
  clear hK K
  (try simp only [Act.put, List.setIfInBounds_toArray, List.set_cons_zero, List.set_cons_succ])
  refine wpAnyH_take (i := 11) (oi := ?_) (v := ?_) ?_ (by kernel_rfl) (by kernel_rfl) (by kernel_rfl) ?_ (Or.inl ⟨?_, ?_⟩) hHeld ?_
  rotate_left 2
  · (simp only [List.getElem?_toArray, List.getElem?_cons_zero, List.getElem?_cons_succ]; rfl)
  · exact (fun _ _ _ h => h)
  · rfl
  · (intro w hSw; (try dsimp only at hSw); go_simp; try with_reducible rfl)
  (try simp only [Act.put, List.setIfInBounds_toArray, List.set_cons_zero, List.set_cons_succ])
  refine wpAnyH_done (by kernel_rfl) ?_ _
  go_wp2_with fail
  (try simp only [Exit.inBlock, Exit.then])
  refine bodyPost_ret (v := .tuple #[.agg #[.int .u32 (m.s : Int), .slice am m.d.length cm, .int .i64 (m.e : Int)], .bool false]) ?_ rfl ⟨_, _, _, rfl, bel_set3 (bel_drew_ HB1.out) (by omega) _ _ _⟩
  rw [results_cell_tmp rfl]
  go_simp

set_option maxHeartbeats 1000000 in
theorem next_yes (v : Value) (xs : List (BitVec 8)) (w : World) (hv : Byts w v xs) (hl : xs.length ≤ 100000) (n : Nt) (hs : n.s < 4294967295) (ra : Value) (k c : Nat) (a : Option Addr) (hra : ra = .slice a k c) (m : Nt) (h : brec xs n.e = some m) (he : m.s = n.s + 1) :
    Calls Tryz.prog 68 #[v, .agg #[.int .u32 (n.s : Int), ra, .int .i64 (n.e : Int)]] w fun e w' => ∃ r, e = .returned (.tuple #[.agg #[.int .u32 (m.s : Int), r, .int .i64 (m.e : Int)], .bool true]) ∧ Own w' (w.heap.size + 2) r m.d ∧ Below w.heap.size w w' := by
  subst hra
  have HB := Lib.hid (bel_two w (.cells #[.int .u32 (n.s : Int), .slice a k c, .int .i64 (n.e : Int)] 47) (.cells #[.int .u32 0, .slice none 0 0, .int .i64 0] 47))
  have HN := Lib.hid (two_new w #[.int .u32 (n.s : Int), .slice a k c, .int .i64 (n.e : Int)] #[.int .u32 0, .slice none 0 0, .int .i64 0] 47)
  have HR := Lib.hid (record_yes v xs _ (hv.below HB.out) hl n.e m h)
  have b0 : ((n.s : Int) == 4294967295) = false := by simp; omega
  have b1 : ((m.s : Int) == (n.s : Int) + 1) = true := by simp; omega
  have e1 : IntKind.u32.wrap ((n.s : Int) + 1) = (n.s : Int) + 1 := by simp [IntKind.wrap, IntKind.bits, IntKind.signed]; omega
  clear he hs
  clear hv h
  go_enter Tryz.func68, Tryz.ntmps68
  go_wp2_with fail
  (with_reducible refine HR.out.mono ?_)
  rintro e w1 ⟨rm, rfl, hown, hb⟩
  obtain ⟨am, cm, em⟩ := hown.byts.len
  subst em
  have HO := Lib.hid ((hown.below (below_alloc (Below.refl _ w1) (.cells #[.int .u32 (m.s : Int), .slice am m.d.length cm, .int .i64 (m.e : Int)] 47))).mono (show w.heap.size + 2 ≤ _ by simp))
  clear hown
  have HB1 := Lib.hid (below_alloc (below_call HB.out hb) (.cells #[.int .u32 (m.s : Int), .slice am m.d.length cm, .int .i64 (m.e : Int)] 47))
  have HN1 := Lib.hid ((HN.out.1.below hb).below (below_alloc (Below.refl _ w1) (.cells #[.int .u32 (m.s : Int), .slice am m.d.length cm, .int .i64 (m.e : Int)] 47)))
  have HN2 := Lib.hid ((HN.out.2.below hb).below (below_alloc (Below.refl _ w1) (.cells #[.int .u32 (m.s : Int), .slice am m.d.length cm, .int .i64 (m.e : Int)] 47)))
  have HN3 := Lib.hid (blk_new w1 #[.int .u32 (m.s : Int), .slice am m.d.length cm, .int .i64 (m.e : Int)] 47)
  have HNE1 : Hid (¬ w.heap.size = w.heap.size + 1) := Lib.hid (by omega)
  have HNE3 : Hid (¬ w1.heap.size = w.heap.size + 1) := Lib.hid (by have := (HN.out.2.below hb).lt; omega)
  clear hb HB HN HR
  go_wp2_with fail
  generalize w1.alloc (.cells #[.int .u32 (m.s : Int), .slice am m.d.length cm, .int .i64 (m.e : Int)] 47) = w2 at *
  obtain ⟨c0, c1, c2⟩ := HN2.out.three
  have f0 := HN2.out.frz 0
  have f1 := HN2.out.frz 1
  have f2 := HN2.out.frz 2
  refine wp_region_held_drew (S := fun w' => Keep (fun g => g = w.heap.size + 1) w2 w') (by kernel_rfl) (Keep.of_below (bel_drew w2)) (fun hHeld => ?_)
  refine wpAnyH_take (i := 0) (oi := ?_) (v := ?_) ?_ (by kernel_rfl) (by kernel_rfl) (by kernel_rfl) ?_ (Or.inl ⟨?_, ?_⟩) hHeld ?_
  rotate_left 2
  · (simp only [List.getElem?_toArray, List.getElem?_cons_zero]; rfl)
  · exact (fun _ _ _ h => h)
  · rfl
  · (intro w hSw; (try dsimp only at hSw); obtain ⟨q0, q1, q2⟩ := (HN3.out.keep hSw HNE3.out).three; go_simp; try with_reducible rfl)
  (try simp only [Act.put, List.setIfInBounds_toArray, List.set_cons_zero, List.set_cons_succ])
  refine wpAnyH_take (i := 1) (oi := ?_) (v := ?_) ?_ (by kernel_rfl) (by kernel_rfl) (by kernel_rfl) ?_ (Or.inl ⟨?_, ?_⟩) hHeld ?_
  rotate_left 2
  · (simp only [List.getElem?_toArray, List.getElem?_cons_zero, List.getElem?_cons_succ]; rfl)
  · exact (fun _ _ _ h => h)
  · rfl
  · (intro w hSw; (try dsimp only at hSw); go_simp; try with_reducible rfl)
  (try simp only [Act.put, List.setIfInBounds_toArray, List.set_cons_zero, List.set_cons_succ])
  refine wpAnyH_take (i := 2) (oi := ?_) (v := ?_) ?_ (by kernel_rfl) (by kernel_rfl) (by kernel_rfl) ?_ (Or.inl ⟨?_, ?_⟩) hHeld ?_
  rotate_left 2
  · (simp only [List.getElem?_toArray, List.getElem?_cons_zero, List.getElem?_cons_succ]; rfl)
  · exact (fun _ _ _ h => h)
  · rfl
  · (intro w hSw; (try dsimp only at hSw); go_simp; try with_reducible rfl)
  (try simp only [Act.put, List.setIfInBounds_toArray, List.set_cons_zero, List.set_cons_succ])
  refine wpAnyH_take (i := 3) (oi := ?_) (v := ?_) ?_ (by kernel_rfl) (by kernel_rfl) (by kernel_rfl) ?_ (Or.inl ⟨?_, ?_⟩) hHeld ?_
  rotate_left 2
  · (simp only [List.getElem?_toArray, List.getElem?_cons_zero, List.getElem?_cons_succ]; rfl)
  · exact (fun _ _ _ h => h)
  · rfl
  · (intro w hSw; (try dsimp only at hSw); go_simp; try with_reducible rfl)
  (try simp only [Act.put, List.setIfInBounds_toArray, List.set_cons_zero, List.set_cons_succ])
  refine wpAnyH_take (i := 4) (oi := ?_) (v := ?_) ?_ (by kernel_rfl) (by kernel_rfl) (by kernel_rfl) ?_ (Or.inl ⟨?_, ?_⟩) hHeld ?_
  rotate_left 2
  · (simp only [List.getElem?_toArray, List.getElem?_cons_zero, List.getElem?_cons_succ]; rfl)
  · exact (fun _ _ _ h => h)
  · rfl
  · (intro w hSw; (try dsimp only at hSw); obtain ⟨q0, q1, q2⟩ := (HN3.out.keep hSw HNE3.out).three; go_simp; try with_reducible rfl)
  (try simp only [Act.put, List.setIfInBounds_toArray, List.set_cons_zero, List.set_cons_succ])
  refine wpAnyH_take (i := 5) (oi := ?_) (v := ?_) ?_ (by kernel_rfl) (by kernel_rfl) (by kernel_rfl) ?_ (Or.inl ⟨?_, ?_⟩) hHeld ?_
  rotate_left 2
  · (simp only [List.getElem?_toArray, List.getElem?_cons_zero, List.getElem?_cons_succ]; rfl)
  · exact (fun _ _ _ h => h)
  · rfl
  · (intro w hSw; (try dsimp only at hSw); go_simp; try with_reducible rfl)
  (try simp only [Act.put, List.setIfInBounds_toArray, List.set_cons_zero, List.set_cons_succ])
  refine wpAnyH_take (i := 6) (oi := ?_) (v := ?_) ?_ (by kernel_rfl) (by kernel_rfl) (by kernel_rfl) ?_ (Or.inl ⟨?_, ?_⟩) hHeld ?_
  rotate_left 2
  · (simp only [List.getElem?_toArray, List.getElem?_cons_zero, List.getElem?_cons_succ]; rfl)
  · exact (fun _ _ _ h => h)
  · rfl
  · (intro w hSw; (try dsimp only at hSw); obtain ⟨q0, q1, q2⟩ := (HN1.out.keep hSw HNE1.out).three; go_simp; try with_reducible rfl)
  (try simp only [Act.put, List.setIfInBounds_toArray, List.set_cons_zero, List.set_cons_succ])
  refine wpAnyH_take (i := 7) (oi := ?_) (v := ?_) ?_ (by kernel_rfl) (by kernel_rfl) (by kernel_rfl) ?_ (Or.inl ⟨?_, ?_⟩) hHeld ?_
  rotate_left 2
  · (simp only [List.getElem?_toArray, List.getElem?_cons_zero, List.getElem?_cons_succ]; rfl)
  · exact (fun _ _ _ h => h)
  · rfl
  · (intro w hSw; (try dsimp only at hSw); go_simp; try with_reducible rfl)
  (try simp only [Act.put, List.setIfInBounds_toArray, List.set_cons_zero, List.set_cons_succ])
  refine wpAnyH_take (i := 8) (oi := ?_) (v := ?_) ?_ (by kernel_rfl) (by kernel_rfl) (by kernel_rfl) ?_ (Or.inl ⟨?_, ?_⟩) hHeld ?_
  rotate_left 2
  · (simp only [List.getElem?_toArray, List.getElem?_cons_zero, List.getElem?_cons_succ]; rfl)
  · exact (fun _ _ _ h => h)
  · rfl
  · (intro w hSw; (try dsimp only at hSw); go_simp; try with_reducible rfl)
  (try simp only [Act.put, List.setIfInBounds_toArray, List.set_cons_zero, List.set_cons_succ])
  refine wpAnyH_take (i := 9) (oi := ?_) (v := ?_) ?_ (by kernel_rfl) (by kernel_rfl) (by kernel_rfl) ?_ (Or.inl ⟨?_, ?_⟩) hHeld ?_
  rotate_left 2
  · (simp only [List.getElem?_toArray, List.getElem?_cons_zero, List.getElem?_cons_succ]; rfl)
  · exact (fun _ _ _ h => h)
  · rfl
  · (intro w hSw; (try dsimp only at hSw); go_simp; try with_reducible rfl)
  (try simp only [Act.put, List.setIfInBounds_toArray, List.set_cons_zero, List.set_cons_succ])
  refine wpAnyH_ready (rs := [10]) (by kernel_rfl) (by simp) ?_
  refine AllReadyH.cons (o := ?_) ?_ (fun K hK => ?_) AllReadyH.nil
  rotate_left
  · (simp only [List.getElem?_toArray, List.getElem?_cons_zero, List.getElem?_cons_succ]; rfl)
  go_simp
  refine hK.out _ _ (((hHeld.store _ 0 _ rfl).store _ 1 _ rfl).store _ 2 _ rfl) (fun hHeld => ?_)
  clear hK K
  (try simp only [Act.put, List.setIfInBounds_toArray, List.set_cons_zero, List.set_cons_succ])
  refine wpAnyH_take (i := 11) (oi := ?_) (v := ?_) ?_ (by kernel_rfl) (by kernel_rfl) (by kernel_rfl) ?_ (Or.inl ⟨?_, ?_⟩) hHeld ?_
  rotate_left 2
  · (simp only [List.getElem?_toArray, List.getElem?_cons_zero, List.getElem?_cons_succ]; rfl)
  · exact (fun _ _ _ h => h)
  · rfl
  · (intro w hSw; (try dsimp only at hSw); go_simp; try with_reducible rfl)
  (try simp only [Act.put, List.setIfInBounds_toArray, List.set_cons_zero, List.set_cons_succ])
  refine wpAnyH_done (by kernel_rfl) ?_ _
  go_wp2_with fail
  (try simp only [Exit.inBlock, Exit.then])
  refine bodyPost_ret (v := .tuple #[.agg #[.int .u32 (m.s : Int), .slice am m.d.length cm, .int .i64 (m.e : Int)], .bool true]) ?_ rfl ⟨_, rfl, own_set3 (own_drew HO.out) (by omega) _ _ _, bel_set3 (bel_drew_ HB1.out) (by omega) _ _ _⟩
  rw [results_cell_tmp rfl]
  go_simp
end Go.Proofs.YtekackglcapppaaGreatDoor
/-
  bank.row: the iterator's function, by contract; the statement that ranges over it.
-/
namespace Go.Proofs.YtekackglcapppaaGreatDoor
open Go.RowKit

attribute [local go_sem] Oper.semAt_some

/-- What record and next tell: a note that was told, or none. -/
def Tells (m : Option Nt) (B : Nat) (w : World) (s : Int) (a : Option Addr) (k c : Nat) (e : Int) (ok : Bool) : Prop :=
  (m = none ∧ ok = false) ∨ (ok = true ∧ ∃ y : NV, m = some y.nt ∧ s = (y.s : Int) ∧ .slice a k c = y.v ∧ e = (y.e : Int) ∧ Own w B y.v y.d)
theorem record_any (v : Value) (xs : List (BitVec 8)) (w : World) (hv : Byts w v xs) (hl : xs.length ≤ 100000) :
    Calls Tryz.prog 67 #[v, .int .i64 0] w fun e w' => ∃ s a k c p ok, e = .returned (.tuple #[.agg #[.int .u32 s, .slice a k c, .int .i64 p], .bool ok]) ∧ Tells (brec xs 0) w.heap.size w' s a k c p ok ∧ Below w.heap.size w w' := by
  cases h : brec xs 0 with
  | none =>
    refine (record_no v xs w hv hl 0 (by omega) h).mono ?_
    rintro e w' ⟨rfl, hb⟩
    exact ⟨_, _, _, _, _, _, rfl, .inl ⟨rfl, rfl⟩, hb⟩
  | some m =>
    refine (record_yes v xs w hv hl 0 m h).mono ?_
    rintro e w' ⟨r, rfl, ho, hb⟩
    obtain ⟨y, rfl, rfl, ho, _⟩ := nv_of (ho.mono (Nat.le_succ _)) (brec_some h).1
    exact ⟨_, _, _, _, _, _, rfl, .inr ⟨rfl, y, rfl, rfl, rfl, rfl, ho⟩, hb⟩
theorem next_any (v : Value) (xs : List (BitVec 8)) (w : World) (hv : Byts w v xs) (hl : xs.length ≤ 100000) (y : NV) (hs : y.s < 4294967296) (he : y.e ≤ xs.length) :
    Calls Tryz.prog 68 #[v, .agg #[.int .u32 (y.s : Int), .slice (some ⟨y.g, 0, none⟩) y.d.length y.c, .int .i64 (y.e : Int)]] w fun e w' => ∃ s a k c p ok, e = .returned (.tuple #[.agg #[.int .u32 s, .slice a k c, .int .i64 p], .bool ok]) ∧ Tells (bnxt xs y.nt) w.heap.size w' s a k c p ok ∧ Below w.heap.size w w' := by
  cases h : bnxt xs y.nt with
  | none =>
    rcases bnxt_none h with h0 | ⟨h0, h1⟩ | ⟨h0, m, h1, h2⟩
    · have h0' : (y.s : Int) = 4294967295 := by have : y.s = 4294967295 := h0; omega
      rw [h0']
      refine (next_last v _ _ _ _ _ w rfl).mono ?_
      rintro e w' ⟨rfl, hb⟩
      exact ⟨_, _, _, _, _, _, rfl, .inl ⟨rfl, rfl⟩, hb⟩
    · refine (next_gone v xs w hv hl y.nt (by have : y.s ≠ 4294967295 := h0; show y.s < _; omega) he _ _ _ _ rfl h1).mono ?_
      rintro e w' ⟨rfl, hb⟩
      exact ⟨_, _, _, _, _, _, rfl, .inl ⟨rfl, rfl⟩, hb⟩
    · refine (next_other v xs w hv hl y.nt (by have : y.s ≠ 4294967295 := h0; show y.s < _; omega) _ _ _ _ rfl m h1 h2).mono ?_
      rintro e w' ⟨a, k, c, rfl, hb⟩
      exact ⟨_, _, _, _, _, _, rfl, .inl ⟨rfl, rfl⟩, hb⟩
  | some m =>
    obtain ⟨h0, h1, h2⟩ := bnxt_some h
    refine (next_yes v xs w hv hl y.nt (by have : y.s ≠ 4294967295 := h0; show y.s < _; omega) _ _ _ _ rfl m h1 h2).mono ?_
    rintro e w' ⟨r, rfl, ho, hb⟩
    obtain ⟨z, rfl, rfl, ho, _⟩ := nv_of (ho.mono (show w.heap.size ≤ w.heap.size + 2 by omega)) (brec_some h1).1
    exact ⟨_, _, _, _, _, _, rfl, .inr ⟨rfl, z, rfl, rfl, rfl, rfl, ho⟩, hb⟩

theorem row_any (a : Option Addr) (n c : Nat) (w : World) : Calls Tryz.prog 53 #[.slice a n c] w fun e w' => e = .returned (.func (.func 66) #[] #[.pointer (some ⟨w.heap.size, 0, none⟩)]) ∧ w' = w.alloc (.cells #[.slice a n c] 22) := by
  go_enter Tryz.func53, Tryz.ntmps53
  go_wp2
  go_ret
  exact ⟨rfl, rfl⟩

def okOf : Value → Nat
  | .bool true => 1
  | _ => 0
def placeOf (w : World) (c : Nat) : Nat := match w.cell? ⟨c, 2, none⟩ with
  | some v => (intOf v).toNat
  | none => 0
theorem placeOf_eq {w : World} {c e : Nat} (h : w.cell? ⟨c, 2, none⟩ = some (.int .i64 (e : Int))) : placeOf w c = e := by
  unfold placeOf
  rw [h]
  simp [intOf]

/-- The loop's state between two rounds. -/
def Loops (v : Value) (xs : List (BitVec 8)) (bb _lo c B : Nat) (J : Nat → List NV → World → Prop) (okv : Value) (wr : World) : Prop :=
  ∃ (pre : List NV) (s : Int) (a : Option Addr) (k cc : Nat) (p : Int) (ok : Bool), okv = .bool ok ∧ J c pre wr ∧ Blk wr c #[.int .u32 s, .slice a k cc, .int .i64 p] 47 ∧ Byts wr v xs ∧ wr.cell? ⟨bb, 0, none⟩ = some v ∧ (∀ y ∈ pre, y.g < wr.heap.size) ∧ B ≤ wr.heap.size ∧
    ((ok = false ∧ bnotes xs = pre.map NV.nt) ∨ (ok = true ∧ ∃ x : NV, s = (x.s : Int) ∧ .slice a k cc = x.v ∧ p = (x.e : Int) ∧ Own wr B x.v x.d ∧ x.g ≠ c ∧ (∀ y ∈ pre, y.g < x.g) ∧ x.e ≤ xs.length ∧ x.s < 4294967296 ∧ bnotes xs = pre.map NV.nt ++ brest xs (some x.nt)))

/-- What a round may change: nothing older than the call, nothing of the iterator's. -/
def Mayn (lo bb c : Nat) : Nat → Prop := fun k => ¬ (k < lo ∨ k = bb ∨ k = c)

theorem blk_ne {w : World} {g c : Nat} {C D : Array Value} (h : w.heap[g]? = some (.cells C 5 (0, 0))) (k : Blk w c D 47) : g ≠ c := by
  intro e
  subst e
  unfold Blk at k
  rw [h] at k
  simp at k

theorem loops_mk {v : Value} {xs : List (BitVec 8)} {bb lo c B B' : Nat} {J : Nat → List NV → World → Prop} {pre : List NV} {m : Option Nt} {w wr : World} {s : Int} {a : Option Addr} {k cc : Nat} {p : Int} {ok : Bool}
    (ht : Tells m B' w s a k cc p ok) (hB : B ≤ B') (hown : ∀ y : NV, Own w B' y.v y.d → Own wr B' y.v y.d) (hJ : J c pre wr) (hk : Blk wr c #[.int .u32 s, .slice a k cc, .int .i64 p] 47) (hv : Byts wr v xs)
    (hbb : wr.cell? ⟨bb, 0, none⟩ = some v) (hpre : ∀ y ∈ pre, y.g < B') (hB' : B' ≤ wr.heap.size) (hm : ∀ n, m = some n → n.e ≤ xs.length ∧ n.s < 4294967296) (hN : bnotes xs = pre.map NV.nt ++ brest xs m) : Loops v xs bb lo c B J (.bool ok) wr := by
  refine ⟨pre, s, a, k, cc, p, ok, rfl, hJ, hk, hv, hbb, fun y hy => Nat.lt_of_lt_of_le (hpre y hy) hB', Nat.le_trans hB hB', ?_⟩
  rcases ht with ⟨rfl, rfl⟩ | ⟨rfl, y, rfl, rfl, h1, rfl, ho⟩
  · exact .inl ⟨rfl, by rw [hN, brest_none, List.append_nil]⟩
  · obtain ⟨C, hC, hlo⟩ := NV.own_block (hown y ho)
    exact .inr ⟨rfl, y, rfl, h1, rfl, (hown y ho).mono hB, blk_ne hC hk, fun z hz => Nat.lt_of_lt_of_le (hpre z hz) hlo, (hm _ rfl).1, (hm _ rfl).2, hN⟩
theorem loops_less {xs : List (BitVec 8)} {c B' : Nat} {x : NV} {w wr : World} {s : Int} {a : Option Addr} {k cc : Nat} {p : Int} {ok : Bool} (ht : Tells (bnxt xs x.nt) B' w s a k cc p ok)
    (hk : Blk wr c #[.int .u32 s, .slice a k cc, .int .i64 p] 47) (hx : x.e ≤ xs.length) : okOf (.bool ok) * (xs.length + 1 - placeOf wr c) < okOf (.bool true) * (xs.length + 1 - x.e) := by
  rcases ht with ⟨_, rfl⟩ | ⟨rfl, y, hy, rfl, h1, rfl, ho⟩
  · simp [okOf]; omega
  · have h2 := bnxt_end hy
    rw [placeOf_eq (hk.cell 2 rfl)]
    simp only [okOf, Nat.one_mul]
    have h3 : x.e + 9 ≤ y.e := h2.1
    have h4 : y.e ≤ xs.length := h2.2
    omega
theorem bnxt_bound {xs : List (BitVec 8)} {n m : Nt} (h : bnxt xs n = some m) : m.e ≤ xs.length ∧ m.s < 4294967296 := by
  obtain ⟨_, h1, _⟩ := bnxt_some h
  have h2 := brec_some h1
  exact ⟨h2.2.2.2.2.1, h2.2.2.1⟩
theorem byts_far {w w' : World} {v : Value} {xs : List (BitVec 8)} {lo bb c : Nat} (h : Byts w v xs) (hk : Keep (Mayn lo bb c) w w') (hfar : ∀ a k c, v = .slice (some a) k c → k = 0 ∨ a.block < lo) : Byts w' v xs :=
  h.keep hk fun a n c' e => (hfar a n c' e).imp id fun h1 h2 => h2 (.inl h1)

set_option maxRecDepth 100000 in
set_option maxHeartbeats 4000000 in
theorem round_calls (F : Fence) (n : Nat) (hF : ∀ k, F.fn k) (hro : F.round = none) (hn : 1 ≤ n) (hC : ∀ (m f : Nat) (args : Array Value) (w : World) (R : Ending → World → Prop), Calls Tryz.prog f args w R → CallsIn F m Tryz.prog f args w R)
    (l bb lo : Nat) (v : Value) (xs : List (BitVec 8)) (hl : xs.length ≤ 100000) (hfar : ∀ a k c, v = .slice (some a) k c → k = 0 ∨ a.block < lo)
    (J : Nat → List NV → World → Prop) (W : World) (hv : Byts W v xs) (hbb : W.cell? ⟨bb, 0, none⟩ = some v) (hlo : lo ≤ W.heap.size)
    (hstart : ∀ c W1, Below W.heap.size W W1 → W.heap.size ≤ c → J c [] W1)
    (hJ : ∀ c pre W1 W2, W.heap.size ≤ c → J c pre W1 → Keep (fun k => k = c) W1 W2 → J c pre W2)
    (hY : ∀ c pre x W1, W.heap.size ≤ c → c < W1.heap.size → J c pre W1 → Own W1 W.heap.size x.v x.d → x.g ≠ c → (∀ y ∈ pre, y.g < x.g) → pre.length ≤ 100001 → YieldAt F (n - 1) Tryz.prog l #[.agg #[.int .u32 (x.s : Int), .slice (some ⟨x.g, 0, none⟩) x.d.length x.c, .int .i64 (x.e : Int)]] W1 fun e W' =>
      e = .returned (.bool true) ∧ J c (pre ++ [x]) W' ∧ Keep (Mayn lo bb c) W1 W') :
    CallsIn F n Tryz.prog 66 #[.func (.yield l) #[] #[], .pointer (some ⟨bb, 0, none⟩)] W fun e W' => (∃ u, e = .returned u) ∧ ∃ c ys, W.heap.size ≤ c ∧ ys.map NV.nt = bnotes xs ∧ J c ys W' := by
  have HV := Lib.hid hv
  have HR := Lib.hid (record_any v xs W hv hl)
  have HLO := Lib.hid hlo
  have HFAR := Lib.hid hfar
  have hnn : 1 ≤ n - 1 + 1 := by omega
  clear hv hfar
  refine callsIn_of_wp Tryz.func66 rfl (hF _) ?_ hro
  simp only [Tryz.ntmps66, List.size_toArray, List.length_cons, List.length_nil, Nat.reduceAdd, Nat.reduceSub, Array.replicate_succ, Array.replicate_zero, List.push_toArray, List.append_toArray, List.nil_append, List.cons_append]
  gi_wp2_with (gi_at_call 67; (with_reducible refine (hC _ _ _ _ _ HR.out).mono ?_); rintro e w1 ⟨s, a, k, cc, p, ok, rfl, ht, hb⟩; have HT := Lib.hid ht; have HB := Lib.hid hb; clear ht hb HR)
  have hcW : W.heap.size ≤ w1.heap.size := HB.out.size
  have HB2 := Lib.hid (below_alloc HB.out (.cells #[.int .u32 s, .slice a k cc, .int .i64 p] 47))
  have HK2 := Lib.hid (blk_new w1 #[.int .u32 s, .slice a k cc, .int .i64 p] 47)
  have HST : Hid (Loops v xs bb lo w1.heap.size W.heap.size J (.bool ok) (w1.alloc (.cells #[.int .u32 s, .slice a k cc, .int .i64 p] 47))) := Lib.hid (loops_mk HT.out (Nat.le_refl _) (fun y h => h.below (below_alloc (Below.refl _ _) _)) (hstart _ _ HB2.out hcW) HK2.out (HV.out.below HB2.out) (below_cell HB2.out hbb) (by simp) HB2.out.size
    (fun n h => by have h2 := brec_some h; exact ⟨h2.2.2.2.2.1, h2.2.2.1⟩) rfl)
  have HBB := Lib.hid (lt_of_cell hbb)
  clear hbb hlo
  generalize w1.alloc (.cells #[.int .u32 s, .slice a k cc, .int .i64 p] 47) = w2 at *
  generalize w1.heap.size = c at *
  gi_loopw [4] (fun okv wr => Loops v xs bb lo c W.heap.size J okv wr) (fun okv wr => okOf okv * (xs.length + 1 - placeOf wr c))
  case atStart => exact HST.out
  case round =>
    clear HST HB2 HK2 HT HB HV
    obtain ⟨pre, s, a, k, cc, p, ok, rfl, hJ1, hk1, hv1, hb1, hg1, hB1, hcase⟩ := hrel
    rcases hcase with ⟨rfl, hN⟩ | ⟨rfl, x, rfl, hx, rfl, ho, hxc, hxg, hxe, hxs, hN⟩
    · have HE := Lib.hid (show (∃ u, Ending.returned undef = .returned u) ∧ ∃ c ys, W.heap.size ≤ c ∧ ys.map NV.nt = bnotes xs ∧ J c ys wr from ⟨⟨_, rfl⟩, c, pre, hcW, hN.symm, hJ1⟩)
      clear hN hg1 hv1 hb1
      gi_wp2
      go_end0
      exact HE.out
    · simp only [NV.v, Value.slice.injEq] at hx
      obtain ⟨rfl, rfl, rfl⟩ := hx
      have hlen : pre.length ≤ 100001 := by
        have h1 := bnotes_len xs
        rw [hN] at h1
        simp at h1
        omega
      obtain ⟨c0, c1, c2⟩ := hk1.three
      obtain ⟨fn, tmps, assign, body, hy, hR⟩ := hY c pre x wr hcW hk1.lt hJ1 ho hxc hxg hlen
      have HX := Lib.hid (NV.lt ho)
      have HP := Lib.hid (placeOf_eq c2)
      have HK := Lib.hid hk1
      have HV1 := Lib.hid hv1
      have HN := Lib.hid hN
      have HG := Lib.hid hg1
      have HC1 := Lib.hid hb1
      have HXE := Lib.hid hxe
      have HXS := Lib.hid hxs
      clear hk1 hv1 hN hg1 hxe hxs ho hJ1 hb1 hY hxg
      gi_wp2
      refine hR.mono ?_
      rintro e w3 ⟨rfl, hJ3, hk3⟩
      have HK3 := Lib.hid (HK.out.keep hk3 (fun h => h (.inr (.inr rfl))))
      have HV3 := Lib.hid (byts_far HV1.out hk3 HFAR.out)
      have HC3 := Lib.hid (hk3.cell HC1.out (fun h => h (.inr (.inl rfl))))
      have HX3 := Lib.hid (Nat.lt_of_lt_of_le HX.out hk3.size)
      have HG3 : Hid (∀ y ∈ pre ++ [x], y.g < w3.heap.size) := Lib.hid (fun y hy => (List.mem_append.1 hy).elim (fun h => Nat.lt_of_lt_of_le (HG.out y h) hk3.size) (fun h => by simp at h; subst h; exact HX3.out))
      have HB3 := Lib.hid (Nat.le_trans hB1 hk3.size)
      have HJ3 := Lib.hid hJ3
      have HN3 := Lib.hid (next_any v xs w3 HV3.out hl x HXS.out HXE.out)
      obtain ⟨c0, c1, c2⟩ := HK3.out.three
      have hcb := HC3.out
      clear hy hR hJ3 hk3 HK HV1 HC1 HX HG hB1 c0 c1 c2
      obtain ⟨c0, c1, c2⟩ := HK3.out.three
      gi_wp2_with (gi_at_call 68; (with_reducible refine (hC _ _ _ _ _ HN3.out).mono ?_); rintro e w4 ⟨s, a, k, cc, p, ok, rfl, ht, hb⟩; have HT := Lib.hid ht; have HB4 := Lib.hid hb; have HK4 := Lib.hid (HK3.out.below hb); obtain ⟨d0, d1, d2⟩ := HK4.out.three; have f0 := HK4.out.frz 0; have f1 := HK4.out.frz 1; have f2 := HK4.out.frz 2; clear ht hb HN3 c0 c1 c2 hcb)
      have HK5 := Lib.hid (show Blk (((w4.setCell ⟨c, 0, none⟩ (.int .u32 s)).setCell ⟨c, 1, none⟩ (.slice a k cc)).setCell ⟨c, 2, none⟩ (.int .i64 p)) c #[.int .u32 s, .slice a k cc, .int .i64 p] 47 from ((HK4.out.set_ 0 _).set_ 1 _).set_ 2 _)
      have HKP := Lib.hid (show Keep (fun k => k = c) w3 (((w4.setCell ⟨c, 0, none⟩ (.int .u32 s)).setCell ⟨c, 1, none⟩ (.slice a k cc)).setCell ⟨c, 2, none⟩ (.int .i64 p)) from (((Keep.of_below (F := fun k => k = c) HB4.out).store c 0 _ rfl).store c 1 _ rfl).store c 2 _ rfl)
      go_roundw
      case rel =>
        refine loops_mk HT.out HB3.out (fun y h => own_set3 h HK3.out.lt _ _ _) (hJ c _ _ _ hcW HJ3.out HKP.out) HK5.out ?_ ?_ HG3.out HKP.out.size (fun n h => bnxt_bound h) ?_
        · refine HV3.out.keep HKP.out fun a n c' e => (HFAR.out a n c' e).imp id fun h1 h2 => ?_
          have h3 := HLO.out
          have h2 : a.block = c := h2
          omega
        · refine HKP.out.cell HC3.out fun h2 => ?_
          have h3 := HBB.out
          have h2 : bb = c := h2
          omega
        · rw [HN.out, brest_some xs x.nt HXE.out]
          simp
      case measure =>
        rw [HP.out]
        exact loops_less HT.out HK5.out HXE.out
end Go.Proofs.YtekackglcapppaaGreatDoor
/-
  The statement that ranges over bank.row's function, no round leaving early.
-/
namespace Go.Proofs.YtekackglcapppaaGreatDoor
open Go.RowKit

theorem keep_putObj (w : World) (l : Nat) (o : Obj) : Keep (fun k => k = l) w (w.putObj l o) :=
  ⟨rfl, rfl, rfl, by simp, fun k _ hk => World.putObj_heap_other hk⟩

set_option maxRecDepth 100000 in
set_option maxHeartbeats 1000000 in
theorem range_row (F : Fence) (n : Nat) (hF : ∀ k, F.fn k) (hro : F.round = none) (hn : 2 ≤ n) (hC : ∀ (m f : Nat) (args : Array Value) (w : World) (R : Ending → World → Prop), Calls Tryz.prog f args w R → CallsIn F m Tryz.prog f args w R)
    {g : Operand} {p : Tmp} {assign body : Code} {Q : Exit → Act → World → Prop} {a : Act} {w : World} (bb lo : Nat) (v : Value) (xs : List (BitVec 8)) (hl : xs.length ≤ 100000)
    (hfar : ∀ a k c, v = .slice (some a) k c → k = 0 ∨ a.block < lo) (hv : Byts w v xs) (hbb : w.cell? ⟨bb, 0, none⟩ = some v) (hlo : lo ≤ w.heap.size)
    (hg : a.eval g = .func (.func 66) #[] #[.pointer (some ⟨bb, 0, none⟩)])
    (I : Nat → List NV → World → Prop)
    (hstart : ∀ c W, Below w.heap.size w W → w.heap.size + 2 ≤ c → I c [] W)
    (hI : ∀ c pre W1 W2, w.heap.size + 2 ≤ c → I c pre W1 → Keep (fun k => k = c ∨ k = w.heap.size ∨ k = w.heap.size + 1) W1 W2 → I c pre W2)
    (a₁ : NV → Nat → Act)
    (hassign : ∀ (l : Nat) (x : NV) (W : World) (K : Act → World → Prop), K (a₁ x W.heap.size) (W.alloc (.cells #[.int .u32 (x.s : Int), .slice (some ⟨x.g, 0, none⟩) x.d.length x.c, .int .i64 (x.e : Int)] 47)) →
      assign.wpIn (F.inRound l) (n - 1 - 1) Tryz.prog (Exit.then K (fun _ _ _ => False)) { tmps := ((#[p] : Array Tmp).zip #[Value.agg #[.int .u32 (x.s : Int), .slice (some ⟨x.g, 0, none⟩) x.d.length x.c, .int .i64 (x.e : Int)]]).foldl (fun t (p, v) => t.setIfInBounds p v) a.tmps, defers := [] } W)
    (hbody : ∀ (l c : Nat) (pre : List NV) (x : NV) (nb : Nat) (W : World), w.heap.size + 2 ≤ c → c < W.heap.size → I c pre W → Own W w.heap.size x.v x.d → x.g ≠ c → x.g ≠ w.heap.size → x.g ≠ w.heap.size + 1 → (∀ y ∈ pre, y.g < x.g) → pre.length ≤ 100001 →
      Blk W nb #[.int .u32 (x.s : Int), .slice (some ⟨x.g, 0, none⟩) x.d.length x.c, .int .i64 (x.e : Int)] 47 →
      body.wpIn (F.inRound l) (n - 1 - 1) Tryz.prog (fun e _ W' => e = .normal ∧ Keep (fun k => Mayn lo bb c k ∧ k ≠ w.heap.size ∧ k ≠ w.heap.size + 1) W W' ∧ I c (pre ++ [x]) W') (a₁ x nb) W)
    (hdone : ∀ (c : Nat) (ys : List NV) (W : World), w.heap.size + 2 ≤ c → ys.map NV.nt = bnotes xs → I c ys W → W.heap[w.heap.size]? = some (.deferred (some [])) → Q .normal { a with defers := { target := .collected w.heap.size, args := #[] } :: a.defers } W) :
    (Code.rangeFunc g #[p] assign body).wpIn F n Tryz.prog Q a w := by
  have hbl := lt_of_cell hbb
  refine wpIn_rangeFunc ?_
  intro fn hfn
  rw [hro]
  obtain ⟨rec, hrec⟩ : ∃ rec : LoopState → Option Code → Loop, rec = fun st pe => { state := st, pending := pe, fn, tmps := a.tmps, params := #[p], assign, body, defers := w.heap.size } := ⟨_, rfl⟩
  obtain ⟨W1, hW1⟩ : ∃ W1, (w.alloc (.deferred (some []))).alloc (.loop (rec .ready none)) = W1 := ⟨_, rfl⟩
  have hL1 : W1.heap[w.heap.size + 1]? = some (.loop (rec .ready none)) := by
    rw [← hW1]; have := World.alloc_heap_new (w.alloc (.deferred (some []))) (.loop (rec .ready none)); rwa [World.size_alloc] at this
  have hK1 : W1.heap[w.heap.size]? = some (.deferred (some [])) := by
    rw [← hW1]; exact (Below.heap_alloc _ _ _ (by simp)).trans (World.alloc_heap_new w _)
  have hb1 : Below w.heap.size w W1 := by rw [← hW1]; exact bel_two w _ _
  have hsz : W1.heap.size = w.heap.size + 2 := by rw [← hW1]; simp
  refine ⟨w.heap.size + 1, [{ target := .collected w.heap.size, args := #[] }], W1, { target := .fn (.func 66) #[.pointer (some ⟨bb, 0, none⟩)], args := #[.func (.yield (w.heap.size + 1)) #[] #[]] }, W1, 66,
    #[.func (.yield (w.heap.size + 1)) #[] #[]] ++ #[.pointer (some ⟨bb, 0, none⟩)], W1, ?_, ?_, ?_, ?_, fun _ => by omega, ?_⟩
  · rw [← hW1, hrec]; exact run_enterLoop_outer _ _ _ _ _
  · simp only [resolve, hg]
    simp [go_sem]
  · exact fun f' _ => hF f'
  · simp [invoke, go_sem]
  · refine (round_calls F (n - 1) hF hro (by omega) hC (w.heap.size + 1) bb lo v xs hl hfar
      (fun c pre W => I c pre W ∧ W.heap[w.heap.size + 1]? = some (.loop (rec .ready none)) ∧ W.heap[w.heap.size]? = some (.deferred (some [])))
      W1 (hv.below hb1) (below_cell hb1 hbb) (by omega)
      (fun c W hb hc => ⟨hstart c W (below_call hb1 hb) (by omega), (hb.block _ (by omega)).trans hL1, (hb.block _ (by omega)).trans hK1⟩)
      (fun c pre A B hc ⟨hi, hl, hk⟩ hkp => ⟨hI c pre A B (by omega) hi (hkp.mono fun g h => .inl h), (hkp.block _ (lt_of_block hl) (by omega)).trans hl, (hkp.block _ (lt_of_block hk) (by omega)).trans hk⟩)
      ?_).mono ?_
    · rintro c pre x W hc hclt ⟨hi, hl, hk⟩ ho hxc hxg hlen
      have hy := run_yield (P := Tryz.prog) (args := #[.agg #[.int .u32 (x.s : Int), .slice (some ⟨x.g, 0, none⟩) x.d.length x.c, .int .i64 (x.e : Int)]]) hl (by rw [hrec]; rfl)
      rw [hrec] at hy
      have hxl := (NV.own_block ho).choose_spec.2
      have hbA := below_alloc (Below.refl _ W) (.cells #[.int .u32 (x.s : Int), .slice (some ⟨x.g, 0, none⟩) x.d.length x.c, .int .i64 (x.e : Int)] 47)
      have hkA := blk_new W #[.int .u32 (x.s : Int), .slice (some ⟨x.g, 0, none⟩) x.d.length x.c, .int .i64 (x.e : Int)] 47
      have hnb := lt_of_block hl
      refine ⟨fn, _, assign, body, hy, roundIn_of_wpIn hfn (hassign _ x W _ ?_)⟩
      clear hy
      generalize W.alloc (.cells #[.int .u32 (x.s : Int), .slice (some ⟨x.g, 0, none⟩) x.d.length x.c, .int .i64 (x.e : Int)] 47) = WA at *
      have hlA := (hbA.block _ hnb).trans hl
      have hkD := (hbA.block _ (lt_of_block hk)).trans hk
      refine ⟨_, run_beginRound hlA (by rw [hrec]), ?_⟩
      have hP := keep_putObj WA (w.heap.size + 1) (.loop { rec .ready none with state := .busy })
      have hl2 : (WA.putObj (w.heap.size + 1) (.loop { rec .ready none with state := .busy })).heap[w.heap.size + 1]? = some (.loop { rec .ready none with state := .busy }) := World.putObj_heap_same (lt_of_block hlA)
      generalize WA.putObj (w.heap.size + 1) (.loop { rec .ready none with state := .busy }) = WB at *
      have hkB := (hP.block _ (lt_of_block hkD) (by omega)).trans hkD
      have hAB : Keep (fun k => k = w.heap.size + 1) W WB := (Keep.of_below (F := fun k => k = w.heap.size + 1) hbA).trans hP fun g h => .inl h
      refine wpIn_mono (hbody _ c pre x W.heap.size WB (by omega) (Nat.lt_of_lt_of_le hclt hAB.size) (hI c pre W WB (by omega) hi (hAB.mono fun g h => .inr (.inr h)))
        ((ho.keepB hAB fun g h h2 => by simp only [NV.v, Value.ownBlock, Option.some.injEq] at h; omega).mono (by omega)) hxc (by omega) (by omega) hxg hlen (hkA.keep hP (by omega))) ?_
      rintro e a3 W3 ⟨rfl, hkp, hi3⟩
      have hl3 := (hkp.block _ (lt_of_block hl2) (fun h => h.2.2 rfl)).trans hl2
      have hk3 := (hkp.block _ (lt_of_block hkB) (fun h => h.2.1 rfl)).trans hkB
      have hE := run_endRound (P := Tryz.prog) none hl3
      rw [hrec] at hE
      have hP3 := keep_putObj W3 (w.heap.size + 1) (.loop { state := if (none : Option Code).isNone then .ready else .done, pending := none, fn, tmps := a.tmps, params := #[p], assign, body, defers := w.heap.size })
      refine ⟨_, _, hE, rfl, ⟨hI c _ W3 _ (by omega) hi3 (hP3.mono fun g h => .inr (.inr h)), ?_, (hP3.block _ (lt_of_block hk3) (by omega)).trans hk3⟩, ?_⟩
      · rw [hrec]; exact World.putObj_heap_same (lt_of_block hl3)
      · have hM : Mayn lo bb c (w.heap.size + 1) := fun h => by omega
        exact ((hAB.mono (G := Mayn lo bb c) fun g h => by rw [h]; exact hM).trans hkp fun g h => .inl h.1).trans hP3 fun g h => .inl (by have h : g = w.heap.size + 1 := h; rw [h]; exact hM)
    · rintro e W2 ⟨⟨u, rfl⟩, c, ys, hc, hys, hi, hl, hk⟩
      have hE := run_endLoop (P := Tryz.prog) hl (by rw [hrec]; simp)
      rw [hrec] at hE
      have hP := keep_putObj W2 (w.heap.size + 1) (.loop { state := .exhausted, pending := none, fn, tmps := a.tmps, params := #[p], assign, body, defers := w.heap.size })
      exact ⟨none, _, hE, hdone c ys _ (by omega) hys (hI c ys W2 _ (by omega) hi (hP.mono fun g h => .inr (.inr h))) ((hP.block _ (lt_of_block hk) (by omega)).trans hk)⟩
end Go.Proofs.YtekackglcapppaaGreatDoor
/-
  Where handed-over bytes lie; two new boxes.
-/
namespace Go.Proofs.YtekackglcapppaaGreatDoor
open Go.RowKit

theorem far_of {w : World} {v : Value} {xs : List (BitVec 8)} (h : Byts w v xs) : ∀ a k c, v = .slice (some a) k c → k = 0 ∨ a.block < w.heap.size := by
  intro a k c hv
  rcases h with ⟨h2, h | ⟨a', c', h⟩⟩ | ⟨g, o, cap, hv', hc, h⟩
  · rw [h] at hv; cases hv
  · rw [h] at hv; cases hv; exact .inl rfl
  · rw [hv'] at hv
    cases hv
    by_cases h0 : xs.length = 0
    · exact .inl h0
    · exact .inr (lt_of_cell (h 0 _ (List.getElem?_eq_getElem (by omega))))

theorem two_new_ (w : World) (c d : Value) (T U : TypeId) : Blk ((w.alloc (.cells #[c] T)).alloc (.cells #[d] U)) w.heap.size #[c] T ∧ Blk ((w.alloc (.cells #[c] T)).alloc (.cells #[d] U)) (w.heap.size + 1) #[d] U := by
  refine ⟨(blk_new w _ T).below (below_alloc (Below.refl _ _) _), ?_⟩
  have := blk_new (w.alloc (.cells #[c] T)) #[d] U
  simpa using this
end Go.Proofs.YtekackglcapppaaGreatDoor
/-
  bank.Last, by contract.
-/
namespace Go.Proofs.YtekackglcapppaaGreatDoor
open Go.RowKit

attribute [local go_sem] Oper.semAt_some

/-- Between two rounds of Last: the last note so far and whether there is one, in boxes; the answer's block. -/
def LastI (w : World) (D c : Nat) (pre : List NV) (W : World) : Prop :=
  ∃ s a k cc e ok, Blk W (w.heap.size + 1) #[.int .u32 s, .slice a k cc, .int .i64 e] 47 ∧ Blk W (w.heap.size + 1 + 1) #[.bool ok] 4 ∧ LastT ((pre.map NV.nt).getLast?) D W s a k cc e ok ∧ (∀ y : NV, .slice a k cc = y.v → ok = true → y.g ≠ c ∧ y.g ≠ D ∧ y.g ≠ D + 1 ∧ D ≤ y.g) ∧
    Blk W w.heap.size #[.int .u32 0, .slice none 0 0, .int .i64 0] 47 ∧ Below w.heap.size w W
theorem LastI.keep {w W1 W2 : World} {D c : Nat} {pre : List NV} (h : LastI w D c pre W1) (hw : w.heap.size + 4 ≤ D) (hc : D + 2 ≤ c) (hk : Keep (fun k => k = c ∨ k = D ∨ k = D + 1) W1 W2) : LastI w D c pre W2 := by
  obtain ⟨s, a, k, cc, e, ok, h1, h2, h3, h4, h5, h6⟩ := h
  exact ⟨s, a, k, cc, e, ok, h1.keep hk (by omega), h2.keep hk (by omega), h3.keep hk fun y hy ho hF => by have := h4 y hy ho; omega, h4, h5.keep hk (by omega), below_keep h6 hk fun g hg => by omega⟩
/-- One round: the note and 'there is one' are stored. -/
theorem LastI.round {w W : World} {D c : Nat} {pre : List NV} {x : NV} (h : LastI w D c pre W) (hw : w.heap.size + 4 ≤ D) (hc : D + 2 ≤ c) (hx : Own W D x.v x.d) (hxc : x.g ≠ c) (hx0 : x.g ≠ D) (hx1 : x.g ≠ D + 1) (bb : Nat) (hbb : bb = w.heap.size + 3) :
    Keep (fun k => Mayn w.heap.size bb c k ∧ k ≠ D ∧ k ≠ D + 1) W ((((W.setCell ⟨w.heap.size + 1, 0, none⟩ (.int .u32 (x.s : Int))).setCell ⟨w.heap.size + 1, 1, none⟩ x.v).setCell ⟨w.heap.size + 1, 2, none⟩ (.int .i64 (x.e : Int))).setCell ⟨w.heap.size + 1 + 1, 0, none⟩ (.bool true)) ∧
      LastI w D c (pre ++ [x]) ((((W.setCell ⟨w.heap.size + 1, 0, none⟩ (.int .u32 (x.s : Int))).setCell ⟨w.heap.size + 1, 1, none⟩ x.v).setCell ⟨w.heap.size + 1, 2, none⟩ (.int .i64 (x.e : Int))).setCell ⟨w.heap.size + 1 + 1, 0, none⟩ (.bool true)) := by
  obtain ⟨s, a, k, cc, e, ok, h1, h2, h3, h4, h5, h6⟩ := h
  have hk : Keep (fun k => k = w.heap.size + 1 ∨ k = w.heap.size + 1 + 1) W ((((W.setCell ⟨w.heap.size + 1, 0, none⟩ (.int .u32 (x.s : Int))).setCell ⟨w.heap.size + 1, 1, none⟩ x.v).setCell ⟨w.heap.size + 1, 2, none⟩ (.int .i64 (x.e : Int))).setCell ⟨w.heap.size + 1 + 1, 0, none⟩ (.bool true)) :=
    ((((Keep.refl (fun k => k = w.heap.size + 1 ∨ k = w.heap.size + 1 + 1) W).store _ 0 _ (.inl rfl)).store _ 1 _ (.inl rfl)).store _ 2 _ (.inl rfl)).store _ 0 _ (.inr rfl)
  have hn := (((h1.set_ 0 (.int .u32 (x.s : Int))).set_ 1 x.v).set_ 2 (.int .i64 (x.e : Int))).far (w.heap.size + 1 + 1) 0 (.bool true) (by omega)
  have hxl := (NV.own_block hx).choose_spec.2
  refine ⟨hk.mono fun g hg => ⟨fun h => by omega, by omega, by omega⟩, _, some ⟨x.g, 0, none⟩, x.d.length, x.c, _, true, hn, ?_, .inr ⟨rfl, x, ?_, rfl, rfl, rfl, hx.keepB hk fun g hg hF => ?_⟩, ?_, h5.keep hk (by omega), below_keep h6 hk fun g hg => by omega⟩
  · exact (((h2.far _ _ _ (by omega)).far _ _ _ (by omega)).far _ _ _ (by omega)).set_ 0 _
  · rw [List.map_append, List.map_cons, List.map_nil, List.getLast?_concat]
  · simp only [NV.v, Value.ownBlock, Option.some.injEq] at hg
    omega
  · intro y hy _
    simp only [NV.v, Value.slice.injEq, Option.some.injEq, Addr.mk.injEq] at hy
    obtain ⟨⟨hg, _⟩, _⟩ := hy
    exact ⟨by omega, by omega, by omega, by omega⟩
theorem four_new (w : World) (A B C E : Array Value) (T U X Y : TypeId) :
    Blk ((((w.alloc (.cells A T)).alloc (.cells B U)).alloc (.cells C X)).alloc (.cells E Y)) w.heap.size A T ∧ Blk ((((w.alloc (.cells A T)).alloc (.cells B U)).alloc (.cells C X)).alloc (.cells E Y)) (w.heap.size + 1) B U ∧
      Blk ((((w.alloc (.cells A T)).alloc (.cells B U)).alloc (.cells C X)).alloc (.cells E Y)) (w.heap.size + 1 + 1) C X ∧ Blk ((((w.alloc (.cells A T)).alloc (.cells B U)).alloc (.cells C X)).alloc (.cells E Y)) (w.heap.size + 1 + 1 + 1) E Y := by
  have h1 := ((blk_new w A T).below (below_alloc (Below.refl _ _) (.cells B U))).below (bel_two _ (.cells C X) (.cells E Y))
  have h2 := (blk_new (w.alloc (.cells A T)) B U).below (bel_two _ (.cells C X) (.cells E Y))
  have h3 := (blk_new ((w.alloc (.cells A T)).alloc (.cells B U)) C X).below (below_alloc (Below.refl _ _) (.cells E Y))
  have h4 := blk_new (((w.alloc (.cells A T)).alloc (.cells B U)).alloc (.cells C X)) E Y
  simp only [World.size_alloc] at h2 h3 h4
  exact ⟨h1, h2, h3, h4⟩

set_option maxRecDepth 100000 in
set_option maxHeartbeats 4000000 in
theorem last_in (F : Fence) (n : Nat) (hF : ∀ k, F.fn k) (hro : F.round = none) (hn : 3 ≤ n) (hC : ∀ (m f : Nat) (args : Array Value) (w : World) (R : Ending → World → Prop), Calls Tryz.prog f args w R → CallsIn F m Tryz.prog f args w R)
    (v : Value) (xs : List (BitVec 8)) (w : World) (hv : Byts w v xs) (hl : xs.length ≤ 100000) :
    CallsIn F n Tryz.prog 40 #[v] w fun e w' => ∃ s a k c p ok, e = .returned (.tuple #[.agg #[.int .u32 s, .slice a k c, .int .i64 p], .bool ok]) ∧ LastT (bnotes xs).getLast? w.heap.size w' s a k c p ok ∧ Below w.heap.size w w' := by
  have h1 : 1 ≤ n := by omega
  have hfar := far_of hv
  obtain ⟨av, cv, ev⟩ := hv.len
  subst ev
  refine callsIn_of_wp_marks Tryz.func40 rfl (hF _) ?_ hro
  simp only [Tryz.ntmps40, List.size_toArray, List.length_cons, List.length_nil, Nat.reduceAdd, Nat.reduceSub, Array.replicate_succ, Array.replicate_zero, List.push_toArray, List.append_toArray, List.nil_append, List.cons_append]
  gi_wp2_with (gi_at_call 53; (with_reducible refine (hC _ _ _ _ _ (row_any _ _ _ _)).mono ?_); rintro e w1 ⟨rfl, rfl⟩)
  have hW := four_new w #[.int .u32 0, .slice none 0 0, .int .i64 0] #[.int .u32 0, .slice none 0 0, .int .i64 0] #[.bool false] #[.slice av xs.length cv] 47 47 4 22
  have hB := below_alloc (below_alloc (bel_two w (.cells #[.int .u32 0, .slice none 0 0, .int .i64 0] 47) (.cells #[.int .u32 0, .slice none 0 0, .int .i64 0] 47)) (.cells #[.bool false] 4)) (.cells #[.slice av xs.length cv] 22)
  have hsz : ((((w.alloc (.cells #[.int .u32 0, .slice none 0 0, .int .i64 0] 47)).alloc (.cells #[.int .u32 0, .slice none 0 0, .int .i64 0] 47)).alloc (.cells #[.bool false] 4)).alloc (.cells #[.slice av xs.length cv] 22)).heap.size = w.heap.size + 4 := by simp
  generalize (((w.alloc (.cells #[.int .u32 0, .slice none 0 0, .int .i64 0] 47)).alloc (.cells #[.int .u32 0, .slice none 0 0, .int .i64 0] 47)).alloc (.cells #[.bool false] 4)).alloc (.cells #[.slice av xs.length cv] 22) = W0 at *
  have HSZ := Lib.hid hsz
  clear hsz
  refine range_row F n hF hro (by omega) hC (w.heap.size + 1 + 1 + 1) w.heap.size (.slice av xs.length cv) xs hl hfar (hv.below hB) (hW.2.2.2.cell 0 rfl) (by have := HSZ.out; omega) rfl
    (fun c pre W => LastI w W0.heap.size c pre W) ?start ?keep
    (fun x nb => { tmps := #[.slice av xs.length cv, undef, .pointer (some ⟨w.heap.size, 0, none⟩), .bool false, .pointer (some ⟨w.heap.size + 1, 0, none⟩), .pointer (some ⟨w.heap.size + 1 + 1, 0, none⟩), .pointer (some ⟨nb, 0, none⟩), .agg #[.int .u32 0, .slice none 0 0, .int .i64 0], .slice av xs.length cv, .func (.func 66) #[] #[.pointer (some ⟨w.heap.size + 1 + 1 + 1, 0, none⟩)], .agg #[.int .u32 (x.s : Int), .slice (some ⟨x.g, 0, none⟩) x.d.length x.c, .int .i64 (x.e : Int)], undef, undef, undef], defers := [] })
    ?assign ?body ?done
  case start =>
    intro c W hb hc
    refine ⟨_, _, _, _, _, _, hW.2.1.below hb, hW.2.2.1.below hb, .inl ⟨rfl, rfl, rfl, rfl, rfl, rfl, rfl⟩, ?_, hW.1.below hb, hB.trans (hb.mono (by have := HSZ.out; omega))⟩
    intro y hy h
    cases h
  case keep =>
    intro c pre W1 W2 hc hi hk
    exact hi.keep (by have := HSZ.out; omega) hc hk
  case assign =>
    intro l x W K hK
    gi_wp2
    exact hK
  case body =>
    rintro l c pre x nb W hc hcW hi ho hxc hx0 hx1 hxg hlen hnb
    have HZ := Lib.hid (hi.round (by have := HSZ.out; omega) hc ho hxc hx0 hx1 (w.heap.size + 1 + 1 + 1) rfl)
    obtain ⟨s, a, k, cc, e, ok, g1, g2, _, _, _, _⟩ := hi
    obtain ⟨d0, d1, d2⟩ := hnb.three
    obtain ⟨c0, c1, c2⟩ := g1.three
    have c3 := g2.cell 0 rfl
    have f0 := g1.frz 0
    have f1 := g1.frz 1
    have f2 := g1.frz 2
    have f3 := g2.frz 0
    clear ho hxg hlen hnb g1 g2
    gi_wp2
    exact HZ.out
  case done =>
    rintro c ys W hc hys ⟨s, a, k, cc, e, ok, g1, g2, g3, g4, g5, g6⟩ hD
    rw [hys] at g3
    obtain ⟨d0, d1, d2⟩ := g1.three
    obtain ⟨c0, c1, c2⟩ := g5.three
    have d3 : W.cell? ⟨w.heap.size + 1 + 1, 0, none⟩ = some (.bool ok) := g2.cell 0 rfl
    have f0 := g5.frz 0
    have f1 := g5.frz 1
    have f2 := g5.frz 2
    have HG := Lib.hid (And.intro hD (And.intro g3 (And.intro g4 (And.intro g5 g6))))
    clear g1 g2 g3 g4 g5 g6 hys hD
    obtain ⟨ff, fd, fa, fr⟩ := F
    obtain rfl : fr = none := hro
    gi_wp2
    have d0' : W.drew.cell? ⟨w.heap.size + 1, 0, none⟩ = some (.int .u32 s) := d0
    have d1' : W.drew.cell? ⟨w.heap.size + 1, 1, none⟩ = some (.slice a k cc) := d1
    have d2' : W.drew.cell? ⟨w.heap.size + 1, 2, none⟩ = some (.int .i64 e) := d2
    have d3' : W.drew.cell? ⟨w.heap.size + 1 + 1, 0, none⟩ = some (.bool ok) := d3
    have c0' : W.drew.cell? ⟨w.heap.size, 0, none⟩ = some (.int .u32 0) := c0
    have c1' : W.drew.cell? ⟨w.heap.size, 1, none⟩ = some (.slice none 0 0) := c1
    have c2' : W.drew.cell? ⟨w.heap.size, 2, none⟩ = some (.int .i64 0) := c2
    have f0' : W.drew.frozen? ⟨w.heap.size, 0, none⟩ = false := f0
    have f1' : W.drew.frozen? ⟨w.heap.size, 1, none⟩ = false := f1
    have f2' : W.drew.frozen? ⟨w.heap.size, 2, none⟩ = false := f2
    gi_region
    have hk : Keep (fun g => g = w.heap.size) W (((W.setCell ⟨w.heap.size, 0, none⟩ (.int .u32 s)).setCell ⟨w.heap.size, 1, none⟩ (.slice a k cc)).setCell ⟨w.heap.size, 2, none⟩ (.int .i64 e)).drew :=
      ((((Keep.refl (fun g => g = w.heap.size) W).store _ 0 _ rfl).store _ 1 _ rfl).store _ 2 _ rfl).more 1
    have hb : Blk (((W.setCell ⟨w.heap.size, 0, none⟩ (.int .u32 s)).setCell ⟨w.heap.size, 1, none⟩ (.slice a k cc)).setCell ⟨w.heap.size, 2, none⟩ (.int .i64 e)).drew w.heap.size #[.int .u32 s, .slice a k cc, .int .i64 e] 47 :=
      ((HG.out.2.2.2.1.set_ 0 _).set_ 1 _).set_ 2 _
    generalize (((W.setCell ⟨w.heap.size, 0, none⟩ (.int .u32 s)).setCell ⟨w.heap.size, 1, none⟩ (.slice a k cc)).setCell ⟨w.heap.size, 2, none⟩ (.int .i64 e)).drew = Wz at *
    have hD := (hk.block _ (lt_of_block HG.out.1) (by have := HSZ.out; omega)).trans HG.out.1
    have hp := keep_putObj Wz W0.heap.size (.deferred none)
    have HLT := Lib.hid ((HG.out.2.1.keep hk fun y hy ho hF => by have := (HG.out.2.2.1 y hy ho).2.2.2; have := HSZ.out; omega).keep hp fun y hy ho hF => (HG.out.2.2.1 y hy ho).2.1 hF)
    have HBL := Lib.hid (below_keep (below_keep HG.out.2.2.2.2 hk fun g hg => by omega) hp fun g hg => by have := HSZ.out; omega)
    obtain ⟨q0, q1, q2⟩ := (hb.keep hp (by have := HSZ.out; omega)).three
    clear d0 d1 d2 d3 c0 c1 c2 f0 f1 f2 d0' d1' d2' d3' c0' c1' c2' f0' f1' f2' hk hb
    gi_wp2
    refine ⟨by simp, .inl ⟨_, _, rfl, run_takeDeferred hD, ⟨.tuple #[.agg #[.int .u32 s, .slice a k cc, .int .i64 e], .bool ok], ?_, ⟨_, _, _, _, _, _, rfl, HLT.out.mono (by have := HSZ.out; omega), HBL.out⟩⟩⟩⟩
    rw [results_cell_tmp rfl]
    go_simp

theorem last_any (v : Value) (xs : List (BitVec 8)) (w : World) (hv : Byts w v xs) (hl : xs.length ≤ 100000) :
    Calls Tryz.prog 40 #[v] w fun e w' => ∃ s a k c p ok, e = .returned (.tuple #[.agg #[.int .u32 s, .slice a k c, .int .i64 p], .bool ok]) ∧ LastT (bnotes xs).getLast? w.heap.size w' s a k c p ok ∧ Below w.heap.size w w' :=
  (callsIn_wide (n := 3)).1 (last_in Fence.wide 3 (fun _ => trivial) rfl (Nat.le_refl _) (fun _ _ _ _ _ h => callsIn_wide.2 h) v xs w hv hl)
end Go.Proofs.YtekackglcapppaaGreatDoor
/-
  bank.Blank, by contract.
-/
namespace Go.Proofs.YtekackglcapppaaGreatDoor
open Go.RowKit

theorem bblank_yes {xs : List (BitVec 8)} {o : Nat} (h : ∀ (j : Nat) (y : BitVec 8), (xs.drop o)[j]? = some y → y = 255#8) : bblank xs o = true := by
  unfold bblank
  rw [List.all_eq_true]
  intro y hy
  obtain ⟨j, hj⟩ := List.getElem?_of_mem hy
  simp [h j y hj]
theorem bblank_no {xs : List (BitVec 8)} {o j : Nat} {y : BitVec 8} (h : (xs.drop o)[j]? = some y) (hy : y ≠ 255#8) : bblank xs o = false := by
  unfold bblank
  rw [List.all_eq_false]
  exact ⟨y, List.mem_of_getElem? h, by simpa using hy⟩
theorem ff_yes : (((255#8 : BitVec 8).toNat : Int) != 255) = false := by decide
theorem ff_no {y : BitVec 8} (h : y ≠ 255#8) : ((y.toNat : Int) != 255) = true := by
  simp
  intro h'
  exact h (BitVec.eq_of_toNat_eq (by simp; omega))
theorem drop_min (xs : List (BitVec 8)) (m : Nat) : xs.drop (min m xs.length) = xs.drop m := by
  rcases Nat.le_total m xs.length with h | h
  · rw [Nat.min_eq_left h]
  · rw [Nat.min_eq_right h, List.drop_eq_nil_of_le (Nat.le_refl _), List.drop_eq_nil_of_le h]

set_option maxHeartbeats 1000000 in
theorem blank_any (v : Value) (xs : List (BitVec 8)) (w : World) (hv : Byts w v xs) (hl : xs.length ≤ 140737488355328) (o : Int) (ho : -9223372036854775808 ≤ o ∧ o ≤ 9223372036854775807) :
    Calls Tryz.prog 62 #[v, .int .i64 o] w fun e w' => e = .returned (.bool (bblank xs o.toNat)) ∧ w = w' := by
  obtain ⟨av, cv, ev⟩ := hv.len
  obtain ⟨m, hm⟩ : ∃ m : Nat, m = min o.toNat xs.length := ⟨_, rfl⟩
  have hval : (if (xs.length : Int) < if o < 0 then 0 else o then (xs.length : Int) else if o < 0 then 0 else o) = (m : Int) := by
    split <;> split at * <;> omega
  obtain ⟨v2, hrun, hv2, _⟩ := cutR hv m (by omega)
  obtain ⟨a2, c2, e2⟩ := hv2.len
  have HV := Lib.hid hv2
  have hd : xs.drop o.toNat = xs.drop m := by rw [hm, drop_min]
  have HE : Hid (bblank xs o.toNat = bblank xs m) := Lib.hid (by unfold bblank; rw [hd])
  obtain ⟨n, hn⟩ : ∃ n, n = (xs.drop m).length := ⟨_, rfl⟩
  rw [← hn] at e2
  have HN := Lib.hid hn
  have hnl : n ≤ 140737488355328 := by rw [hn, List.length_drop]; omega
  clear hv hv2 hm hd hn ho
  subst ev e2
  go_enter Tryz.func62, Tryz.ntmps62
  go_upto_region 2 with fail
  clear hval
  generalize (if o < 0 then 0 else o) = oo at *
  go_wp2_with fail
  clear hrun
  go_loop [16] (fun i => ∃ k : Nat, k ≤ n ∧ i = .int .i64 k ∧ ∀ (j : Nat) (y : BitVec 8), j < k → (xs.drop m)[j]? = some y → y = 255#8) (fun i => n - (intOf i).toNat)
  case atStart => exact ⟨0, by omega, rfl, fun j y h => by omega⟩
  case round =>
    obtain ⟨k, hk, rfl, hall⟩ := hrel
    by_cases hlt : k < n
    · obtain ⟨g, p, c, x, e1, hc1, hg1, hx, h1⟩ := HV.out.at_ k (by rw [← HN.out]; exact hlt)
      rw [← HN.out] at e1
      simp only [Value.slice.injEq] at e1
      obtain ⟨rfl, _, rfl⟩ := e1
      by_cases hff : x = 255#8
      · subst hff
        have HA : Hid (∀ (j : Nat) (y : BitVec 8), j < k + 1 → (xs.drop m)[j]? = some y → y = 255#8) := Lib.hid (fun j y hj hy => by
          by_cases hjk : j = k
          · subst hjk
            rw [hx] at hy
            cases hy
            rfl
          · exact hall j y (by omega) hy)
        have h1' : w.cell? ⟨g, p + k, none⟩ = some (.int .u8 255) := h1
        clear hx hall h1
        go_wp2
        go_round
        case rel => exact ⟨k + 1, by omega, by go_num, HA.out⟩
        case measure => simp [intOf]; omega
      · have hne := ff_no hff
        have HB := Lib.hid (bblank_no hx hff)
        clear hx hall hff
        go_wp2
        go_ret
        exact ⟨by rw [HE.out, HB.out]; rfl, rfl⟩
    · have HB := Lib.hid (bblank_yes fun j y hy => hall j y (by have := (List.getElem?_eq_some_iff.1 hy).1; rw [← HN.out] at this; omega) hy)
      clear hall
      go_wp2
      go_ret
      exact ⟨by rw [HE.out, HB.out]; rfl, rfl⟩
end Go.Proofs.YtekackglcapppaaGreatDoor

/-
  Records one behind the other: what was printed is found; what is found is as it was printed.
-/
import Derived.Test.YtecfobmmbdmdgaaBkMath
namespace Go.Proofs.Ytecfobmmbdmdgaa

/-- Records of these rows, numbered from s on; what is told of them. -/
def flat (s : Nat) : List (List (BitVec 8)) → List (BitVec 8)
  | [] => []
  | d :: t => pr s d ++ flat (s + 1) t
def nts (s o : Nat) : List (List (BitVec 8)) → List Nt
  | [] => []
  | d :: t => ⟨s, d, o + (d.length + 8)⟩ :: nts (s + 1) (o + (d.length + 8)) t
theorem flat_snoc : ∀ (s : Nat) (l : List (List (BitVec 8))) (d : List (BitVec 8)), flat s (l ++ [d]) = flat s l ++ pr (s + l.length) d
  | s, [], d => by simp [flat]
  | s, c :: t, d => by
    simp only [List.cons_append, flat, flat_snoc (s + 1) t d, List.append_assoc, List.length_cons]
    rw [show s + 1 + t.length = s + (t.length + 1) by omega]
theorem nts_snoc : ∀ (s o : Nat) (l : List (List (BitVec 8))) (d : List (BitVec 8)), nts s o (l ++ [d]) = nts s o l ++ [⟨s + l.length, d, o + (flat s l).length + (d.length + 8)⟩]
  | s, o, [], d => by simp [nts, flat]
  | s, o, c :: t, d => by
    simp only [List.cons_append, nts, nts_snoc (s + 1) _ t d, flat, List.length_append, List.length_cons, len_pr]
    rw [show s + 1 + t.length = s + (t.length + 1) by omega, show o + (c.length + 8) + (flat (s + 1) t).length + (d.length + 8) = o + (c.length + 8 + (flat (s + 1) t).length) + (d.length + 8) by omega]
theorem nts_len (s o : Nat) (l : List (List (BitVec 8))) : (nts s o l).length = l.length := by
  induction l generalizing s o with
  | nil => rfl
  | cons d t ih => simp [nts, ih]
theorem nts_at : ∀ (l : List (List (BitVec 8))) (s o i : Nat) (d : List (BitVec 8)), l[i]? = some d → (nts s o l)[i]? = some ⟨s + i, d, o + (flat s (l.take (i + 1))).length⟩
  | [], s, o, i, d, h => by simp at h
  | c :: t, s, o, 0, d, h => by
    simp at h
    subst h
    simp [nts, flat, len_pr]
  | c :: t, s, o, i + 1, d, h => by
    have ih := nts_at t (s + 1) (o + (c.length + 8)) i d (by simpa using h)
    simp only [nts, List.getElem?_cons_succ, ih, List.take_succ_cons, flat, List.length_append, len_pr]
    rw [show s + 1 + i = s + (i + 1) by omega, show o + (c.length + 8) + (flat (s + 1) (t.take (i + 1))).length = o + (c.length + 8 + (flat (s + 1) (t.take (i + 1))).length) by omega]
theorem flat_len_le (s : Nat) (l : List (List (BitVec 8))) (h : ∀ d ∈ l, d.length ≤ 40) : (flat s l).length ≤ 48 * l.length := by
  induction l generalizing s with
  | nil => simp [flat]
  | cons d t ih =>
    have h1 := h d (by simp)
    have h2 := ih (s + 1) fun d hd => h d (by simp [hd])
    simp [flat, len_pr]
    omega

theorem brec_at {P t : List (BitVec 8)} : brec (P ++ t) P.length = match bone t with
    | none => none
    | some (s, d, n) => some ⟨s, d, P.length + n⟩ := by
  unfold brec
  rw [List.drop_left]
  cases bone t <;> rfl
/-- What was printed, one behind the other, is found as it was, if behind it there is no record. -/
theorem brest_flat : ∀ (l : List (List (BitVec 8))) (s : Nat) (P tail : List (BitVec 8)), (∀ d ∈ l, 1 ≤ d.length ∧ d.length ≤ 40) → s + l.length ≤ 4294967295 → bone tail = none →
    brest (P ++ (flat s l ++ tail)) (brec (P ++ (flat s l ++ tail)) P.length) = nts s P.length l
  | [], s, P, tail, _, _, ht => by
    simp only [flat, List.nil_append]
    rw [brec_at, ht]
    rfl
  | d :: t, s, P, tail, hl, hs, ht => by
    have hd := hl d (by simp)
    have hs' : s + 1 + t.length ≤ 4294967295 := by simp at hs; omega
    have ih := brest_flat t (s + 1) (P ++ pr s d) tail (fun x hx => hl x (by simp [hx])) hs' ht
    have e0 : P ++ (flat s (d :: t) ++ tail) = (P ++ pr s d) ++ (flat (s + 1) t ++ tail) := by simp [flat]
    have hb : brec (P ++ (flat s (d :: t) ++ tail)) P.length = some ⟨s, d, P.length + (d.length + 8)⟩ := by
      rw [brec_at]
      simp only [flat, List.append_assoc]
      rw [bone_pr s d _ hd.1 hd.2 (by omega)]
    have hle : P.length + (d.length + 8) ≤ (P ++ (flat s (d :: t) ++ tail)).length := by simp [flat, len_pr]
    rw [hb, brest_some _ _ hle]
    simp only [nts]
    have hP : (P ++ pr s d).length = P.length + (d.length + 8) := by rw [List.length_append, len_pr]
    rw [← e0, hP] at ih
    have hn : bnxt (P ++ (flat s (d :: t) ++ tail)) ⟨s, d, P.length + (d.length + 8)⟩ = brec (P ++ (flat s (d :: t) ++ tail)) (P.length + (d.length + 8)) := by
      unfold bnxt
      rw [if_neg (by show s ≠ 4294967295; omega)]
      cases hr : brec (P ++ (flat s (d :: t) ++ tail)) (P.length + (d.length + 8)) with
      | none => rfl
      | some m =>
        have hm : m.s = s + 1 := by
          rw [e0, ← hP, brec_at] at hr
          cases t with
          | nil =>
            simp only [flat, List.nil_append, ht] at hr
            cases hr
          | cons d' t' =>
            have hd' := hl d' (by simp)
            simp only [flat, List.append_assoc] at hr
            rw [bone_pr (s + 1) d' _ hd'.1 hd'.2 (by omega)] at hr
            simp only [Option.some.injEq] at hr
            rw [← hr]
        simp [hm]
    rw [hn, ih]
theorem bnotes_flat (s : Nat) (l : List (List (BitVec 8))) (tail : List (BitVec 8)) (hl : ∀ d ∈ l, 1 ≤ d.length ∧ d.length ≤ 40) (hs : s + l.length ≤ 4294967295) (ht : bone tail = none) : bnotes (flat s l ++ tail) = nts s 0 l := by
  have := brest_flat l s [] tail hl hs ht
  simpa [bnotes] using this
theorem bone_ff (x : BitVec 8) (t : List (BitVec 8)) (h : x.toNat = 0 ∨ 40 < x.toNat) : bone (x :: t) = none := by
  have hz : bsz (x :: t) = none := by
    simp only [bsz]
    rw [if_neg (by omega)]
  unfold bone
  rw [hz]
theorem bone_blank (n : Nat) : bone (List.replicate n 255#8) = none := by
  cases n with
  | zero => rfl
  | succ n => exact bone_ff _ _ (.inr (by decide))
/-- Of a record of which only a part was written over blank bytes nothing is found. -/
theorem bone_torn (s cut k : Nat) (d : List (BitVec 8)) (h1 : 1 ≤ d.length) (h2 : d.length ≤ 40) (hc : cut < d.length + 8) (hk : d.length + 8 ≤ cut + k) : bone ((pr s d).take cut ++ List.replicate k 255#8) = none := by
  cases cut with
  | zero =>
    simp only [List.take_zero, List.nil_append]
    exact bone_blank k
  | succ c =>
    have hp : ∃ t, pr s d = BitVec.ofNat 8 d.length :: t := ⟨_, rfl⟩
    obtain ⟨t, ht⟩ := hp
    have hlt : (pr s d).length = d.length + 8 := len_pr s d
    have hb : (BitVec.ofNat 8 d.length).toNat = d.length := by rw [BitVec.toNat_ofNat]; omega
    have hg : ((pr s d).take (c + 1) ++ List.replicate k 255#8)[d.length + 7]? = some 255#8 := by
      rw [List.getElem?_append_right (by rw [List.length_take, hlt]; omega), List.length_take, hlt, List.getElem?_replicate, if_pos (by omega)]
    rw [ht] at hg ⊢
    rw [List.take_succ_cons, List.cons_append] at hg ⊢
    have hz : bsz (BitVec.ofNat 8 d.length :: (t.take c ++ List.replicate k 255#8)) = none := by
      simp only [bsz]
      rw [hb, if_neg]
      rintro ⟨_, _, _, h4⟩
      rw [h4] at hg
      cases hg
    unfold bone
    rw [hz]

/-- What is found: each note is that at the place behind the one ahead, numbered one more. -/
theorem btodo_first {xs : List (BitVec 8)} {f : Nat} {c : Option Nt} {n : Nt} (h : (btodo xs f c)[0]? = some n) : c = some n := by
  cases f with
  | zero => simp [btodo] at h
  | succ f =>
    cases c with
    | none => simp [btodo] at h
    | some m => simp [btodo] at h; rw [h]
theorem btodo_next {xs : List (BitVec 8)} : ∀ (f : Nat) (c : Option Nt) (i : Nat) (n : Nt), (btodo xs f c)[i + 1]? = some n → ∃ m, (btodo xs f c)[i]? = some m ∧ bnxt xs m = some n
  | 0, c, i, n, h => by simp [btodo] at h
  | f + 1, none, i, n, h => by simp [btodo] at h
  | f + 1, some m, i, n, h => by
    simp only [btodo, List.getElem?_cons_succ] at h
    cases i with
    | zero => exact ⟨m, by simp [btodo], btodo_first h⟩
    | succ i =>
      obtain ⟨q, hq, hn⟩ := btodo_next f (bnxt xs m) i n h
      exact ⟨q, by simpa [btodo] using hq, hn⟩
theorem bnotes_first {xs : List (BitVec 8)} {n : Nt} (h : (bnotes xs)[0]? = some n) : brec xs 0 = some n := btodo_first h
theorem bnotes_next {xs : List (BitVec 8)} {i : Nat} {n : Nt} (h : (bnotes xs)[i + 1]? = some n) : ∃ m, (bnotes xs)[i]? = some m ∧ bnxt xs m = some n := btodo_next _ _ _ _ h

/-- Each note that is found has data of 1 to 40 bytes, a number of 32 bits, a place within. -/
theorem bnotes_fit {xs : List (BitVec 8)} {i : Nat} {n : Nt} (h : (bnotes xs)[i]? = some n) : 1 ≤ n.d.length ∧ n.d.length ≤ 40 ∧ n.s < 4294967296 ∧ n.e ≤ xs.length := by
  have key : ∃ o, brec xs o = some n := by
    cases i with
    | zero => exact ⟨0, bnotes_first h⟩
    | succ i =>
      obtain ⟨m, _, hm⟩ := bnotes_next h
      exact ⟨_, (bnxt_some hm).2.1⟩
  obtain ⟨o, ho⟩ := key
  have hb := brec_some ho
  exact ⟨hb.1, hb.2.1, hb.2.2.1, hb.2.2.2.2.1⟩
theorem nv_fit {NV' : Type} {xs : List (BitVec 8)} {ys : List NV'} {f : NV' → Nt} (h : ys.map f = bnotes xs) {i : Nat} {y : NV'} (hy : ys[i]? = some y) : 1 ≤ (f y).d.length ∧ (f y).d.length ≤ 40 ∧ (f y).s < 4294967296 ∧ (f y).e ≤ xs.length :=
  bnotes_fit (i := i) (by rw [← h, List.getElem?_map, hy]; rfl)

/-- Unlike records have unlike bytes. -/
theorem pr_inj {p q : Nat} {a b : List (BitVec 8)} (ha : 1 ≤ a.length ∧ a.length ≤ 40) (hb : 1 ≤ b.length ∧ b.length ≤ 40) (hp : p < 4294967296) (hq : q < 4294967296) (h : pr p a = pr q b) : p = q ∧ a = b := by
  have h1 := bone_pr p a [] ha.1 ha.2 hp
  have h2 := bone_pr q b [] hb.1 hb.2 hq
  rw [h, h2] at h1
  simp only [Option.some.injEq, Prod.mk.injEq] at h1
  exact ⟨h1.1.symm, h1.2.1.symm⟩
theorem blank_end (xs : List (BitVec 8)) (n : Nat) : bblank (xs ++ List.replicate n 255#8) xs.length = true := by
  unfold bblank
  rw [List.drop_left]
  simp
end Go.Proofs.Ytecfobmmbdmdgaa

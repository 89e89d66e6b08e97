/-
  One log of a call's own; two of them, and one beside the document's.
-/
import Derived.Test.YtabhfbdfahidoaaEvAll
import Derived.Test.YtabhfbdfahidoaaEvRef
namespace Go.Proofs.Ytabhfbdfahidoaa
open Go.RowKit

variable {w0 w w' : World} {b c r q : Nat} {xs ys : List Ev}
theorem Added.bel {B : Nat} {v : Value} (h : Lg w B b r v xs) (hB : B ≤ w.heap.size) (ha : Added w w' B b r v ys) : Below B w w' := by
  obtain ⟨v', h1, h2, h3⟩ := ha
  exact h2.below (fun g hg => hg.elim (fun e => by rw [e]; exact h.lt.1) fun e => (h.own e).1) hB
theorem RAdded.bel {B : Nat} {v : Value} (h : RLg w B b r v xs) (hB : B ≤ w.heap.size) (ha : RAdded w w' B b r v ys) : Below B w w' := by
  obtain ⟨v', h1, h2, h3⟩ := ha
  exact h2.below (fun g hg => hg.elim (fun e => by rw [e]; exact h.lt.1) fun e => (h.own e).1) hB
theorem evlg_lost {B : Nat} {v : Value} (h : Lg w B b r v xs) : Calls Try.prog 15 #[.pointer (some ⟨b, 0, none⟩)] w fun e w' => e = .returned (.int .i64 ((xs.length - r : Nat) : Int)) ∧ w' = w := by
  obtain ⟨ev, k, hb, ho, hr, _⟩ := h
  have := evlost_to hb
  rw [hr.lost] at this
  exact this
/-- One log. -/
def Lg1 (w0 w : World) (b r : Nat) (xs : List Ev) : Prop := (∃ v, Lg w w0.heap.size b r v xs) ∧ Below w0.heap.size w0 w
theorem Lg1.keep (h : Lg1 w0 w b r xs) (hb : Below w.heap.size w w') : Lg1 w0 w' b r xs := by
  obtain ⟨⟨v, h1⟩, h2⟩ := h
  exact ⟨⟨v, h1.below hb⟩, below_call h2 hb⟩
theorem lg1_new (w : World) (r : Nat) (h1 : 1 ≤ r) (h2 : r ≤ 1024) (h : Below w0.heap.size w0 w) : Lg1 w0 (w.alloc (.cells #[.int .i64 (r : Int), .slice none 0 0, .int .i64 0] 39)) w.heap.size r [] :=
  ⟨⟨_, lg_new w _ r h.size h1 h2⟩, below_alloc h _⟩
theorem lg1_add (h : Lg1 w0 w b r xs) (hm : xs.length ≤ 1000000) (e : Ev) :
    Calls Try.prog 10 #[.pointer (some ⟨b, 0, none⟩), .agg #[.int .u64 e.t, .int .i64 e.c, .int .i64 e.a]] w fun x w' => x = .returned (.tuple #[]) ∧ Lg1 w0 w' b r (xs ++ [e]) := by
  obtain ⟨⟨v, h1⟩, h2⟩ := h
  refine (evadd_to h1 h2.size hm e).mono fun x w' ⟨hx, ha⟩ => ⟨hx, ?_⟩
  have hb := Added.bel h1 h2.size ha
  obtain ⟨v', h3, _⟩ := ha
  exact ⟨⟨v', h3⟩, h2.trans hb⟩
theorem lg1_all (h : Lg1 w0 w b r xs) (hm : xs.length ≤ 1000000) :
    Calls Try.prog 12 #[.pointer (some ⟨b, 0, none⟩)] w fun e w' => ∃ v', e = .returned v' ∧ OwnEv w' w.heap.size v' (xs.drop (xs.length - r)) ∧ Below w.heap.size w w' := by
  obtain ⟨⟨v, h1⟩, h2⟩ := h
  exact evall_to h1 hm
theorem lg1_lost (h : Lg1 w0 w b r xs) : Calls Try.prog 15 #[.pointer (some ⟨b, 0, none⟩)] w fun e w' => e = .returned (.int .i64 ((xs.length - r : Nat) : Int)) ∧ w' = w := by
  obtain ⟨⟨v, h1⟩, h2⟩ := h
  exact evlg_lost h1
/-- Two logs. -/
def Lg2 (w0 w : World) (b c r q : Nat) (xs ys : List Ev) : Prop :=
  (∃ v u, Lg w w0.heap.size b r v xs ∧ Lg w w0.heap.size c q u ys ∧ b ≠ c ∧ ∀ g, v.ownBlock = some g → u.ownBlock ≠ some g) ∧ Below w0.heap.size w0 w
theorem Lg2.fst (h : Lg2 w0 w b c r q xs ys) : Lg1 w0 w b r xs := by
  obtain ⟨⟨v, u, h1, h2, _⟩, h3⟩ := h
  exact ⟨⟨v, h1⟩, h3⟩
theorem Lg2.snd (h : Lg2 w0 w b c r q xs ys) : Lg1 w0 w c q ys := by
  obtain ⟨⟨v, u, h1, h2, _⟩, h3⟩ := h
  exact ⟨⟨u, h2⟩, h3⟩
theorem Lg2.flip (h : Lg2 w0 w b c r q xs ys) : Lg2 w0 w c b q r ys xs := by
  obtain ⟨⟨v, u, h1, h2, h3, h4⟩, h5⟩ := h
  exact ⟨⟨u, v, h2, h1, h3.symm, fun g hu hv => h4 g hv hu⟩, h5⟩
theorem Lg2.keep (h : Lg2 w0 w b c r q xs ys) (hb : Below w.heap.size w w') : Lg2 w0 w' b c r q xs ys := by
  obtain ⟨⟨v, u, h1, h2, h3⟩, h4⟩ := h
  exact ⟨⟨v, u, h1.below hb, h2.below hb, h3⟩, below_call h4 hb⟩
theorem lg2_new (h : Lg1 w0 w b r xs) (q : Nat) (h1 : 1 ≤ q) (h2 : q ≤ 1024) : Lg2 w0 (w.alloc (.cells #[.int .i64 (q : Int), .slice none 0 0, .int .i64 0] 39)) b w.heap.size r q xs [] := by
  obtain ⟨⟨v, h3⟩, h4⟩ := h
  exact ⟨⟨v, _, h3.below (below_alloc (Below.refl _ _) _), lg_new w _ q h4.size h1 h2, Nat.ne_of_lt h3.lt.2, fun g _ h => by cases h⟩, below_alloc h4 _⟩
theorem Lg.aside {B : Nat} {v u : Value} {zs : List Ev} (h : Lg w B b r v xs) (k : Lg w B c q u ys) (hne : b ≠ c) (hvu : ∀ g, v.ownBlock = some g → u.ownBlock ≠ some g) (ha : Added w w' B b r v zs) :
    ∃ v', Lg w' B b r v' zs ∧ Lg w' B c q u ys ∧ ∀ g, v'.ownBlock = some g → u.ownBlock ≠ some g := by
  obtain ⟨v', h1, h2, h3⟩ := ha
  refine ⟨v', h1, k.keep h2 (fun hc => hc.elim (fun e => hne e.symm) fun e => ?_) (fun g hg hF => hF.elim (fun e => ?_) fun e => hvu g e hg), fun g hg hu => ?_⟩
  · obtain ⟨ev, kk, hb, ho, _⟩ := h
    obtain ⟨ev2, kk2, hb2, _⟩ := k
    exact ho.ne hb2 evlog_ne e
  · obtain ⟨ev, kk, hb, _⟩ := h
    obtain ⟨ev2, kk2, _, ho2, _⟩ := k
    exact ho2.ne hb evlog_ne (by rw [hg, e])
  · rcases h3 with h3 | ⟨g', h3, h4⟩
    · exact hvu g (by rw [← h3]; exact hg) hu
    · rw [hg] at h3
      cases h3
      have := (k.own hu).2.1
      omega
theorem lg2_add (h : Lg2 w0 w b c r q xs ys) (hm : xs.length ≤ 1000000) (e : Ev) :
    Calls Try.prog 10 #[.pointer (some ⟨b, 0, none⟩), .agg #[.int .u64 e.t, .int .i64 e.c, .int .i64 e.a]] w fun x w' => x = .returned (.tuple #[]) ∧ Lg2 w0 w' b c r q (xs ++ [e]) ys := by
  obtain ⟨⟨v, u, h1, h2, h3, h4⟩, h5⟩ := h
  refine (evadd_to h1 h5.size hm e).mono fun x w' ⟨hx, ha⟩ => ⟨hx, ?_⟩
  have hb := Added.bel h1 h5.size ha
  obtain ⟨v', h6, h7, h8⟩ := Lg.aside h1 h2 h3 h4 ha
  exact ⟨⟨v', u, h6, h7, h3, h8⟩, h5.trans hb⟩
/-- A log beside the document's. -/
def LgR (w0 w : World) (b c r : Nat) (xs ys : List Ev) : Prop :=
  (∃ v u, Lg w w0.heap.size b r v xs ∧ RLg w w0.heap.size c r u ys ∧ b ≠ c ∧ ∀ g, v.ownBlock = some g → u.ownBlock ≠ some g) ∧ Below w0.heap.size w0 w
theorem LgR.fst (h : LgR w0 w b c r xs ys) : Lg1 w0 w b r xs := by
  obtain ⟨⟨v, u, h1, h2, _⟩, h3⟩ := h
  exact ⟨⟨v, h1⟩, h3⟩
theorem LgR.keep (h : LgR w0 w b c r xs ys) (hb : Below w.heap.size w w') : LgR w0 w' b c r xs ys := by
  obtain ⟨⟨v, u, h1, h2, h3⟩, h4⟩ := h
  exact ⟨⟨v, u, h1.below hb, h2.below hb, h3⟩, below_call h4 hb⟩
theorem lgr_new (h : Lg1 w0 w b r xs) : LgR w0 (w.alloc (.cells #[.int .i64 (r : Int), .slice none 0 0] 41)) b w.heap.size r xs [] := by
  obtain ⟨⟨v, h3⟩, h4⟩ := h
  exact ⟨⟨v, _, h3.below (below_alloc (Below.refl _ _) _), rlg_new w _ r h4.size h3.room.1 h3.room.2, Nat.ne_of_lt h3.lt.2, fun g _ h => by cases h⟩, below_alloc h4 _⟩
theorem lgr_add (h : LgR w0 w b c r xs ys) (hm : xs.length ≤ 1000000) (e : Ev) :
    Calls Try.prog 10 #[.pointer (some ⟨b, 0, none⟩), .agg #[.int .u64 e.t, .int .i64 e.c, .int .i64 e.a]] w fun x w' => x = .returned (.tuple #[]) ∧ LgR w0 w' b c r (xs ++ [e]) ys := by
  obtain ⟨⟨v, u, h1, h2, h3, h4⟩, h5⟩ := h
  refine (evadd_to h1 h5.size hm e).mono fun x w' ⟨hx, ha⟩ => ⟨hx, ?_⟩
  have hb := Added.bel h1 h5.size ha
  obtain ⟨v', h6, h7, h8⟩ := ha
  refine ⟨⟨v', u, h6, h2.keep h7 (fun hc => hc.elim (fun e => h3 e.symm) fun e => ?_) (fun g hg hF => hF.elim (fun e => ?_) fun e => h4 g e hg), h3, fun g hg hu => ?_⟩, h5.trans hb⟩
  · obtain ⟨ev, kk, hb, ho, _⟩ := h1
    exact ho.ne h2.1 evrlog_ne e
  · obtain ⟨ev, kk, hb, _⟩ := h1
    exact h2.2.1.ne hb evlog_ne (by rw [hg, e])
  · rcases h8 with h8 | ⟨g', h8, h9⟩
    · exact h4 g (by rw [← h8]; exact hg) hu
    · rw [hg] at h8
      cases h8
      have := (h2.own hu).2.1
      omega
theorem lgr_radd (h : LgR w0 w b c r xs ys) (hm : ys.length ≤ 900000) (e : Ev) :
    Calls Try.prog 11 #[.pointer (some ⟨c, 0, none⟩), .agg #[.int .u64 e.t, .int .i64 e.c, .int .i64 e.a]] w fun x w' => x = .returned (.tuple #[]) ∧ LgR w0 w' b c r xs (ys ++ [e]) := by
  obtain ⟨⟨v, u, h1, h2, h3, h4⟩, h5⟩ := h
  refine (evradd_to h2 h5.size hm e).mono fun x w' ⟨hx, ha⟩ => ⟨hx, ?_⟩
  have hb := RAdded.bel h2 h5.size ha
  obtain ⟨u', h6, h7, h8⟩ := ha
  refine ⟨⟨v, u', h1.keep h7 (fun hc => hc.elim (fun e => h3 e) fun e => ?_) (fun g hg hF => hF.elim (fun e => ?_) fun e => h4 g hg e), h6, h3, fun g hg hu => ?_⟩, h5.trans hb⟩
  · obtain ⟨ev, kk, hb, ho, _⟩ := h1
    exact h2.2.1.ne hb evlog_ne e
  · obtain ⟨ev, kk, hb, ho, _⟩ := h1
    exact ho.ne h2.1 evrlog_ne (by rw [hg, e])
  · rcases h8 with h8 | ⟨g', h8, h9⟩
    · exact h4 g hg (by rw [← h8]; exact hu)
    · rw [hu] at h8
      cases h8
      have := (h1.own hg).2.1
      omega
theorem lgr_rall (h : LgR w0 w b c r xs ys) (hm : ys.length ≤ 900000) :
    Calls Try.prog 14 #[.pointer (some ⟨c, 0, none⟩)] w fun e w' => ∃ v', e = .returned v' ∧ Els REv 3 w v' (ys.drop (ys.length - r)) ∧ Below w.heap.size w w' := by
  obtain ⟨⟨v, u, h1, h2, h3⟩, h5⟩ := h
  exact evrall_to h2 hm
theorem lgr_rlost (h : LgR w0 w b c r xs ys) (hm : ys.length ≤ 900000) :
    Calls Try.prog 16 #[.pointer (some ⟨c, 0, none⟩)] w fun e w' => e = .returned (.int .i64 ((ys.length - r : Nat) : Int)) ∧ Below w.heap.size w w' := by
  obtain ⟨⟨v, u, h1, h2, h3⟩, h5⟩ := h
  exact evrlost_to h2 hm
/-- The room that a size tells. -/
theorem room_of (n : Int) : ∃ r : Nat, ((n < 1 ∧ r = 1) ∨ (1 ≤ n ∧ n ≤ 1024 ∧ n = (r : Int)) ∨ (1024 < n ∧ r = 1024)) ∧ 1 ≤ r ∧ r ≤ 1024 := by
  rcases (show n < 1 ∨ (1 ≤ n ∧ n ≤ 1024) ∨ 1024 < n by omega) with h | h | h
  · exact ⟨1, by omega, by omega, by omega⟩
  · exact ⟨n.toNat, by omega, by omega, by omega⟩
  · exact ⟨1024, by omega, by omega, by omega⟩
end Go.Proofs.Ytabhfbdfahidoaa

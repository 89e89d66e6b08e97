/-
  The program's wheel and the document's, side by side.
-/
import Derived.Test.YtaonnkocopngaaaDoorRefX
import Derived.Test.YtaonnkocopngaaaDoorMine
namespace Go.Proofs.YtaonnkocopngaaaDoor
open Go.RowKit

/-- A timer, as the document counts it at the time now. -/
def rel (now : Nat) (a : Tm) : Tm := ⟨a.num, a.tag, a.due - now⟩
theorem rel_num (now : Nat) (A : List Tm) : (A.map (rel now)).map Tm.num = A.map Tm.num := by rw [List.map_map]; rfl
theorem rel_fire (now : Nat) (A : List Tm) : ((A.map (rel now)).filter fun a => a.due == 1).map Tm.tag = (A.filter fun a => a.due == now + 1).map Tm.tag := by
  rw [List.filter_map, List.map_map]
  rw [show (A.filter ((fun a : Tm => a.due == 1) ∘ rel now)) = A.filter fun a => a.due == now + 1 from ?_]
  · rfl
  · apply List.filter_congr
    intro a _
    rw [Bool.eq_iff_iff]
    simp only [Function.comp, rel, beq_iff_eq]
    omega
theorem rel_rest (now : Nat) (A : List Tm) : ((A.map (rel now)).filter fun a => a.due != 1).map dec = (A.filter fun a => a.due != now + 1).map (rel (now + 1)) := by
  rw [List.filter_map, List.map_map]
  rw [show (A.filter ((fun a : Tm => a.due != 1) ∘ rel now)) = A.filter fun a => a.due != now + 1 from ?_]
  · apply List.map_congr_left
    intro a _
    simp only [Function.comp, rel, dec, Tm.mk.injEq, true_and]
    omega
  · apply List.filter_congr
    intro a _
    rw [Bool.eq_iff_iff]
    simp only [Function.comp, rel, bne_iff_ne, ne_eq]
    omega
theorem rel_del (now i : Nat) (A : List Tm) : (A.map (rel now)).filter (fun c => c.num != i) = (A.filter fun c => c.num != i).map (rel now) := by
  rw [List.filter_map]; rfl
theorem rel_least {n now m : Nat} {A : List Tm} (h : Least n A m) : Least n (A.map (rel now)) m := by
  obtain ⟨h1, h2, h3⟩ := h
  refine ⟨h1, fun a ha => ?_, fun i hi => ?_⟩
  · obtain ⟨c, hc, rfl⟩ := List.mem_map.1 ha
    exact h2 c hc
  · obtain ⟨c, hc, e⟩ := h3 i hi
    exact ⟨rel now c, List.mem_map.2 ⟨c, hc, rfl⟩, e⟩
theorem least_some (n : Nat) (A : List Tm) (hl : A.length < n) : ∃ m, Least n A m := by
  have hex : ∃ m, m < n ∧ ∀ a ∈ A, a.num ≠ m := by
    apply Classical.byContradiction
    intro hno
    have : ∀ m, m < n → m ∈ A.map Tm.num := fun m hm => by
      apply Classical.byContradiction
      intro hm2
      exact hno ⟨m, hm, fun a ha e => hm2 (List.mem_map.2 ⟨a, ha, e⟩)⟩
    have := sub_len (List.range n) (A.map Tm.num) List.nodup_range (fun x hx => this x (List.mem_range.1 hx))
    simp at this
    omega
  obtain ⟨m, ⟨h1, h2⟩, h3⟩ : ∃ m, (m < n ∧ ∀ a ∈ A, a.num ≠ m) ∧ ∀ i, i < m → ¬ (i < n ∧ ∀ a ∈ A, a.num ≠ i) := by
    obtain ⟨k, hk⟩ := hex
    induction k using Nat.strongRecOn with
    | ind k ih =>
      by_cases c : ∃ i, i < k ∧ (i < n ∧ ∀ a ∈ A, a.num ≠ i)
      · obtain ⟨i, hi, hp⟩ := c
        exact ih i hi hp
      · exact ⟨k, hk, fun i hi hp => c ⟨i, hi, hp⟩⟩
  refine ⟨m, h1, h2, fun i hi => ?_⟩
  apply Classical.byContradiction
  intro hno
  exact h3 i hi ⟨by omega, fun a ha e => hno ⟨a, ha, e⟩⟩
/-- How many ticks the timer of that number has. -/
def lf (ts : List Tm) (t : Int) : Int := ((ts.find? fun a => (a.num : Int) == t).map fun a => (a.due : Int)).getD 0
theorem lf_cases (ts : List Tm) (t : Int) : (∃ a ∈ ts, (a.num : Int) = t ∧ lf ts t = (a.due : Int)) ∨ ((∀ a ∈ ts, (a.num : Int) ≠ t) ∧ lf ts t = 0) := by
  unfold lf
  cases h : ts.find? fun a => (a.num : Int) == t with
  | none =>
    right
    refine ⟨fun a ha e => ?_, rfl⟩
    have := List.find?_eq_none.1 h a ha
    simp [e] at this
  | some a =>
    left
    exact ⟨a, List.mem_of_find?_eq_some h, by simpa using List.find?_some h, rfl⟩
theorem num_one {ts : List Tm} (hd : (ts.map Tm.num).Nodup) {a c : Tm} (ha : a ∈ ts) (hc : c ∈ ts) (e : a.num = c.num) : a = c := by
  obtain ⟨i, hi, ei⟩ := List.mem_iff_getElem.1 ha
  obtain ⟨j, hj, ej⟩ := List.mem_iff_getElem.1 hc
  have h3 := List.pairwise_iff_getElem.1 (List.nodup_iff_pairwise_ne.1 hd)
  rcases Nat.lt_trichotomy i j with c1 | c1 | c1
  · have := h3 i j (by simpa using hi) (by simpa using hj) c1
    simp only [List.getElem_map, ei, ej] at this
    exact absurd e this
  · subst c1; rw [← ei, ej]
  · have := h3 j i (by simpa using hj) (by simpa using hi) c1
    simp only [List.getElem_map, ei, ej] at this
    exact absurd e.symm this
theorem lf_of {ts : List Tm} (hd : (ts.map Tm.num).Nodup) {t r : Int} (h : LeftN ts t r) : r = lf ts t := by
  rcases lf_cases ts t with ⟨a, ha, e1, e2⟩ | ⟨h1, e2⟩
  · rcases h with ⟨_, hno⟩ | ⟨c, hc, e3, e4⟩
    · exact absurd e1 (hno a ha)
    · rw [e2, e4, num_one hd hc ha (by omega)]
  · rcases h with ⟨r0, _⟩ | ⟨c, hc, e3, e4⟩
    · rw [r0, e2]
    · exact absurd e3 (h1 c hc)

/-- The program's wheel (its timers A at the time now), and the document's (its timers ts). -/
def Duo (w wr : World) (b n now : Nat) (A : List Tm) (x : Nat) (ts : List Tm) : Prop :=
  ∃ fp v, Wl wr b n now A fp ∧ RWh wr x n ts v ∧ Below w.heap.size w wr ∧ (∀ g, fp g → w.heap.size ≤ g) ∧ (∀ g, Rp x v g → w.heap.size ≤ g) ∧ ∀ g, Rp x v g → ¬ fp g
/-- The same, and a row that is neither's. -/
def DuoT (w wr : World) (b n now : Nat) (A : List Tm) (x : Nat) (ts : List Tm) (va : Value) (T : List Int) : Prop :=
  ∃ fp v, Wl wr b n now A fp ∧ RWh wr x n ts v ∧ Below w.heap.size w wr ∧ (∀ g, fp g → w.heap.size ≤ g) ∧ (∀ g, Rp x v g → w.heap.size ≤ g) ∧ (∀ g, Rp x v g → ¬ fp g) ∧ Ints wr va T ∧ ∀ g, va.ownBlock = some g → w.heap.size ≤ g ∧ ¬ fp g ∧ ¬ Rp x v g
variable {b n now x : Nat} {A ts : List Tm} {w wr w2 : World} {va : Value} {T : List Int}
theorem Duo.bel (h : Duo w wr b n now A x ts) : Below w.heap.size w wr := let ⟨_, _, _, _, h, _⟩ := h; h
theorem DuoT.duo (h : DuoT w wr b n now A x ts va T) : Duo w wr b n now A x ts := let ⟨fp, v, h1, h2, h3, h4, h5, h6, _⟩ := h; ⟨fp, v, h1, h2, h3, h4, h5, h6⟩
theorem Duo.still (h : Duo w wr b n now A x ts) (hb : Below wr.heap.size wr w2) : Duo w w2 b n now A x ts := by
  obtain ⟨fp, v, h1, h2, h3, h4, h5, h6⟩ := h
  exact ⟨fp, v, h1.below hb, h2.below hb, below_call h3 hb, h4, h5, h6⟩
theorem Duo.fits (h : Duo w wr b n now A x ts) : A.length ≤ n ∧ n ≤ 64 ∧ (A.map Tm.num).Nodup ∧ (∀ a ∈ A, now < a.due ∧ a.due ≤ now + 16777215) := by
  obtain ⟨fp, v, ⟨tb, vs, en, _, hf, _⟩, _⟩ := h
  exact ⟨hf.len, hf.n64, hf.nod, hf.due⟩
theorem Duo.prog {A' : List Tm} {fp : Nat → Prop} {v : Value} (h2 : RWh wr x n ts v) (h3 : Below w.heap.size w wr) (h4 : ∀ g, fp g → w.heap.size ≤ g) (h5 : ∀ g, Rp x v g → w.heap.size ≤ g) (h6 : ∀ g, Rp x v g → ¬ fp g) (ha : After wr w2 b n now A' fp) : Duo w w2 b n now A' x ts := by
  obtain ⟨fp', r1, r2, r3, r4, r5⟩ := ha.on h3 h4
  refine ⟨fp', v, r1, h2.keep r4 h6, r2, r3, h5, fun g hg hf => ?_⟩
  rcases r5 g hf with h | h
  · exact h6 g hg h
  · have := h2.lt g hg; omega
theorem Duo.ref {ts' : List Tm} {fp : Nat → Prop} {v : Value} (h1 : Wl wr b n now A fp) (h3 : Below w.heap.size w wr) (h4 : ∀ g, fp g → w.heap.size ≤ g) (h5 : ∀ g, Rp x v g → w.heap.size ≤ g) (h6 : ∀ g, Rp x v g → ¬ fp g) (ha : RAfter wr w2 x n ts' v) : Duo w w2 b n now A x ts' := by
  obtain ⟨v', r1, r2, r3⟩ := ha
  have hs := h3.size
  have key : ∀ g, Rp x v' g → Rp x v g ∨ wr.heap.size ≤ g := fun g hg => by
    rcases hg with rfl | hg
    · exact .inl (.inl rfl)
    · rcases r3 g hg with h | h
      · exact .inl (.inr h)
      · exact .inr h
  refine ⟨fp, v', h1.keep r2 (fun g hg hr => h6 g hr hg), r1, h3.trans (r2.below h5 h3.size), h4, fun g hg => ?_, fun g hg hf => ?_⟩
  · rcases key g hg with h | h
    · exact h5 g h
    · omega
  · rcases key g hg with h | h
    · exact h6 g h hf
    · have := h1.lt g hf; omega

theorem duo_new (pl : Int) (n : Nat) (h0 : (n : Int) = min (max pl 0) 64) (h : Mine w wr b n 0 []) :
    Calls Tryd.prog 11 #[.int .i64 pl] wr fun e w2 => ∃ x, e = .returned (.pointer (some ⟨x, 0, none⟩)) ∧ Duo w w2 b n 0 [] x ([].map (rel 0)) := by
  obtain ⟨fp, h1, h2, h3⟩ := h
  refine (rnew_any pl n h0 wr).mono ?_
  rintro e w2 ⟨x, v, rfl, r1, r2, r3, r4⟩
  have hs := h2.size
  refine ⟨x, rfl, fp, v, h1.below r2, r1, below_call h2 r2, h3, ?_, ?_⟩
  · rintro g (rfl | hg)
    · omega
    · rw [r4] at hg; cases hg
  · rintro g (rfl | hg) hf
    · have := h1.lt _ hf; omega
    · rw [r4] at hg; cases hg
theorem duo_left (h : Duo w wr b n now A x ts) (hn : now ≤ 100000000) (t r : Int) (hr : r = lf (A.map (rel now)) t) :
    Calls Tryd.prog 22 #[.pointer (some ⟨b, 0, none⟩), .int .i64 t] wr fun e w2 => e = .returned (.int .i64 r) ∧ Duo w w2 b n now A x ts := by
  subst hr
  rcases lf_cases (A.map (rel now)) t with ⟨c, hc, e1, e2⟩ | ⟨h1, e2⟩
  · obtain ⟨a, ha, rfl⟩ := List.mem_map.1 hc
    rw [e2]
    obtain ⟨fp, v, g1, g2⟩ := h
    exact (left_in g1 hn a ha t e1.symm).mono fun e w2 ⟨r1, r2⟩ => ⟨r1, Duo.still ⟨fp, v, g1, g2⟩ r2⟩
  · rw [e2]
    obtain ⟨fp, v, g1, g2⟩ := h
    exact (left_out g1 t (fun a ha => h1 (rel now a) (List.mem_map.2 ⟨a, ha, rfl⟩))).mono fun e w2 ⟨r1, r2⟩ => by
      subst r2
      exact ⟨r1, fp, v, g1, g2⟩
theorem duo_rleft (h : Duo w wr b n now A x (A.map (rel now))) (t r : Int) (hr : r = lf (A.map (rel now)) t) :
    Calls Tryd.prog 23 #[.pointer (some ⟨x, 0, none⟩), .int .i64 t] wr fun e w2 => e = .returned (.int .i64 r) ∧ w2 = wr := by
  subst hr
  have hd := h.fits.2.2.1
  obtain ⟨fp, v, g1, g2, g3⟩ := h
  exact (rleft_any g2 t).mono fun e w2 ⟨r, r1, r2, r3⟩ => ⟨by rw [r1, lf_of (by rw [rel_num]; exact hd) r2], r3⟩
theorem duo_free (h : Duo w wr b n now A x ts) (r : Int) (hr : r = ((n - A.length : Nat) : Int)) :
    Calls Tryd.prog 20 #[.pointer (some ⟨b, 0, none⟩)] wr fun e w2 => e = .returned (.int .i64 r) ∧ Duo w w2 b n now A x ts := by
  subst hr
  obtain ⟨fp, v, g1, g2⟩ := h
  exact (free_any g1).mono fun e w2 ⟨r1, r2⟩ => ⟨r1, Duo.still ⟨fp, v, g1, g2⟩ r2⟩
theorem duo_rfree (h : Duo w wr b n now A x ts) (r : Int) (hr : r = ((n - ts.length : Nat) : Int)) :
    Calls Tryd.prog 21 #[.pointer (some ⟨x, 0, none⟩)] wr fun e w2 => e = .returned (.int .i64 r) ∧ Duo w w2 b n now A x ts := by
  obtain ⟨fp, v, g1, g2, g3⟩ := h
  exact (rfree_any g2 r hr).mono fun e w2 ⟨r1, m, r2⟩ => ⟨r1, by rw [r2]; exact Duo.still ⟨fp, v, g1, g2, g3⟩ (below_drewN wr m)⟩
theorem duo_arm_bad (h : Duo w wr b n now A x ts) (t tag : Int) (k : Int) (hk : (k = 6 ∧ (t < 1 ∨ 16777215 < t)) ∨ (k = 5 ∧ 1 ≤ t ∧ t ≤ 16777215 ∧ A.length = n)) :
    Calls Tryd.prog 12 #[.pointer (some ⟨b, 0, none⟩), .int .i64 t, .int .i64 tag] wr fun e w2 => ∃ g, e = .returned (.tuple #[.int .i64 0, .iface 66 (.pointer (some ⟨g, 0, none⟩))]) ∧ w2.cell? ⟨g, 1, none⟩ = some (.int .i64 k) ∧ Duo w w2 b n now A x ts := by
  obtain ⟨fp, v, g1, g2⟩ := h
  rcases hk with ⟨rfl, hk⟩ | ⟨rfl, k1, k2, k3⟩
  · exact (arm_range b t tag hk wr).mono fun e w2 ⟨g, _, r1, r2, r3⟩ => ⟨g, r1, r2, Duo.still ⟨fp, v, g1, g2⟩ r3⟩
  · exact (arm_full g1 k3 t tag k1 k2).mono fun e w2 ⟨g, _, r1, r2, r3⟩ => ⟨g, r1, r2, Duo.still ⟨fp, v, g1, g2⟩ r3⟩
theorem duo_rarm_bad (h : Duo w wr b n now A x (A.map (rel now))) (t tag : Int) (k : Int) (hk : (k = 6 ∧ (t < 1 ∨ 16777215 < t)) ∨ (k = 5 ∧ 1 ≤ t ∧ t ≤ 16777215 ∧ A.length = n)) :
    Calls Tryd.prog 13 #[.pointer (some ⟨x, 0, none⟩), .int .i64 t, .int .i64 tag] wr fun e w2 => e = .returned (.tuple #[.int .i64 0, .int .i64 k]) ∧ Below wr.heap.size wr w2 := by
  obtain ⟨fp, v, g1, g2, _⟩ := h
  rcases hk with ⟨rfl, hk⟩ | ⟨rfl, k1, k2, k3⟩
  · exact (rarm_range x t tag hk wr).mono fun e w2 ⟨r1, r2⟩ => ⟨r1, by rw [r2]; exact Below.refl _ wr⟩
  · exact (rarm_full g2 (by rw [List.length_map]; exact k3) t tag k1 k2).mono fun e w2 ⟨r1, m, r2⟩ => ⟨r1, by rw [r2]; exact below_drewN wr m⟩
theorem duo_arm (h : Duo w wr b n now A x ts) (hn : now ≤ 100000000) (m k : Nat) (hm : Least n A m) (t tag : Int) (ht : t = (k : Int)) (h1 : 1 ≤ k) (h2 : k ≤ 16777215) :
    Calls Tryd.prog 12 #[.pointer (some ⟨b, 0, none⟩), .int .i64 t, .int .i64 tag] wr fun e w2 => e = .returned (.tuple #[.int .i64 (m : Int), .nilIface]) ∧ Duo w w2 b n now (A ++ [⟨m, tag, now + k⟩]) x ts := by
  obtain ⟨fp, v, g1, g2, g3, g4, g5, g6⟩ := h
  exact (arm_ok g1 hn m k hm t tag ht h1 h2).mono fun e w2 ⟨r1, r2⟩ => ⟨r1, Duo.prog g2 g3 g4 g5 g6 r2⟩
theorem duo_rarm {A' : List Tm} (h : Duo w wr b n now A' x (A.map (rel now))) (hl : A.length < n) (m k : Nat) (hm : Least n A m) (t tag : Int) (ht : t = (k : Int)) (h1 : 1 ≤ k) (h2 : k ≤ 16777215) (hA : A' = A ++ [⟨m, tag, now + k⟩]) :
    Calls Tryd.prog 13 #[.pointer (some ⟨x, 0, none⟩), .int .i64 t, .int .i64 tag] wr fun e w2 => e = .returned (.tuple #[.int .i64 (m : Int), .int .i64 0]) ∧ Duo w w2 b n now A' x (A'.map (rel now)) := by
  have hn64 := h.fits.2.1
  obtain ⟨fp, v, g1, g2, g3, g4, g5, g6⟩ := h
  refine (rarm_ok g2 n m k (rel_least hm) (by rw [List.length_map]; exact hl) t tag ht h1 h2 (by have := hm.1; omega)).mono fun e w2 ⟨r1, r2⟩ => ⟨r1, ?_⟩
  have := Duo.ref g1 g3 g4 g5 g6 r2
  rw [hA, List.map_append]
  rw [hA] at this
  rw [show (List.map (rel now) [⟨m, tag, now + k⟩] : List Tm) = [⟨m, tag, k⟩] by simp [rel]]
  exact this
/-- Whether a timer of that number is armed. -/
def has (A : List Tm) (t : Int) : Bool := A.any fun a => (a.num : Int) == t
theorem has_cases (A : List Tm) (t : Int) : (∃ a ∈ A, t = (a.num : Int) ∧ has A t = true) ∨ ((∀ a ∈ A, (a.num : Int) ≠ t) ∧ has A t = false) := by
  unfold has
  cases h : A.any fun a => (a.num : Int) == t with
  | true =>
    left
    obtain ⟨a, ha, e⟩ := List.any_eq_true.1 h
    exact ⟨a, ha, by simpa using (beq_iff_eq.1 e).symm, rfl⟩
  | false =>
    right
    refine ⟨fun a ha e => ?_, rfl⟩
    have := List.any_eq_false.1 h a ha
    simp [e] at this
theorem del_none {A : List Tm} {t : Int} (h : ∀ a ∈ A, (a.num : Int) ≠ t) : A.filter (fun c => (c.num : Int) != t) = A := by
  rw [List.filter_eq_self]
  intro a ha
  simpa using h a ha
theorem del_int (A : List Tm) (i : Nat) : A.filter (fun c => (c.num : Int) != (i : Int)) = A.filter fun c => c.num != i := by
  apply List.filter_congr
  intro a _
  rw [Bool.eq_iff_iff]
  simp
  omega
theorem duo_cancel (h : Duo w wr b n now A x ts) (hn : now ≤ 100000000) (t : Int) (r : Bool) (hr : r = has A t) :
    Calls Tryd.prog 15 #[.pointer (some ⟨b, 0, none⟩), .int .i64 t] wr fun e w2 => e = .returned (.bool r) ∧ Duo w w2 b n now (A.filter fun c => (c.num : Int) != t) x ts := by
  subst hr
  obtain ⟨fp, v, g1, g2, g3, g4, g5, g6⟩ := h
  rcases has_cases A t with ⟨a, ha, e1, e2⟩ | ⟨h1, e2⟩
  · rw [e2]
    refine (cancel_in g1 hn a ha t e1).mono fun e w2 ⟨r1, r2⟩ => ⟨r1, ?_⟩
    rw [e1, del_int]
    exact Duo.prog g2 g3 g4 g5 g6 r2
  · rw [e2, del_none h1]
    exact (cancel_out g1 t h1).mono fun e w2 ⟨r1, r2⟩ => ⟨r1, Duo.still ⟨fp, v, g1, g2, g3, g4, g5, g6⟩ r2⟩
theorem duo_rcancel {A' : List Tm} (h : Duo w wr b n now A' x (A.map (rel now))) (hd : (A.map Tm.num).Nodup) (t : Int) (r : Bool) (hr : r = has A t) (hA : A' = A.filter fun c => (c.num : Int) != t) :
    Calls Tryd.prog 16 #[.pointer (some ⟨x, 0, none⟩), .int .i64 t] wr fun e w2 => e = .returned (.bool r) ∧ Duo w w2 b n now A' x (A'.map (rel now)) := by
  subst hr
  obtain ⟨fp, v, g1, g2, g3, g4, g5, g6⟩ := h
  rcases has_cases A t with ⟨a, ha, e1, e2⟩ | ⟨h1, e2⟩
  · rw [e2]
    refine (rcancel_yes g2 (by rw [rel_num]; exact hd) (rel now a) (List.mem_map.2 ⟨a, ha, rfl⟩) t e1).mono fun e w2 ⟨r1, r2⟩ => ⟨r1, ?_⟩
    have := Duo.ref g1 g3 g4 g5 g6 r2
    rw [rel_del] at this
    rw [hA, e1, del_int]
    rw [hA, e1, del_int] at this
    exact this
  · rw [e2]
    refine (rcancel_no g2 t (fun a ha => by obtain ⟨c, hc, rfl⟩ := List.mem_map.1 ha; exact h1 c hc)).mono fun e w2 ⟨r1, r2⟩ => ⟨r1, ?_⟩
    subst r2
    rw [hA, del_none h1]
    rw [hA, del_none h1] at g1
    exact ⟨fp, v, g1, g2, g3, g4, g5, g6⟩
theorem duo_tick (h : Duo w wr b n now A x (A.map (rel now))) (hn : now ≤ 100000000) :
    Calls Tryd.prog 17 #[.pointer (some ⟨b, 0, none⟩)] wr fun e w2 => ∃ va, e = .returned va ∧ DuoT w w2 b n (now + 1) (A.filter fun a => a.due != now + 1) x (A.map (rel now)) va ((A.filter fun a => a.due == now + 1).map Tm.tag) := by
  obtain ⟨fp, v, g1, g2, g3, g4, g5, g6⟩ := h
  refine (tick_on g1 hn g3 g4).mono ?_
  rintro e w2 ⟨va, rfl, r1, fp', r2, r3, r4, r5, r6, r7⟩
  have hs := g3.size
  refine ⟨va, rfl, fp', v, r2, g2.keep r5 g6, r3, r4, g5, fun g hg hf => ?_, r1, fun g hg => ⟨by have := (r7 g hg).1; omega, (r7 g hg).2, fun hr => ?_⟩⟩
  · rcases r6 g hf with h | h
    · exact g6 g hg h
    · have := g2.lt g hg; omega
  · have := (r7 g hg).1
    have := g2.lt g hr
    omega
theorem duo_rtick {A' : List Tm} (h : DuoT w wr b n (now + 1) A' x (A.map (rel now)) va T) (hA : A' = A.filter fun a => a.due != now + 1) (hdue : ∀ a ∈ A, now < a.due ∧ a.due ≤ now + 16777215) :
    Calls Tryd.prog 19 #[.pointer (some ⟨x, 0, none⟩)] wr fun e w2 => ∃ vb, e = .returned vb ∧ Ints w2 vb ((A.filter fun a => a.due == now + 1).map Tm.tag) ∧ DuoT w w2 b n (now + 1) A' x (A'.map (rel (now + 1))) va T := by
  obtain ⟨fp, v, g1, g2, g3, g4, g5, g6, g7, g8⟩ := h
  refine (rtick_any g2 (fun c hc => by
    obtain ⟨a, ha, rfl⟩ := List.mem_map.1 hc
    have := hdue a ha
    show 1 ≤ a.due - now ∧ a.due - now ≤ 16777215
    omega)).mono ?_
  rintro e w2 ⟨vb, rfl, r1, v', r2, r3, r4, r5⟩
  rw [rel_fire] at r1
  rw [rel_rest] at r2
  rw [← hA] at r2
  have hs := g3.size
  have key : ∀ g, Rp x v' g → Rp x v g ∨ wr.heap.size ≤ g := fun g hg => by
    rcases hg with rfl | hg
    · exact .inl (.inl rfl)
    · rcases r4 g hg with h | h
      · exact .inl (.inr h)
      · exact .inr h
  refine ⟨vb, rfl, r1, fp, v', g1.keep r3 (fun g hg hr => g6 g hr hg), r2, g3.trans (r3.below g5 g3.size), g4, fun g hg => ?_, fun g hg hf => ?_, g7.keep r3 (fun g hg => (g8 g hg).2.2), fun g hg => ⟨(g8 g hg).1, (g8 g hg).2.1, fun hr => ?_⟩⟩
  · rcases key g hg with h | h
    · exact g5 g h
    · omega
  · rcases key g hg with h | h
    · exact g6 g h hf
    · have := g1.lt g hf; omega
  · rcases key g hr with h | h
    · exact (g8 g hg).2.2 h
    · have := g7.lt hg; omega
theorem DuoT.still (h : DuoT w wr b n now A x ts va T) (hb : Below wr.heap.size wr w2) : DuoT w w2 b n now A x ts va T := by
  obtain ⟨fp, v, h1, h2, h3, h4, h5, h6, h7, h8⟩ := h
  exact ⟨fp, v, h1.below hb, h2.below hb, below_call h3 hb, h4, h5, h6, h7.keep (Keep.of_below (F := fun _ => False) hb) (fun _ _ h => h), h8⟩
theorem DuoT.set_ {g c N : Nat} (h : DuoT w wr b n now A x ts (.slice (some ⟨g, 0, none⟩) N c) T) (hN : N = T.length) (k : Nat) (y : Int) : DuoT w (wr.setCell ⟨g, k, none⟩ (.int .i64 y)) b n now A x ts (.slice (some ⟨g, 0, none⟩) N c) (T.set k y) := by
  obtain ⟨fp, v, h1, h2, h3, h4, h5, h6, h7, h8⟩ := h
  have hk : Keep (fun z => z = g) wr (wr.setCell ⟨g, k, none⟩ (.int .i64 y)) := Keep.set_ wr g k _ rfl
  obtain ⟨p1, p2, p3⟩ := h8 g rfl
  exact ⟨fp, v, h1.keep hk (fun z hz e => p2 (by rw [← e]; exact hz)), h2.keep hk (fun z hz e => p3 (by rw [← e]; exact hz)), h3.trans (hk.below (fun z hz => by omega) h3.size), h4, h5, h6, Own.set_ h7 hN k y, h8⟩
end Go.Proofs.YtaonnkocopngaaaDoor

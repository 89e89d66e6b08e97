/-
  The program's channels for a caller of their own: what lies where is hidden.
-/
import Derived.Test.YtmfgfjkpijmgoaaDoorLkE
namespace Go.Proofs.YtmfgfjkpijmgoaaDoor
open Go.RowKit

/-- F, as New reckons it. -/
theorem fresh_nat (fresh : Int) : ∃ F : Nat, (F : Int) = min (max fresh 1) 6000 := ⟨(min (max fresh 1) 6000).toNat, by omega⟩
/-- The error that Take tells. -/
def tcode (F : Nat) (f : Nat → Ch) (c q : Int) (n : Nat) : Int := if ¬ Fit c q n then 1 else if isF F (f c.toNat) = true ∧ follows q (f c.toNat).seq = false then 4 else 0
/-- The channels behind it. -/
def taken (F : Nat) (f : Nat → Ch) (c q : Int) (xs : List (BitVec 8)) : Nat → Ch := if tcode F f c q xs.length = 0 then upd f c.toNat ⟨true, q, 0, xs⟩ else f
theorem take_any {w : World} {b F : Nat} {f : Nat → Ch} {v : Nat → Value} {D : Nat → Prop} (h : Lk true w 55 b F f v D) (c q : Int) (u : Value) (xs : List (BitVec 8)) (hu : Byts w u xs) :
    Calls Tryd.prog 15 #[.pointer (some ⟨b, 0, none⟩), .agg #[.int .i64 c, .int .i64 q, u]] w fun e w' => ∃ e2, e = .returned e2 ∧ ErrV w' e2 (tcode F f c q xs.length) ∧ LkAfter w w' b F (taken F f c q xs) D := by
  have stays : ∀ w', Below w.heap.size w w' → LkAfter w w' b F f D := fun w' hb => ⟨v, D, h.below hb, fun g hg => .inl hg, Keep.of_below hb⟩
  by_cases hn : Fit c q xs.length
  · have hn' := hn
    obtain ⟨h1, h2, h3, h4, h5⟩ := hn'
    obtain ⟨k, hk⟩ : ∃ k : Nat, c = (k : Int) := ⟨c.toNat, by omega⟩
    subst hk
    have hk : k < 16 := by omega
    have hkk : (k : Int).toNat = k := by simp
    cases hf : isF F (f k) with
    | false =>
      have e0 : tcode F f k q xs.length = 0 := by unfold tcode; rw [if_neg (by simpa using hn), hkk, hf]; simp
      unfold taken
      rw [e0, if_pos rfl, hkk]
      exact (take_stale h k hk q u xs hu ⟨h3, h4⟩ h5 hf).mono fun e w' ⟨he, ha⟩ => ⟨_, he, .inl ⟨rfl, rfl⟩, ha⟩
    | true =>
      cases hfo : follows q (f k).seq with
      | true =>
        have e0 : tcode F f k q xs.length = 0 := by unfold tcode; rw [if_neg (by simpa using hn), hkk, hf, hfo]; simp
        unfold taken
        rw [e0, if_pos rfl, hkk]
        exact (take_fresh h k hk q u xs hu ⟨h3, h4⟩ h5 hf hfo).mono fun e w' ⟨he, ha⟩ => ⟨_, he, .inl ⟨rfl, rfl⟩, ha⟩
      | false =>
        have e0 : tcode F f k q xs.length = 4 := by unfold tcode; rw [if_neg (by simpa using hn), hkk, hf, hfo]; simp
        unfold taken
        rw [e0, if_neg (by decide)]
        exact (take_old h k hk q u xs hu ⟨h3, h4⟩ h5 hf hfo).mono fun e w' ⟨g, he, hc, hb⟩ => ⟨_, he, .inr ⟨g, by decide, rfl, hc⟩, stays w' hb⟩
  · have e0 : tcode F f c q xs.length = 1 := by unfold tcode; rw [if_pos hn]
    unfold taken
    rw [e0, if_neg (by decide)]
    exact (take_arg (b := b) c q u xs hu hn).mono fun e w' ⟨g, he, hc, hb⟩ => ⟨_, he, .inr ⟨g, by decide, rfl, hc⟩, stays w' hb⟩

/-- The channels f, fresh for F ticks, of a call that began at the world w. -/
def Ln (w wr : World) (b F : Nat) (f : Nat → Ch) : Prop := ∃ v D, Lk true wr 55 b F f v D ∧ Below w.heap.size w wr ∧ w.heap.size ≤ b ∧ ∀ g, D g → w.heap.size ≤ g
variable {w wr w2 : World} {b F : Nat} {f : Nat → Ch}
theorem Ln.bel (h : Ln w wr b F f) : Below w.heap.size w wr := let ⟨_, _, _, h, _⟩ := h; h
theorem Ln.still (h : Ln w wr b F f) (hb : Below wr.heap.size wr w2) : Ln w w2 b F f := let ⟨v, D, h1, h2, h3, h4⟩ := h; ⟨v, D, h1.below hb, below_call h2 hb, h3, h4⟩
theorem Ln.ok (h : Ln w wr b F f) (k : Nat) (hk : k < 16) : OkCh F (f k) := let ⟨_, _, h, _⟩ := h; h.ok k hk
/-- An error's block is none of the channels'. -/
theorem Ln.ne (h : Ln w wr b F f) {g : Nat} {k : Int} (hc : wr.cell? ⟨g, 1, none⟩ = some (.int .i64 k)) : g ≠ b := by
  rintro rfl
  obtain ⟨_, _, h, _⟩ := h
  have := (h.at_ 0 (by omega)).1
  rw [show 1 + 0 * 4 = 1 from rfl, hc] at this
  cases this
theorem Ln.blt (h : Ln w wr b F f) : b < wr.heap.size := let ⟨_, _, h, _⟩ := h; h.blt
theorem Ln.F1 (h : Ln w wr b F f) : 1 ≤ F ∧ F ≤ 6000 := let ⟨_, _, h, _⟩ := h; h.F1
theorem Ln.after {f' : Nat → Ch} {D : Nat → Prop} (h2 : Below w.heap.size w wr) (h3 : w.heap.size ≤ b) (h4 : ∀ g, D g → w.heap.size ≤ g) (ha : LkAfter wr w2 b F f' D) : Ln w w2 b F f' := by
  obtain ⟨v', D', r1, r2, r3⟩ := ha
  have hs := h2.size
  exact ⟨v', D', r1, below_keep h2 r3 (fun g hg => by rw [hg]; exact h3), h3, fun g hg => (r2 g hg).elim (h4 g) (fun h => by omega)⟩
theorem ln_new (fresh : Int) (F : Nat) (hF : (F : Int) = min (max fresh 1) 6000) (hb : Below w.heap.size w wr) :
    Calls Tryd.prog 10 #[.int .i64 fresh] wr fun e w' => ∃ b, e = .returned (.pointer (some ⟨b, 0, none⟩)) ∧ Ln w w' b F (fun _ => noCh) :=
  (new_any fresh F hF wr).mono fun e w' ⟨b, he, hle, hl, hb2⟩ => ⟨b, he, _, _, hl, below_call hb hb2, by have := hb.size; omega, fun g hg => hg.elim⟩
theorem ln_tick (h : Ln w wr b F f) :
    Calls Tryd.prog 12 #[.pointer (some ⟨b, 0, none⟩)] wr fun e w' => e = .returned (.tuple #[]) ∧ Ln w w' b F (fun k => older F (f k)) ∧ Keep (fun g => g = b) wr w' := by
  obtain ⟨v, D, h1, h2, h3, h4⟩ := h
  exact (tick_any h1).mono fun e w' ⟨he, ha⟩ => ⟨he, Ln.after h2 h3 h4 ha, let ⟨_, _, _, _, hk⟩ := ha; hk⟩
theorem ln_take (h : Ln w wr b F f) (c q : Int) (u : Value) (xs : List (BitVec 8)) (hu : Byts wr u xs) :
    Calls Tryd.prog 15 #[.pointer (some ⟨b, 0, none⟩), .agg #[.int .i64 c, .int .i64 q, u]] wr fun e w' => ∃ e2, e = .returned e2 ∧ ErrV w' e2 (tcode F f c q xs.length) ∧ Ln w w' b F (taken F f c q xs) ∧ Keep (fun g => g = b) wr w' := by
  obtain ⟨v, D, h1, h2, h3, h4⟩ := h
  exact (take_any h1 c q u xs hu).mono fun e w' ⟨e2, he, hv, ha⟩ => ⟨e2, he, hv, Ln.after h2 h3 h4 ha, let ⟨_, _, _, _, hk⟩ := ha; hk⟩
theorem ln_at (h : Ln w wr b F f) (ch : Int) (c : Ch) (hc : c = peek f ch) :
    Calls Tryd.prog 20 #[.pointer (some ⟨b, 0, none⟩), .int .i64 ch] wr fun e w' => ∃ r, e = .returned (.agg #[.bool c.had, .int .i64 c.seq, .int .i64 (c.age : Int), r]) ∧ Own w' wr.heap.size r c.xs ∧ Ln w w' b F f ∧ Below wr.heap.size wr w' := by
  obtain ⟨v, D, h1, h2, h3, h4⟩ := h
  exact (at_any h1 ch c hc).mono fun e w' ⟨r, he, ho, hb⟩ => ⟨r, he, ho, ⟨v, D, h1.below hb, below_call h2 hb, h3, h4⟩, hb⟩
theorem ln_fresh (h : Ln w wr b F f) (ch : Int) (c : Ch) (hc : c = peek f ch) (r2 : Bool) (hr : r2 = isF F c) :
    Calls Tryd.prog 17 #[.pointer (some ⟨b, 0, none⟩), .int .i64 ch] wr fun e w' => ∃ r, e = .returned (.tuple #[r, .bool r2]) ∧ Own w' wr.heap.size r c.xs ∧ Ln w w' b F f ∧ Below wr.heap.size wr w' := by
  obtain ⟨v, D, h1, h2, h3, h4⟩ := h
  rw [hr]
  exact (fresh_any h1 ch c hc).mono fun e w' ⟨r, he, ho, hb⟩ => ⟨r, he, ho, ⟨v, D, h1.below hb, below_call h2 hb, h3, h4⟩, hb⟩
end Go.Proofs.YtmfgfjkpijmgoaaDoor

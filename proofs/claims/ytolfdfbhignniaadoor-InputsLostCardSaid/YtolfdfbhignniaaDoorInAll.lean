/-
  Tw InMath InObj InCtm InRsix: merged.
-/
import Derived.Deep.AppendLies
import Derived.Test.YtolfdfbhignniaaDoorLnAll
import Derived.Test.YtolfdfbhignniaaDoorRlkC
import Derived.Test.YtolfdfbhignniaaDoorTels
import Derived.Test.YtolfdfbhignniaaDoorBase
/-
  Two rows of channels side by side: the program's, the document's.
-/
namespace Go.Proofs.YtolfdfbhignniaaDoor
open Go.RowKit

theorem rtake_any {w : World} {b F : Nat} {f : Nat → Ch} {v : Nat → Value} {D : Nat → Prop} (h : Lk false w 100 b F f v D) (c q : Int) (u : Value) (xs : List (BitVec 8)) (hu : Byts w u xs) :
    Calls Tryd.prog 50 #[.pointer (some ⟨b, 0, none⟩), .agg #[.int .i64 c, .int .i64 q, u]] w fun e w' => e = .returned (.int .i64 (tcode F f c q xs.length)) ∧ RlkAfter w w' b F (taken F f c q xs) D := by
  have stays : ∀ w', Below w.heap.size w w' → RlkAfter w w' b F f D := fun w' hb => ⟨v, D, h.below hb, fun g hg => .inl hg, Keep.of_below hb⟩
  by_cases hn : Fit c q xs.length
  · have hn' := hn
    obtain ⟨h1, h2, h3, h4, h5⟩ := hn'
    obtain ⟨k, hk⟩ : ∃ k : Nat, c = (k : Int) := ⟨c.toNat, by omega⟩
    subst hk
    have hk : k < 16 := by omega
    have hkk : (k : Int).toNat = k := by simp
    by_cases ho : isF F (f k) = true ∧ follows q (f k).seq = false
    · have e0 : tcode F f k q xs.length = 4 := by unfold tcode; rw [if_neg (by simpa using hn), hkk, if_pos ho]
      unfold taken
      rw [e0, if_neg (by decide)]
      exact (rtake_old h k hk q u xs hu ⟨h3, h4⟩ h5 ho.1 ho.2).mono fun e w' ⟨he, hb⟩ => ⟨he, stays w' hb⟩
    · have e0 : tcode F f k q xs.length = 0 := by unfold tcode; rw [if_neg (by simpa using hn), hkk, if_neg ho]
      unfold taken
      rw [e0, if_pos rfl, hkk]
      exact rtake_main h k hk q u xs hu ⟨h3, h4⟩ h5 (isF F (f k)) rfl (fun hf => by
        cases hfo : follows q (f k).seq with
        | true => rfl
        | false => exact absurd ⟨hf, hfo⟩ ho)
  · have e0 : tcode F f c q xs.length = 1 := by unfold tcode; rw [if_pos hn]
    unfold taken
    rw [e0, if_neg (by decide)]
    exact (rtake_arg (b := b) c q u xs hu hn).mono fun e w' ⟨he, hb⟩ => ⟨he, stays w' hb⟩

/-- Channels f behind a call; nothing older has changed but their block. -/
def KAfter (s : Bool) (T : TypeId) (w w' : World) (b F : Nat) (f : Nat → Ch) (D : Nat → Prop) : Prop := ∃ v D', Lk s w' T b F f v D' ∧ (∀ g, D' g → D g ∨ w.heap.size ≤ g) ∧ Keep (fun g => g = b) w w'
/-- Two rows of channels, of a call that began at the world w; blocks of X are that call's own, and none of theirs. -/
def Twx (X : Nat → Prop) (s s' : Bool) (T T' : TypeId) (w wr : World) (F b : Nat) (f : Nat → Ch) (b' : Nat) (f' : Nat → Ch) : Prop :=
  ∃ v D v' D', Lk s wr T b F f v D ∧ Lk s' wr T' b' F f' v' D' ∧ Below w.heap.size w wr ∧ (w.heap.size ≤ b ∧ w.heap.size ≤ b') ∧ (∀ g, D g → w.heap.size ≤ g ∧ g ≠ b') ∧ (∀ g, D' g → w.heap.size ≤ g ∧ g ≠ b) ∧ b ≠ b' ∧
    ∀ g, X g → w.heap.size ≤ g ∧ g < wr.heap.size ∧ g ≠ b ∧ g ≠ b' ∧ ¬ D g ∧ ¬ D' g
abbrev Tw (s s' : Bool) (T T' : TypeId) (w wr : World) (F b : Nat) (f : Nat → Ch) (b' : Nat) (f' : Nat → Ch) : Prop := Twx (fun _ => False) s s' T T' w wr F b f b' f'
variable {X : Nat → Prop} {s s' : Bool} {T T' : TypeId} {w wr w2 : World} {F b b' : Nat} {f f' f2 : Nat → Ch}
theorem Twx.swap (h : Twx X s s' T T' w wr F b f b' f') : Twx X s' s T' T w wr F b' f' b f := by
  obtain ⟨v, D, v', D', h1, h2, h3, h4, h5, h6, h7, h8⟩ := h
  exact ⟨v', D', v, D, h2, h1, h3, h4.symm, h6, h5, fun e => h7 e.symm, fun g hg => let ⟨x1, x2, x3, x4, x5, x6⟩ := h8 g hg; ⟨x1, x2, x4, x3, x6, x5⟩⟩
theorem Twx.bel (h : Twx X s s' T T' w wr F b f b' f') : Below w.heap.size w wr := by
  obtain ⟨v, D, v', D', h1, h2, h3, _⟩ := h
  exact h3
theorem Twx.still (h : Twx X s s' T T' w wr F b f b' f') (hb : Below wr.heap.size wr w2) : Twx X s s' T T' w w2 F b f b' f' := by
  obtain ⟨v, D, v', D', h1, h2, h3, h4, h5, h6, h7, h8⟩ := h
  exact ⟨v, D, v', D', h1.below hb, h2.below hb, below_call h3 hb, h4, h5, h6, h7, fun g hg => let ⟨x1, x2, x3⟩ := h8 g hg; ⟨x1, by have := hb.size; omega, x3⟩⟩
theorem Twx.drop (h : Twx X s s' T T' w wr F b f b' f') : Tw s s' T T' w wr F b f b' f' := by
  obtain ⟨v, D, v', D', h1, h2, h3, h4, h5, h6, h7, h8⟩ := h
  exact ⟨v, D, v', D', h1, h2, h3, h4, h5, h6, h7, fun g hg => hg.elim⟩
theorem Twx.blt (h : Twx X s s' T T' w wr F b f b' f') : b < wr.heap.size ∧ b' < wr.heap.size := by
  obtain ⟨v, D, v', D', h1, h2, _⟩ := h
  exact ⟨h1.blt, h2.blt⟩
/-- Blocks that were made since. -/
theorem Twx.own (h : Twx X s s' T T' w wr F b f b' f') (hb : Below wr.heap.size wr w2) (Y : Nat → Prop) (hY : ∀ g, Y g → wr.heap.size ≤ g ∧ g < w2.heap.size) : Twx Y s s' T T' w w2 F b f b' f' := by
  obtain ⟨v, D, v', D', h1, h2, h3, h4, h5, h6, h7, h8⟩ := h
  refine ⟨v, D, v', D', h1.below hb, h2.below hb, below_call h3 hb, h4, h5, h6, h7, fun g hg => ?_⟩
  obtain ⟨y1, y2⟩ := hY g hg
  have := h3.size
  have := h1.blt
  have := h2.blt
  exact ⟨by omega, y2, by omega, by omega, fun hd => by have := (h1.lt g hd).1; omega, fun hd => by have := (h2.lt g hd).1; omega⟩
/-- A store into a block of the call's own. -/
theorem Twx.store (h : Twx X s s' T T' w wr F b f b' f') {g : Nat} (hg : X g) (o : Nat) (u : Value) : Twx X s s' T T' w (wr.setCell ⟨g, o, none⟩ u) F b f b' f' := by
  obtain ⟨v, D, v', D', h1, h2, h3, h4, h5, h6, h7, h8⟩ := h
  obtain ⟨x1, x2, x3, x4, x5, x6⟩ := h8 g hg
  have hk : Keep (fun x => x = g) wr (wr.setCell ⟨g, o, none⟩ u) := (Keep.refl (fun x => x = g) wr).store g o u rfl
  exact ⟨v, D, v', D', h1.keep hk (fun e => x3 e.symm) (fun d hd e => x5 (by rw [← e]; exact hd)), h2.keep hk (fun e => x4 e.symm) (fun d hd e => x6 (by rw [← e]; exact hd)), below_keep h3 hk (fun x e => by rw [e]; exact x1), h4, h5, h6, h7, fun x hx => let ⟨z1, z2, z3⟩ := h8 x hx; ⟨z1, by have := hk.size; omega, z3⟩⟩
theorem tw_after {v : Nat → Value} {D : Nat → Prop} {v' : Nat → Value} {D' : Nat → Prop} (h2 : Lk s' wr T' b' F f' v' D') (h3 : Below w.heap.size w wr) (h4 : w.heap.size ≤ b ∧ w.heap.size ≤ b') (h5 : ∀ g, D g → w.heap.size ≤ g ∧ g ≠ b') (h6 : ∀ g, D' g → w.heap.size ≤ g ∧ g ≠ b) (h7 : b ≠ b')
    (h8 : ∀ g, X g → w.heap.size ≤ g ∧ g < wr.heap.size ∧ g ≠ b ∧ g ≠ b' ∧ ¬ D g ∧ ¬ D' g) (ha : KAfter s T wr w2 b F f2 D) : Twx X s s' T T' w w2 F b f2 b' f' ∧ Keep (fun g => g = b) wr w2 := by
  have _ := v
  obtain ⟨v2, D2, r1, r2, r3⟩ := ha
  have hs := h3.size
  refine ⟨⟨v2, D2, v', D', r1, h2.keep r3 (fun e => h7 e.symm) (fun g hg e => (h6 g hg).2 e), below_keep h3 r3 (fun g hg => by rw [hg]; exact h4.1), h4, fun g hg => ?_, h6, h7, fun g hg => ?_⟩, r3⟩
  · rcases r2 g hg with h | h
    · exact h5 g h
    · have := h2.blt
      exact ⟨by omega, by omega⟩
  · obtain ⟨x1, x2, x3, x4, x5, x6⟩ := h8 g hg
    exact ⟨x1, by have := r3.size; omega, x3, x4, fun hd => (r2 g hd).elim x5 (fun h => by omega), x6⟩
/-- An error's block is none of the channels'. -/
theorem Lk.ne {v : Nat → Value} {D : Nat → Prop} (h : Lk s wr T b F f v D) {g : Nat} {k : Int} (hc : wr.cell? ⟨g, 1, none⟩ = some (.int .i64 k)) : g ≠ b := by
  rintro rfl
  have := (h.at_ 0 (by omega)).1
  rw [show 1 + 0 * 4 = 1 from rfl, hc] at this
  cases this
theorem Twx.err (h : Twx X s s' T T' w wr F b f b' f') {e : Value} {k : Int} (he : ErrV wr e k) (hk : Keep (fun g => g = b) wr w2) : ErrV w2 e k := by
  obtain ⟨v, D, v', D', h1, _⟩ := h
  rcases he with he | ⟨g, h0, h2, h3⟩
  · exact .inl he
  · exact .inr ⟨g, h0, h2, hk.cell h3 (h1.ne h3)⟩

/-! ### The program's calls on the first -/
theorem tw_tick (h : Twx X true s' 98 T' w wr F b f b' f') :
    Calls Tryd.prog 51 #[.pointer (some ⟨b, 0, none⟩)] wr fun e w' => e = .returned (.tuple #[]) ∧ Twx X true s' 98 T' w w' F b (fun k => older F (f k)) b' f' ∧ Keep (fun g => g = b) wr w' := by
  obtain ⟨v, D, v', D', h1, h2, h3, h4, h5, h6, h7, h8⟩ := h
  exact (tick_any h1).mono fun e w' ⟨he, ha⟩ => ⟨he, tw_after (v := v) h2 h3 h4 h5 h6 h7 h8 ha⟩
theorem tw_take (h : Twx X true s' 98 T' w wr F b f b' f') (c q : Int) (u : Value) (xs : List (BitVec 8)) (hu : Byts wr u xs) :
    Calls Tryd.prog 48 #[.pointer (some ⟨b, 0, none⟩), .agg #[.int .i64 c, .int .i64 q, u]] wr fun e w' => ∃ e2, e = .returned e2 ∧ ErrV w' e2 (tcode F f c q xs.length) ∧ Twx X true s' 98 T' w w' F b (taken F f c q xs) b' f' ∧ Keep (fun g => g = b) wr w' := by
  obtain ⟨v, D, v', D', h1, h2, h3, h4, h5, h6, h7, h8⟩ := h
  exact (take_any h1 c q u xs hu).mono fun e w' ⟨e2, he, hv, ha⟩ => ⟨e2, he, hv, tw_after (v := v) h2 h3 h4 h5 h6 h7 h8 ha⟩
theorem tw_at (h : Twx X true s' 98 T' w wr F b f b' f') (ch : Int) (c : Ch) (hc : c = peek f ch) :
    Calls Tryd.prog 57 #[.pointer (some ⟨b, 0, none⟩), .int .i64 ch] wr fun e w' => ∃ r, e = .returned (.agg #[.bool c.had, .int .i64 c.seq, .int .i64 (c.age : Int), r]) ∧ Own w' wr.heap.size r c.xs ∧ Twx X true s' 98 T' w w' F b f b' f' ∧ Below wr.heap.size wr w' := by
  have h' := h
  obtain ⟨v, D, v', D', h1, h2⟩ := h
  exact (at_any h1 ch c hc).mono fun e w' ⟨r, he, ho, hb⟩ => ⟨r, he, ho, h'.still hb, hb⟩
theorem tw_fresh (h : Twx X true s' 98 T' w wr F b f b' f') (ch : Int) (c : Ch) (hc : c = peek f ch) (r2 : Bool) (hr : r2 = isF F c) :
    Calls Tryd.prog 27 #[.pointer (some ⟨b, 0, none⟩), .int .i64 ch] wr fun e w' => ∃ r, e = .returned (.tuple #[r, .bool r2]) ∧ Own w' wr.heap.size r c.xs ∧ Twx X true s' 98 T' w w' F b f b' f' ∧ Below wr.heap.size wr w' := by
  have h' := h
  obtain ⟨v, D, v', D', h1, h2⟩ := h
  rw [hr]
  exact (fresh_any h1 ch c hc).mono fun e w' ⟨r, he, ho, hb⟩ => ⟨r, he, ho, h'.still hb, hb⟩
/-- A second row. -/
theorem tw_new (h : Ln w wr b F f) (fresh : Int) (hF : (F : Int) = min (max fresh 1) 6000) :
    Calls Tryd.prog 24 #[.int .i64 fresh] wr fun e w' => ∃ b', e = .returned (.pointer (some ⟨b', 0, none⟩)) ∧ Tw true true 98 98 w w' F b f b' (fun _ => noCh) := by
  obtain ⟨v, D, h1, h2, h3, h4⟩ := h
  refine (new_any fresh F hF wr).mono fun e w' ⟨b', he, hle, hl, hb⟩ => ⟨b', he, v, D, _, _, h1.below hb, hl, below_call h2 hb, ⟨h3, by have := h2.size; omega⟩, fun g hg => ⟨h4 g hg, by have := (h1.lt g hg).1; omega⟩, fun g hg => hg.elim, by have := h1.blt; omega, fun g hg => hg.elim⟩

/-! ### The document's calls on the second -/
theorem tw_rnew (h : Ln w wr b F f) (fresh : Int) (hF : (F : Int) = min (max fresh 1) 6000) :
    Calls Tryd.prog 25 #[.int .i64 fresh] wr fun e w' => ∃ b', e = .returned (.pointer (some ⟨b', 0, none⟩)) ∧ Tw true false 98 100 w w' F b f b' (fun _ => noCh) := by
  obtain ⟨v, D, h1, h2, h3, h4⟩ := h
  refine (rnew_any fresh F hF wr).mono fun e w' ⟨b', he, hle, hl, hb⟩ => ⟨b', he, v, D, _, _, h1.below hb, hl, below_call h2 hb, ⟨h3, by have := h2.size; omega⟩, fun g hg => ⟨h4 g hg, by have := (h1.lt g hg).1; omega⟩, fun g hg => hg.elim, by have := h1.blt; omega, fun g hg => hg.elim⟩
theorem tw_rtick (h : Twx X s false T 100 w wr F b f b' f') :
    Calls Tryd.prog 26 #[.pointer (some ⟨b', 0, none⟩)] wr fun e w' => e = .returned (.tuple #[]) ∧ Twx X s false T 100 w w' F b f b' (fun k => older F (f' k)) ∧ Keep (fun g => g = b') wr w' := by
  obtain ⟨v, D, v', D', h1, h2, h3, h4, h5, h6, h7, h8⟩ := h
  refine (rtick_any h2).mono fun e w' ⟨he, ha⟩ => ⟨he, ?_⟩
  have := tw_after (v := v') (s := false) (T := 100) h1 h3 h4.symm h6 h5 (fun e => h7 e.symm) (fun g hg => let ⟨x1, x2, x3, x4, x5, x6⟩ := h8 g hg; ⟨x1, x2, x4, x3, x6, x5⟩) ha
  exact ⟨this.1.swap, this.2⟩
theorem tw_rtake (h : Twx X s false T 100 w wr F b f b' f') (c q : Int) (u : Value) (xs : List (BitVec 8)) (hu : Byts wr u xs) :
    Calls Tryd.prog 50 #[.pointer (some ⟨b', 0, none⟩), .agg #[.int .i64 c, .int .i64 q, u]] wr fun e w' => e = .returned (.int .i64 (tcode F f' c q xs.length)) ∧ Twx X s false T 100 w w' F b f b' (taken F f' c q xs) ∧ Keep (fun g => g = b') wr w' := by
  obtain ⟨v, D, v', D', h1, h2, h3, h4, h5, h6, h7, h8⟩ := h
  refine (rtake_any h2 c q u xs hu).mono fun e w' ⟨he, ha⟩ => ⟨he, ?_⟩
  have := tw_after (v := v') (s := false) (T := 100) h1 h3 h4.symm h6 h5 (fun e => h7 e.symm) (fun g hg => let ⟨x1, x2, x3, x4, x5, x6⟩ := h8 g hg; ⟨x1, x2, x4, x3, x6, x5⟩) ha
  exact ⟨this.1.swap, this.2⟩
theorem tw_rat (h : Twx X s false T 100 w wr F b f b' f') (ch : Int) (c : Ch) (hc : c = peek f' ch) :
    Calls Tryd.prog 43 #[.pointer (some ⟨b', 0, none⟩), .int .i64 ch] wr fun e w' => ∃ r, e = .returned (.agg #[.bool c.had, .int .i64 c.seq, .int .i64 (c.age : Int), r]) ∧ Own w' wr.heap.size r c.xs ∧ Twx X s false T 100 w w' F b f b' f' ∧ Below wr.heap.size wr w' := by
  have h' := h
  obtain ⟨v, D, v', D', h1, h2, _⟩ := h
  exact (rat_any h2 ch c hc).mono fun e w' ⟨r, he, ho, hb⟩ => ⟨r, he, ho, h'.still hb, hb⟩
theorem tw_rfresh (h : Twx X s false T 100 w wr F b f b' f') (ch : Int) (c : Ch) (hc : c = peek f' ch) (r2 : Bool) (hr : r2 = isF F c) :
    Calls Tryd.prog 36 #[.pointer (some ⟨b', 0, none⟩), .int .i64 ch] wr fun e w' => ∃ r, e = .returned (.tuple #[r, .bool r2]) ∧ Own w' wr.heap.size r c.xs ∧ Twx X s false T 100 w w' F b f b' f' ∧ Below wr.heap.size wr w' := by
  have h' := h
  obtain ⟨v, D, v', D', h1, h2, _⟩ := h
  rw [hr]
  exact (rFresh_any h2 ch c hc).mono fun e w' ⟨r, he, ho, hb⟩ => ⟨r, he, ho, h'.still hb, hb⟩

/-! ### What one channel says hangs on it alone -/
theorem peek_older (F : Nat) (f : Nat → Ch) (ch : Int) : peek (fun k => older F (f k)) ch = older F (peek f ch) := by
  unfold peek
  split
  · rfl
  · exact (older_stale rfl).symm
theorem take_same {F : Nat} {f f' : Nat → Ch} {c : Int} (h : peek f c = peek f' c) (q : Int) (xs : List (BitVec 8)) : tcode F f c q xs.length = tcode F f' c q xs.length ∧ peek (taken F f c q xs) c = peek (taken F f' c q xs) c := by
  by_cases hf : Fit c q xs.length
  · obtain ⟨k, rfl⟩ : ∃ k : Nat, c = (k : Int) := ⟨c.toNat, by have := hf.1; omega⟩
    have hk : k < 16 := by have := hf.2.1; omega
    have h2 := h
    rw [peek_in f rfl hk, peek_in f' rfl hk] at h2
    have hkk : (k : Int).toNat = k := by simp
    have e : tcode F f k q xs.length = tcode F f' k q xs.length := by unfold tcode; rw [hkk, h2]
    refine ⟨e, ?_⟩
    unfold taken
    rw [e]
    split
    · rw [peek_in _ rfl hk, peek_in _ rfl hk, hkk, upd_same, upd_same]
    · exact h
  · have e1 : ∀ g : Nat → Ch, tcode F g c q xs.length = 1 := fun g => by unfold tcode; rw [if_pos hf]
    refine ⟨by rw [e1, e1], ?_⟩
    unfold taken
    rw [e1, e1, if_neg (by decide), if_neg (by decide)]
    exact h
theorem take_other {F : Nat} {f : Nat → Ch} {c ch : Int} (h : c ≠ ch) (q : Int) (xs : List (BitVec 8)) : peek (taken F f c q xs) ch = peek f ch := by
  unfold taken
  split
  · rename_i h0
    have hf : Fit c q xs.length := by
      apply Classical.byContradiction
      intro hf
      unfold tcode at h0
      rw [if_pos hf] at h0
      cases h0
    unfold peek
    split
    · rw [upd_other _ _ _ (by have := hf.1; omega)]
    · rfl
  · rfl
end Go.Proofs.YtolfdfbhignniaaDoor
/-
  Telegrams as inputs, as plain data: what Decode tells of bytes, what Take and Step make of channels, what is told of the outer world.
-/
namespace Go.Proofs.YtolfdfbhignniaaDoor
open Go.RowKit

/-- What Decode tells of bytes: an error's number, or none; the telegram's channel, number, data. -/
def dcd (b : List (BitVec 8)) : Int × Int × Int × List (BitVec 8) :=
  if opens b = true then
    match front b with
    | x :: y :: z :: xs => if x.toNat ≤ 15 ∧ z.toNat ≤ 16 ∧ xs.length = z.toNat then (0, (x.toNat : Int), (y.toNat : Int), xs) else (2, 0, 0, [])
    | _ => (2, 0, 0, [])
  else (3, 0, 0, [])
theorem dcd_sum {b : List (BitVec 8)} (ho : opens b = false) : dcd b = (3, 0, 0, []) := by unfold dcd; rw [ho]; rfl
theorem dcd_form {b : List (BitVec 8)} (ho : opens b = true) (hf : ¬ Form (front b)) : dcd b = (2, 0, 0, []) := by
  unfold dcd
  rw [if_pos ho]
  split
  · rename_i x y z xs he
    rw [if_neg (fun h => hf (by rw [he]; exact h))]
  · rfl
theorem dcd_yes {b : List (BitVec 8)} {x y : BitVec 8} {xs : List (BitVec 8)} (ho : opens b = true) (he : front b = frm x y xs) (hx : x.toNat ≤ 15) (hl : xs.length ≤ 16) : dcd b = (0, (x.toNat : Int), (y.toNat : Int), xs) := by
  have hz : (BitVec.ofNat 8 xs.length).toNat = xs.length := by simp; omega
  unfold dcd
  rw [if_pos ho, he]
  unfold frm
  simp only
  rw [if_pos ⟨hx, by omega, hz.symm⟩]
theorem dcd_sealed (x y : BitVec 8) (xs : List (BitVec 8)) (hx : x.toNat ≤ 15) (hl : xs.length ≤ 16) : dcd (sealed (frm x y xs)) = (0, (x.toNat : Int), (y.toNat : Int), xs) := dcd_yes (opens_sealed _) (front_sealed _) hx hl
/-- Bytes are refused for their sum, for their form, or are a telegram. -/
theorem dcd_ways (b : List (BitVec 8)) : (opens b = false ∧ dcd b = (3, 0, 0, [])) ∨ (opens b = true ∧ ¬ Form (front b) ∧ dcd b = (2, 0, 0, [])) ∨
    ∃ x y xs, opens b = true ∧ front b = frm x y xs ∧ x.toNat ≤ 15 ∧ xs.length ≤ 16 ∧ dcd b = (0, (x.toNat : Int), (y.toNat : Int), xs) := by
  cases ho : opens b with
  | false => exact .inl ⟨rfl, dcd_sum ho⟩
  | true =>
    by_cases hf : Form (front b)
    · obtain ⟨x, y, xs, he, hx, hl⟩ := form_frm hf
      exact .inr (.inr ⟨x, y, xs, rfl, he, hx, hl, dcd_yes ho he hx hl⟩)
    · exact .inr (.inl ⟨rfl, hf, dcd_form ho hf⟩)
theorem dec_to (b : List (BitVec 8)) (hl : b.length ≤ 140737488351232) {k c q : Int} {ys : List (BitVec 8)} (hd : dcd b = (k, c, q, ys)) (u : Value) (w : World) (hu : Byts w u b) :
    Calls Tryd.prog 46 #[u] w fun e w' => ∃ v e2, e = .returned (.tuple #[.agg #[.int .i64 c, .int .i64 q, v], e2]) ∧ Byts w' v ys ∧ ErrV w' e2 k ∧ Below w.heap.size w w' := by
  rcases dcd_ways b with ⟨ho, h1⟩ | ⟨ho, hf, h1⟩ | ⟨x, y, xs, ho, he, hx, hxl, h1⟩
  · rw [h1] at hd; cases hd
    exact (dec_sum u b w hu hl ho).mono fun e w' ⟨g, _, h1, h2, h3⟩ => ⟨_, _, h1, byts_nil _, .inr ⟨g, by decide, rfl, h2⟩, h3⟩
  · rw [h1] at hd; cases hd
    exact (dec_form u b w hu hl ho hf).mono fun e w' ⟨g, _, h1, h2, h3⟩ => ⟨_, _, h1, byts_nil _, .inr ⟨g, by decide, rfl, h2⟩, h3⟩
  · rw [h1] at hd; cases hd
    exact (dec_yes u b x y _ w hu hl ho he hx hxl).mono fun e w' ⟨v, h1, h2, h3⟩ => ⟨v, _, h1, h2, .inl ⟨rfl, rfl⟩, h3⟩
theorem rdec_to (b : List (BitVec 8)) (hl : b.length ≤ 140737488351232) {k c q : Int} {ys : List (BitVec 8)} (hd : dcd b = (k, c, q, ys)) (u : Value) (w : World) (hu : Byts w u b) :
    Calls Tryd.prog 49 #[u] w fun e w' => ∃ v, e = .returned (.tuple #[.agg #[.int .i64 c, .int .i64 q, v], .int .i64 k]) ∧ Byts w' v ys ∧ Below w.heap.size w w' := by
  rcases dcd_ways b with ⟨ho, h1⟩ | ⟨ho, hf, h1⟩ | ⟨x, y, xs, ho, he, hx, hxl, h1⟩
  · rw [h1] at hd; cases hd
    exact (rdec_sum u b w hu hl ho).mono fun e w' ⟨h1, h3⟩ => ⟨_, h1, byts_nil _, h3⟩
  · rw [h1] at hd; cases hd
    exact (rdec_form u b w hu hl ho hf).mono fun e w' ⟨h1, h3⟩ => ⟨_, h1, byts_nil _, h3⟩
  · rw [h1] at hd; cases hd
    exact (rdec_yes u b x y _ w hu hl ho he hx hxl).mono fun e w' ⟨v, h1, h2, h3⟩ => ⟨v, h1, h2, h3⟩

/-- The error that Take tells of bytes. -/
def icode (F : Nat) (f : Nat → Ch) (b : List (BitVec 8)) : Int := if (dcd b).1 = 0 then tcode F f (dcd b).2.1 (dcd b).2.2.1 (dcd b).2.2.2.length else (dcd b).1
/-- The channels behind it. -/
def itaken (F : Nat) (f : Nat → Ch) (b : List (BitVec 8)) : Nat → Ch := if (dcd b).1 = 0 then taken F f (dcd b).2.1 (dcd b).2.2.1 (dcd b).2.2.2 else f
theorem icode_yes {F : Nat} {f : Nat → Ch} {b : List (BitVec 8)} {c q : Int} {ys : List (BitVec 8)} (hd : dcd b = (0, c, q, ys)) : icode F f b = tcode F f c q ys.length ∧ itaken F f b = taken F f c q ys := by
  unfold icode itaken; rw [hd]; exact ⟨rfl, rfl⟩
theorem icode_no {F : Nat} {f : Nat → Ch} {b : List (BitVec 8)} {k c q : Int} {ys : List (BitVec 8)} (hd : dcd b = (k, c, q, ys)) (hk : k ≠ 0) : icode F f b = k ∧ itaken F f b = f := by
  unfold icode itaken; rw [hd]; exact ⟨if_neg hk, if_neg hk⟩
/-- What is refused changes nothing, and tells a number of fault's own. -/
theorem icode_off {F : Nat} {f : Nat → Ch} {b : List (BitVec 8)} (h : icode F f b ≠ 0) : itaken F f b = f ∧ icode F f b ≠ 99 := by
  obtain ⟨⟨k, c, q, ys⟩, hd⟩ : ∃ p, dcd b = p := ⟨_, rfl⟩
  by_cases hk : k = 0
  · subst hk
    obtain ⟨h1, h2⟩ := icode_yes (F := F) (f := f) hd
    rw [h1] at h ⊢
    rw [h2]
    refine ⟨by unfold taken; rw [if_neg h], ?_⟩
    unfold tcode
    split
    · decide
    · split <;> decide
  · obtain ⟨h1, h2⟩ := icode_no (F := F) (f := f) hd hk
    refine ⟨h2, ?_⟩
    rw [h1]
    rcases dcd_ways b with ⟨_, h3⟩ | ⟨_, _, h3⟩ | ⟨_, _, _, _, _, _, _, h3⟩ <;> (rw [h3] at hd; cases hd; decide)
/-- The channels behind telegrams, and how many of them were taken. -/
def tks (F : Nat) (s : (Nat → Ch) × Nat) (l : List (List (BitVec 8))) : (Nat → Ch) × Nat := l.foldl (fun s b => (itaken F s.1 b, if icode F s.1 b = 0 then s.2 + 1 else s.2)) s
theorem tks_next (F : Nat) (s : (Nat → Ch) × Nat) (l : List (List (BitVec 8))) (k : Nat) (b : List (BitVec 8)) (h : l[k]? = some b) :
    tks F s (l.take (k + 1)) = (itaken F (tks F s (l.take k)).1 b, if icode F (tks F s (l.take k)).1 b = 0 then (tks F s (l.take k)).2 + 1 else (tks F s (l.take k)).2) := by
  have hk : k < l.length := (List.getElem?_eq_some_iff.1 h).1
  have : l.take (k + 1) = l.take k ++ [b] := by
    rw [List.take_add_one, h]; rfl
  rw [this]
  unfold tks
  rw [List.foldl_append]
  rfl
theorem tks_le (F : Nat) (l : List (List (BitVec 8))) : ∀ s : (Nat → Ch) × Nat, (tks F s l).2 ≤ s.2 + l.length := by
  induction l with
  | nil => intro s; exact Nat.le_refl _
  | cons b t ih =>
    intro s
    have := ih (itaken F s.1 b, if icode F s.1 b = 0 then s.2 + 1 else s.2)
    refine Nat.le_trans this ?_
    simp only [List.length_cons]
    split <;> omega
/-- A step. -/
def stp14 (F : Nat) (f : Nat → Ch) (l : List (List (BitVec 8))) : (Nat → Ch) × Nat := tks F (fun k => older F (f k), 0) l

/-- What is told of the outer world, but for the tracks; then these. -/
structure Dat where
  a : Bool
  b : Bool
  c : Bool
  d : Bool
  s : Bool
  l : Bool
  o : Bool
  m : Int
  mn : Bool
  bt : Bool
  r : Int
  ts : List Ct
/-- The byte that a channel says. -/
def sy (F : Nat) (f : Nat → Ch) (i : Nat) : Int := sone (isF F (f i)) (f i).xs
/-- What the channels tell of t tracks. -/
def tells (F t : Nat) (f : Nat → Ch) : Dat :=
  { a := bt (onl (sy F f 0) 16) 1 && !bt (onl (sy F f 0) 16) 2, b := bt (onl (sy F f 0) 16) 2 && !bt (onl (sy F f 0) 16) 1, c := bt (onl (sy F f 0) 16) 4 && !bt (onl (sy F f 0) 16) 8, d := bt (onl (sy F f 0) 16) 8 && !bt (onl (sy F f 0) 16) 4,
    s := (f 0).had && decide ((f 0).age = 0), l := decide (sy F f 1 = 1), o := decide (sy F f 2 ≠ 0), m := if 0 ≤ sy F f 3 ∧ sy F f 3 < 3 then sy F f 3 else 1, mn := bt (onl (sy F f 4) 4) 1, bt := bt (onl (sy F f 4) 4) 2, r := onl (sy F f 5) (rlim (t : Int)),
    ts := (List.range t).map fun i => cntOf (isF F (f (8 + i))) (f (8 + i)).xs }
end Go.Proofs.YtolfdfbhignniaaDoor
/-
  Channels in an object of their own, as their caller holds them; counts that a call made.
-/
namespace Go.Proofs.YtolfdfbhignniaaDoor
open Go.RowKit

/-- What the caller of a call that began at the world w knows of an object x of type T2, of t tracks, whose channels lie at block b, while it holds I. -/
structure Chs (s : Bool) (T T2 : TypeId) (w : World) (b x F t : Nat) (I : World → (Nat → Ch) → Prop) : Prop where
  lk : ∀ wr f, I wr f → ∃ v D, Lk s wr T b F f v D ∧ ∀ w2 f2, KAfter s T wr w2 b F f2 D → I w2 f2
  bel : ∀ wr f, I wr f → Below w.heap.size w wr
  old : w.heap.size ≤ b
  box : ∀ wr f, I wr f → Blk wr x #[.pointer (some ⟨b, 0, none⟩), .int .i64 (t : Int)] T2
  ne : x ≠ b
  tlim : 1 ≤ t ∧ t ≤ 8
variable {s : Bool} {T T2 : TypeId} {w wr w2 : World} {b x F t : Nat} {I : World → (Nat → Ch) → Prop} {f : Nat → Ch}
theorem Chs.still (C : Chs s T T2 w b x F t I) (h : I wr f) (hb : Below wr.heap.size wr w2) : I w2 f := by
  obtain ⟨v, D, h1, h2⟩ := C.lk wr f h
  exact h2 w2 f ⟨v, D, h1.below hb, fun g hg => .inl hg, Keep.of_below hb⟩
theorem Chs.ok (C : Chs s T T2 w b x F t I) (h : I wr f) (k : Nat) (hk : k < 16) : OkCh F (f k) := let ⟨_, _, h1, _⟩ := C.lk wr f h; h1.ok k hk
theorem Chs.F1 (C : Chs s T T2 w b x F t I) (h : I wr f) : 1 ≤ F ∧ F ≤ 6000 := let ⟨_, _, h1, _⟩ := C.lk wr f h; h1.F1
theorem Chs.blt (C : Chs s T T2 w b x F t I) (h : I wr f) : b < wr.heap.size ∧ x < wr.heap.size := ⟨let ⟨_, _, h1, _⟩ := C.lk wr f h; h1.blt, (C.box wr f h).lt⟩
theorem Chs.two (C : Chs s T T2 w b x F t I) (h : I wr f) : wr.cell? ⟨x, 0, none⟩ = some (.pointer (some ⟨b, 0, none⟩)) ∧ wr.cell? ⟨x, 1, none⟩ = some (.int .i64 (t : Int)) := ⟨(C.box wr f h).cell 0 rfl, (C.box wr f h).cell 1 rfl⟩
/-- An error's block is none of the channels'. -/
theorem Chs.err (C : Chs s T T2 w b x F t I) (h : I wr f) {e : Value} {k : Int} (he : ErrV wr e k) (hk : Keep (fun g => g = b) wr w2) : ErrV w2 e k := by
  obtain ⟨v, D, h1, _⟩ := C.lk wr f h
  rcases he with he | ⟨g, h0, h2, h3⟩
  · exact .inl he
  · exact .inr ⟨g, h0, h2, hk.cell h3 (h1.ne h3)⟩

/-! ### The program's channels -/
theorem Chs.take (C : Chs true 98 T2 w b x F t I) (h : I wr f) (c q : Int) (u : Value) (xs : List (BitVec 8)) (hu : Byts wr u xs) :
    Calls Tryd.prog 48 #[.pointer (some ⟨b, 0, none⟩), .agg #[.int .i64 c, .int .i64 q, u]] wr fun e w' => ∃ e2, e = .returned e2 ∧ ErrV w' e2 (tcode F f c q xs.length) ∧ I w' (taken F f c q xs) ∧ Keep (fun g => g = b) wr w' := by
  obtain ⟨v, D, h1, h2⟩ := C.lk wr f h
  exact (take_any h1 c q u xs hu).mono fun e w' ⟨e2, he, hv, ha⟩ => ⟨e2, he, hv, h2 _ _ ha, let ⟨_, _, _, _, hk⟩ := ha; hk⟩
theorem Chs.tick (C : Chs true 98 T2 w b x F t I) (h : I wr f) :
    Calls Tryd.prog 51 #[.pointer (some ⟨b, 0, none⟩)] wr fun e w' => e = .returned (.tuple #[]) ∧ I w' (fun k => older F (f k)) ∧ Keep (fun g => g = b) wr w' := by
  obtain ⟨v, D, h1, h2⟩ := C.lk wr f h
  exact (tick_any h1).mono fun e w' ⟨he, ha⟩ => ⟨he, h2 _ _ ha, let ⟨_, _, _, _, hk⟩ := ha; hk⟩
theorem Chs.at_ (C : Chs true 98 T2 w b x F t I) (h : I wr f) (ch : Int) (c : Ch) (hc : c = peek f ch) :
    Calls Tryd.prog 57 #[.pointer (some ⟨b, 0, none⟩), .int .i64 ch] wr fun e w' => ∃ r, e = .returned (.agg #[.bool c.had, .int .i64 c.seq, .int .i64 (c.age : Int), r]) ∧ Own w' wr.heap.size r c.xs ∧ Below wr.heap.size wr w' := by
  obtain ⟨v, D, h1, _⟩ := C.lk wr f h
  exact at_any h1 ch c hc
theorem Chs.fresh (C : Chs true 98 T2 w b x F t I) (h : I wr f) (ch : Int) (c : Ch) (hc : c = peek f ch) (r2 : Bool) (hr : isF F c = r2) :
    Calls Tryd.prog 27 #[.pointer (some ⟨b, 0, none⟩), .int .i64 ch] wr fun e w' => ∃ r, e = .returned (.tuple #[r, .bool r2]) ∧ Byts w' r c.xs ∧ Below wr.heap.size wr w' := by
  obtain ⟨v, D, h1, _⟩ := C.lk wr f h
  rw [← hr]
  exact (fresh_any h1 ch c hc).mono fun e w' ⟨r, he, ho, hb⟩ => ⟨r, he, ho.byts, hb⟩

/-! ### The document's -/
theorem Chs.rtake (C : Chs false 100 T2 w b x F t I) (h : I wr f) (c q : Int) (u : Value) (xs : List (BitVec 8)) (hu : Byts wr u xs) :
    Calls Tryd.prog 50 #[.pointer (some ⟨b, 0, none⟩), .agg #[.int .i64 c, .int .i64 q, u]] wr fun e w' => e = .returned (.int .i64 (tcode F f c q xs.length)) ∧ I w' (taken F f c q xs) ∧ Keep (fun g => g = b) wr w' := by
  obtain ⟨v, D, h1, h2⟩ := C.lk wr f h
  exact (rtake_any h1 c q u xs hu).mono fun e w' ⟨he, ha⟩ => ⟨he, h2 _ _ ha, let ⟨_, _, _, _, hk⟩ := ha; hk⟩
theorem Chs.rtick (C : Chs false 100 T2 w b x F t I) (h : I wr f) :
    Calls Tryd.prog 26 #[.pointer (some ⟨b, 0, none⟩)] wr fun e w' => e = .returned (.tuple #[]) ∧ I w' (fun k => older F (f k)) ∧ Keep (fun g => g = b) wr w' := by
  obtain ⟨v, D, h1, h2⟩ := C.lk wr f h
  exact (rtick_any h1).mono fun e w' ⟨he, ha⟩ => ⟨he, h2 _ _ ha, let ⟨_, _, _, _, hk⟩ := ha; hk⟩
theorem Chs.rat (C : Chs false 100 T2 w b x F t I) (h : I wr f) (ch : Int) (c : Ch) (hc : c = peek f ch) :
    Calls Tryd.prog 43 #[.pointer (some ⟨b, 0, none⟩), .int .i64 ch] wr fun e w' => ∃ r, e = .returned (.agg #[.bool c.had, .int .i64 c.seq, .int .i64 (c.age : Int), r]) ∧ Own w' wr.heap.size r c.xs ∧ Below wr.heap.size wr w' := by
  obtain ⟨v, D, h1, _⟩ := C.lk wr f h
  exact rat_any h1 ch c hc
theorem Chs.rfresh (C : Chs false 100 T2 w b x F t I) (h : I wr f) (ch : Int) (c : Ch) (hc : c = peek f ch) (r2 : Bool) (hr : isF F c = r2) :
    Calls Tryd.prog 36 #[.pointer (some ⟨b, 0, none⟩), .int .i64 ch] wr fun e w' => ∃ r, e = .returned (.tuple #[r, .bool r2]) ∧ Byts w' r c.xs ∧ Below wr.heap.size wr w' := by
  obtain ⟨v, D, h1, _⟩ := C.lk wr f h
  rw [← hr]
  exact (rFresh_any h1 ch c hc).mono fun e w' ⟨r, he, ho, hb⟩ => ⟨r, he, ho.byts, hb⟩

/-! ### Counts that a call made -/
/-- The slice v holds the counts ls, at a block from lo on. -/
def Cnts (w : World) (lo : Nat) (v : Value) (ls : List Ct) : Prop := Els RCt 5 w v ls ∧ ∀ a n c, v = .slice (some a) n c → lo ≤ a.block
theorem Cnts.keep {G : Nat → Prop} {lo : Nat} {v : Value} {ls : List Ct} (h : Cnts w lo v ls) (hk : Keep G w w2) (hG : ∀ g, G g → g < lo) : Cnts w2 lo v ls := by
  obtain ⟨⟨a, c, e, h1⟩, h2⟩ := h
  refine ⟨⟨a, c, e, fun j y hy => ?_⟩, h2⟩
  obtain ⟨g, o, ea, hr⟩ := h1 j y hy
  subst ea
  have := h2 _ _ _ e
  exact ⟨g, o, rfl, hr.keep hk fun hg => by have h3 := hG g hg; simp only at this; omega⟩
theorem Cnts.below {lo : Nat} {v : Value} {ls : List Ct} (h : Cnts w lo v ls) (hb : Below w.heap.size w w2) : Cnts w2 lo v ls := ⟨h.1.below fun _ _ _ hr => hr.below hb, h.2⟩
end Go.Proofs.YtolfdfbhignniaaDoor
/-
  Slices of counts: made, laid, owned, appended to.
-/
namespace Go.Proofs.YtolfdfbhignniaaDoor
open Go.RowKit

theorem infoCt : (Tryd.prog.info? 48).map (fun i => (i.zero, i.size, i.bytes)) = some (some (.agg #[.bool false, .int .i64 0, .int .i64 0, .int .i64 0, .int .i64 0]), 5, 40) := by kernel_rfl
theorem run_make_cnts (n : Nat) (hn : n ≤ 1000) : ∃ M : Array Value, M.size = n * 5 ∧
    ∀ w : World, (Instr.makeSlice 34 (.int .i64 (n : Int)) (.int .i64 (n : Int))).run Tryd.prog w = .ok (.slice (some ⟨w.heap.size, 0, none⟩) n n) (w.alloc (.cells M 48)) := by
  obtain ⟨i0, hi, hz0, hz1, hz2⟩ := info_parts infoCt
  refine ⟨madeCells (Value.agg #[.bool false, .int .i64 0, .int .i64 0, .int .i64 0, .int .i64 0]).cells (n * 5), by rw [size_madeCells], fun w => ?_⟩
  have := run_make (P := Tryd.prog) w 34 48 i0 (.agg #[.bool false, .int .i64 0, .int .i64 0, .int .i64 0, .int .i64 0]) Tryd.underlying34 hi hz0 .i64 .i64 (n : Int) (n : Int) (by omega) (by omega) (by rw [hz2]; omega) (by omega)
  rw [hz1] at this
  simpa using this
/-- A count's cells. -/
def ctl (y : Ct) : List Value := [.bool y.fr, .int .i64 y.i, .int .i64 y.o, .int .i64 y.cs, .int .i64 y.l]
/-- A count's cells in a row. -/
def CtC (M : Array Value) (o : Nat) (y : Ct) : Prop := M[o]? = some (.bool y.fr) ∧ M[o + 1]? = some (.int .i64 y.i) ∧ M[o + 2]? = some (.int .i64 y.o) ∧ M[o + 3]? = some (.int .i64 y.cs) ∧ M[o + 4]? = some (.int .i64 y.l)
def put5 (M : Array Value) (p : Nat) (a b c d e : Value) : Array Value := ((((M.setIfInBounds p a).setIfInBounds (p + 1) b).setIfInBounds (p + 2) c).setIfInBounds (p + 3) d).setIfInBounds (p + 4) e
theorem put5_size (M : Array Value) (p : Nat) (a b c d e : Value) : (put5 M p a b c d e).size = M.size := by simp [put5]
theorem put5_other (M : Array Value) (p q : Nat) (a b c d e : Value) (h : q < p ∨ p + 5 ≤ q) : (put5 M p a b c d e)[q]? = M[q]? := by
  unfold put5
  simp only [Array.getElem?_setIfInBounds]
  rw [if_neg (by omega), if_neg (by omega), if_neg (by omega), if_neg (by omega), if_neg (by omega)]
theorem put5_same (M : Array Value) (p : Nat) (y : Ct) (h : p + 5 ≤ M.size) : CtC (put5 M p (.bool y.fr) (.int .i64 y.i) (.int .i64 y.o) (.int .i64 y.cs) (.int .i64 y.l)) p y := by
  refine ⟨?_, ?_, ?_, ?_, ?_⟩ <;> simp [put5, Array.getElem?_setIfInBounds] <;> omega
/-- A block of n counts, the first j of which are laid. -/
def CtB (w : World) (g n j : Nat) (cs : Nat → Ct) : Prop := ∃ M, Blk w g M 48 ∧ M.size = n * 5 ∧ ∀ i, i < j → CtC M (i * 5) (cs i)
theorem ctB_new (w : World) (n : Nat) (M : Array Value) (hM : M.size = n * 5) (cs : Nat → Ct) : CtB (w.alloc (.cells M 48)) w.heap.size n 0 cs := ⟨M, blk_new w M _, hM, fun i hi => by omega⟩
theorem CtB.store {w : World} {g n j : Nat} {cs : Nat → Ct} (h : CtB w g n j cs) (hj : j < n) (y : Ct) (hy : y = cs j) :
    CtB (((((w.setCell ⟨g, j * 5, none⟩ (.bool y.fr)).setCell ⟨g, j * 5 + 1, none⟩ (.int .i64 y.i)).setCell ⟨g, j * 5 + 2, none⟩ (.int .i64 y.o)).setCell ⟨g, j * 5 + 3, none⟩ (.int .i64 y.cs)).setCell ⟨g, j * 5 + 4, none⟩ (.int .i64 y.l)) g n (j + 1) cs := by
  subst hy
  obtain ⟨M, hM, hs, h⟩ := h
  refine ⟨put5 M (j * 5) (.bool (cs j).fr) (.int .i64 (cs j).i) (.int .i64 (cs j).o) (.int .i64 (cs j).cs) (.int .i64 (cs j).l), ((((hM.set_ _ _).set_ _ _).set_ _ _).set_ _ _).set_ _ _, by rw [put5_size, hs], fun i hi => ?_⟩
  by_cases hij : i < j
  · obtain ⟨h0, h1, h2, h3, h4⟩ := h i hij
    exact ⟨by rw [put5_other _ _ _ _ _ _ _ _ (by omega)]; exact h0, by rw [put5_other _ _ _ _ _ _ _ _ (by omega)]; exact h1, by rw [put5_other _ _ _ _ _ _ _ _ (by omega)]; exact h2,
      by rw [put5_other _ _ _ _ _ _ _ _ (by omega)]; exact h3, by rw [put5_other _ _ _ _ _ _ _ _ (by omega)]; exact h4⟩
  · obtain rfl : i = j := by omega
    exact put5_same M _ _ (by omega)
theorem CtB.spot {w : World} {g n j : Nat} {cs : Nat → Ct} (h : CtB w g n j cs) (hj : j < n) (r : Nat) (hr : r < 5) : (∃ u, w.cell? ⟨g, j * 5 + r, none⟩ = some u) ∧ w.frozen? ⟨g, j * 5 + r, none⟩ = false := by
  obtain ⟨M, hM, hs, _⟩ := h
  exact ⟨⟨_, hM.cell _ (Array.getElem?_eq_getElem (by omega))⟩, hM.frz _⟩
theorem CtB.below {w w' : World} {g n j : Nat} {cs : Nat → Ct} (h : CtB w g n j cs) (hb : Below w.heap.size w w') : CtB w' g n j cs := let ⟨M, h, r⟩ := h; ⟨M, h.below hb, r⟩
theorem CtB.cnts {w : World} {g n lo : Nat} {cs : Nat → Ct} (h : CtB w g n n cs) (hg : lo ≤ g) (l : List Ct) (hl : l.length = n) (he : ∀ i, i < n → l[i]? = some (cs i)) : Cnts w lo (.slice (some ⟨g, 0, none⟩) n n) l := by
  obtain ⟨M, hM, hs, h⟩ := h
  refine ⟨⟨some ⟨g, 0, none⟩, n, by rw [hl], fun j y hy => ⟨g, 0, rfl, ?_⟩⟩, fun a m c e => ?_⟩
  · have hj : j < n := by rw [← hl]; exact (List.getElem?_eq_some_iff.1 hy).1
    rw [he j hj] at hy
    cases hy
    obtain ⟨h0, h1, h2, h3, h4⟩ := h j hj
    rw [Nat.zero_add]
    exact ⟨hM.cell _ h0, hM.cell _ h1, hM.cell _ h2, hM.cell _ h3, hM.cell _ h4⟩
  · cases e; exact hg

/-! Owned counts, behind others. -/
theorem ctl_len (fs : List Ct) : (fs.flatMap ctl).length = fs.length * 5 := by
  induction fs with
  | nil => rfl
  | cons a t ih =>
    rw [List.flatMap_cons, List.length_append, ih, List.length_cons]
    show 5 + t.length * 5 = _
    omega
theorem ctl_at : ∀ (fs : List Ct) (j : Nat) (f : Ct) (r : Nat), r < 5 → fs[j]? = some f → (fs.flatMap ctl)[j * 5 + r]? = (ctl f)[r]?
  | [], j, l, r, _, h => by simp at h
  | c :: t, 0, l, r, hr, h => by
    simp at h
    subst h
    rw [List.flatMap_cons, List.getElem?_append_left (by show 0 * 5 + r < 5; omega), Nat.zero_mul, Nat.zero_add]
  | c :: t, j + 1, l, r, hr, h => by
    have ih := ctl_at t j l r hr (by simpa using h)
    have hl : (ctl c).length = 5 := rfl
    rw [List.flatMap_cons, List.getElem?_append_right (by omega), hl, show (j + 1) * 5 + r - 5 = j * 5 + r by omega]
    exact ih
theorem ctl_one (fs : List Ct) : ∀ u ∈ fs.flatMap ctl, u.oneCell' = true := by
  intro u hu
  obtain ⟨a, _, h⟩ := List.mem_flatMap.1 hu
  simp [ctl] at h
  rcases h with rfl | rfl | rfl | rfl | rfl <;> rfl
/-- The slice v owns the counts fs, at a block from B on. -/
def OwnC (w : World) (B : Nat) (v : Value) (fs : List Ct) : Prop := w.ownsRow B 48 5 v fs.length (fs.flatMap ctl)
theorem ownC_nil (w : World) (B : Nat) : OwnC w B (.slice none 0 0) [] := World.ownsRow_nil w B 48 5
variable {B : Nat} {w w' : World} {v : Value} {fs : List Ct}
theorem OwnC.keep {F : Nat → Prop} (h : OwnC w B v fs) (hk : Keep F w w') (hn : ∀ g, F g → g < B) : OwnC w' B v fs := by
  refine ⟨h.1, ?_⟩
  rcases h.2 with h1 | ⟨g, cap, cur, rfl, hB, hg, rest⟩
  · exact .inl h1
  · refine .inr ⟨g, cap, cur, rfl, hB, ?_, rest⟩
    rw [hk.block g (lt_of_block hg) (fun hF => by have := hn g hF; omega)]; exact hg
theorem OwnC.below (h : OwnC w B v fs) (hb : Below w.heap.size w w') : OwnC w' B v fs := h.keep (F := fun _ => False) (Keep.of_below hb) (fun _ h => h.elim)
theorem OwnC.grown (h : OwnC w B v fs) (hg : w.grownBy w' v.ownBlock) (hB : B ≤ w.heap.size) : Below B w w' := (Below.refl B w).grown hg hB fun k hk => (World.ownsRow.lt h k hk).1
theorem OwnC.cnts (h : OwnC w B v fs) : Cnts w B v fs := by
  rcases h.2 with ⟨rfl, hn⟩ | ⟨g, cap, cur, rfl, hB, hg, hcap, hm, hs, ht⟩
  · obtain rfl := List.length_eq_zero_iff.1 hn
    exact ⟨⟨none, 0, rfl, fun j y h => by cases h⟩, fun a n c e => by cases e⟩
  · refine ⟨⟨some ⟨g, 0, none⟩, cap, rfl, fun j y hy => ⟨g, 0, rfl, ?_⟩⟩, fun a n c e => by cases e; exact hB⟩
    have hk : j < fs.length := (List.getElem?_eq_some_iff.1 hy).1
    have c : ∀ r, r < 5 → w.cell? ⟨g, 0 + j * 5 + r, none⟩ = (ctl y)[r]? := fun r hr => by
      rw [Nat.zero_add, World.ownsRow.cellAt h _ (by omega)]
      exact ctl_at fs j y r hr hy
    exact ⟨c 0 (by decide), c 1 (by decide), c 2 (by decide), c 3 (by decide), c 4 (by decide)⟩
/-- Where counts lie one behind another. -/
theorem elsC_cells {g o m c : Nat} {us : List Ct} (h : Els RCt 5 w (.slice (some ⟨g, o, none⟩) m c) us) : ∀ (j : Nat) u, (us.flatMap ctl)[j]? = some u → w.cell? ((⟨g, o, none⟩ : Addr).add j) = some u := by
  intro j u hu
  rw [plain_add]
  have hj : j < us.length * 5 := by rw [← ctl_len]; exact (List.getElem?_eq_some_iff.1 hu).1
  obtain ⟨a, ha⟩ : ∃ a, us[j / 5]? = some a := ⟨_, List.getElem?_eq_getElem (by omega)⟩
  obtain ⟨g', o', e, h0, h1, h2, h3, h4⟩ := h.at_ ha
  simp only [Option.some.injEq, Addr.mk.injEq] at e
  obtain ⟨rfl, rfl, _⟩ := e
  have hc := ctl_at us (j / 5) a (j % 5) (by omega) ha
  rw [show j / 5 * 5 + j % 5 = j by omega, hu] at hc
  have hcase : j % 5 = 0 ∨ j % 5 = 1 ∨ j % 5 = 2 ∨ j % 5 = 3 ∨ j % 5 = 4 := by omega
  rcases hcase with e | e | e | e | e
  · rw [e] at hc; rw [show o + j = o + j / 5 * 5 by omega, h0]; exact hc.symm
  · rw [e] at hc; rw [show o + j = o + j / 5 * 5 + 1 by omega, h1]; exact hc.symm
  · rw [e] at hc; rw [show o + j = o + j / 5 * 5 + 2 by omega, h2]; exact hc.symm
  · rw [e] at hc; rw [show o + j = o + j / 5 * 5 + 3 by omega, h3]; exact hc.symm
  · rw [e] at hc; rw [show o + j = o + j / 5 * 5 + 4 by omega, h4]; exact hc.symm
/-- One count at the head of a block. -/
theorem elsC_one {w : World} {g : Nat} (y : Ct) (T : TypeId) (hb : Blk w g #[.bool y.fr, .int .i64 y.i, .int .i64 y.o, .int .i64 y.cs, .int .i64 y.l] T) : Els RCt 5 w (.slice (some ⟨g, 0, none⟩) 1 1) [y] := by
  refine ⟨_, 1, rfl, fun j y' hy => ⟨_, _, rfl, ?_⟩⟩
  rcases j with _ | j
  · cases hy
    exact ⟨hb.cell 0 rfl, hb.cell 1 rfl, hb.cell 2 rfl, hb.cell 3 rfl, hb.cell 4 rfl⟩
  · cases hy
/-- A count behind others, at a step of a region that draws its order. -/
theorem step_appC {ops : Array Oper} {o : Oper} {a : Act} {K : Act → World → Prop} {Q : Exit → Act → World → Prop} {E : Prop} (hgd : o.guard = none) (s x : Operand)
    (ho : o.op = .call { callee := .builtin .append, args := #[s, x], argTypes := #[34, 34] })
    (B : Nat) (v : Value) (n : Nat) (fs : List Ct) (hs : a.eval s = v) (hn : n = fs.length) (hown : OwnC w B v fs) (g0 o0 m c : Nat) (us : List Ct) (hx : a.eval x = .slice (some ⟨g0, o0, none⟩) m c) (hm : us.length = m)
    (hu : Els RCt 5 w (.slice (some ⟨g0, o0, none⟩) m c) us) (h0 : 0 < m) (hl : n + m ≤ 1000000) (hB : B ≤ w.heap.size)
    (h : ∀ g cap w', OwnC w' B (.slice (some ⟨g, 0, none⟩) (n + m) cap) (fs ++ us) → Below B w w' → w.grownBy w' v.ownBlock → K (a.put o.dst (.slice (some ⟨g, 0, none⟩) (n + m) cap)) w') :
    if Region.wanted o (yielded ops a.tmps) = true then Oper.wp Tryd.prog o a w K Q else E := by
  obtain ⟨i0, hi, hz0, hz1, hz2⟩ := info_parts infoCt
  refine step_append_lies w hgd s x 34 ho B 48 i0 (.agg #[.bool false, .int .i64 0, .int .i64 0, .int .i64 0, .int .i64 0]) 5 40 Tryd.underlying34 hi hz0 hz1 hz2 rfl (by decide) v n (fs.flatMap ctl) hs (by rw [hn]; exact hown)
    ⟨g0, o0, none⟩ m c (us.flatMap ctl) hx (by rw [ctl_len, hm]) (elsC_cells hu) (ctl_one us) h0 (by unfold maxLen; omega) (by omega) hB _ rfl (fun g cap w' h1 h2 _ _ => h g cap w' ?_ (hown.grown h2 hB) h2)
  unfold OwnC
  rw [List.length_append, List.flatMap_append, hm, ← hn]
  exact h1
end Go.Proofs.YtolfdfbhignniaaDoor
/-
  The document's Now asks six channels into two arrays: what lies in them.
-/
namespace Go.Proofs.YtolfdfbhignniaaDoor
open Go.RowKit

variable {w wr w2 : World} {b x F t : Nat} {I : World → (Nat → Ch) → Prop} {f : Nat → Ch}
theorem Chs.rfar (C : Chs false 100 62 w b x F t I) (h : I wr f) (ch : Int) (c : Ch) (hc : c = peek f ch) (r2 : Bool) (hr : isF F c = r2) :
    Calls Tryd.prog 36 #[.pointer (some ⟨b, 0, none⟩), .int .i64 ch] wr fun e w' => ∃ r, e = .returned (.tuple #[r, .bool r2]) ∧ Far w' wr.heap.size r c.xs ∧ Below wr.heap.size wr w' := by
  obtain ⟨v, D, h1, _⟩ := C.lk wr f h
  rw [← hr]
  exact (rFresh_any h1 ch c hc).mono fun e w' ⟨r, he, ho, hb⟩ => ⟨r, he, ho.far, hb⟩
theorem Far.mono {lo lo' : Nat} {v : Value} {xs : List (BitVec 8)} (h : Far w lo v xs) (hl : lo' ≤ lo) : Far w lo' v xs := ⟨h.1, fun a n c e => (h.2 a n c e).imp id fun h => Nat.le_trans hl h⟩
/-- The first i of six channels' data, and whether these are fresh. -/
def Six (F : Nat) (f : Nat → Ch) (gb go i : Nat) (w : World) : Prop :=
  ∃ B O : List Value, B.length = 6 ∧ O.length = 6 ∧ Blk w gb B.toArray 72 ∧ Blk w go O.toArray 73 ∧ ∀ k, k < i → ∃ v, B[k]? = some v ∧ Far w (go + 1) v (f k).xs ∧ O[k]? = some (.bool (isF F (f k)))
theorem Six.below {gb go i : Nat} (h : Six F f gb go i w) (hb : Below w.heap.size w w2) : Six F f gb go i w2 := by
  obtain ⟨B, O, h1, h2, h3, h4, h5⟩ := h
  exact ⟨B, O, h1, h2, h3.below hb, h4.below hb, fun k hk => let ⟨v, k1, k2, k3⟩ := h5 k hk; ⟨v, k1, k2.below hb, k3⟩⟩
theorem six_new {gb go : Nat} {B O : List Value} (hB : B.length = 6) (hO : O.length = 6) (h1 : Blk w gb B.toArray 72) (h2 : Blk w go O.toArray 73) : Six F f gb go 0 w := ⟨B, O, hB, hO, h1, h2, fun k hk => by omega⟩
theorem Six.spot {gb go i : Nat} (h : Six F f gb go i w) (k : Nat) (hk : k < 6) : (∃ u, w.cell? ⟨gb, k, none⟩ = some u) ∧ w.frozen? ⟨gb, k, none⟩ = false ∧ (∃ u, w.cell? ⟨go, k, none⟩ = some u) ∧ w.frozen? ⟨go, k, none⟩ = false := by
  obtain ⟨B, O, h1, h2, h3, h4, h5⟩ := h
  exact ⟨⟨_, h3.cell k (by rw [List.getElem?_toArray]; exact List.getElem?_eq_getElem (by omega))⟩, h3.frz k, ⟨_, h4.cell k (by rw [List.getElem?_toArray]; exact List.getElem?_eq_getElem (by omega))⟩, h4.frz k⟩
theorem Six.store {gb go i : Nat} (h : Six F f gb go i w) (hi : i < 6) (hlt : gb < go) (v : Value) (r : Bool) (hv : Far w (go + 1) v (f i).xs) (hr : isF F (f i) = r) :
    Six F f gb go (i + 1) ((w.setCell ⟨gb, i, none⟩ v).setCell ⟨go, i, none⟩ (.bool r)) := by
  obtain ⟨B, O, h1, h2, h3, h4, h5⟩ := h
  have K : Keep (fun z => z = gb ∨ z = go) w ((w.setCell ⟨gb, i, none⟩ v).setCell ⟨go, i, none⟩ (.bool r)) := ((Keep.refl _ w).store gb i v (.inl rfl)).store go i (.bool r) (.inr rfl)
  have hG : ∀ z, (z = gb ∨ z = go) → z < go + 1 := fun z hz => by omega
  have e3 := (h3.set_ i v).far go i (.bool r) (by omega)
  have e4 := (h4.far gb i v (by omega)).set_ i (.bool r)
  rw [List.setIfInBounds_toArray] at e3 e4
  refine ⟨B.set i v, O.set i (.bool r), by simpa using h1, by simpa using h2, e3, e4, fun k hk => ?_⟩
  by_cases e : k = i
  · subst e
    exact ⟨v, by rw [List.getElem?_set_self (by omega)], hv.keep K hG, by rw [List.getElem?_set_self (by omega), hr]⟩
  · obtain ⟨u, k1, k2, k3⟩ := h5 k (by omega)
    exact ⟨u, by rw [List.getElem?_set_ne (by omega)]; exact k1, k2.keep K hG, by rw [List.getElem?_set_ne (by omega)]; exact k3⟩
/-- The six, one by one. -/
theorem Six.get {gb go : Nat} (h : Six F f gb go 6 w) (k : Nat) (hk : k < 6) (r : Bool) (hr : isF F (f k) = r) : ∃ v, w.cell? ⟨gb, k, none⟩ = some v ∧ w.cell? ⟨go, k, none⟩ = some (.bool r) ∧ Byts w v (f k).xs := by
  obtain ⟨B, O, h1, h2, h3, h4, h5⟩ := h
  obtain ⟨v, k1, k2, k3⟩ := h5 k hk
  exact ⟨v, h3.cell k (by rw [List.getElem?_toArray]; exact k1), by rw [h4.cell k (by rw [List.getElem?_toArray]; exact k3), hr], k2.1⟩
theorem Blk.low {B g : Nat} {C : Array Value} {T : TypeId} (h : Blk w g C T) (hb : Below B w w2) (hg : g < B) : Blk w2 g C T := (hb.block g hg).trans h
end Go.Proofs.YtolfdfbhignniaaDoor

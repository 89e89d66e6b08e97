/-
  Two rows of channels side by side: the program's, the document's.
-/
import Derived.Test.YtmfgfjkpijmgoaaDoorLnk
import Derived.Test.YtmfgfjkpijmgoaaDoorRlkC
namespace Go.Proofs.YtmfgfjkpijmgoaaDoor
open Go.RowKit

theorem rtake_any {w : World} {b F : Nat} {f : Nat → Ch} {v : Nat → Value} {D : Nat → Prop} (h : Lk false w 57 b F f v D) (c q : Int) (u : Value) (xs : List (BitVec 8)) (hu : Byts w u xs) :
    Calls Tryd.prog 16 #[.pointer (some ⟨b, 0, none⟩), .agg #[.int .i64 c, .int .i64 q, u]] w fun e w' => e = .returned (.int .i64 (tcode F f c q xs.length)) ∧ RlkAfter w w' b F (taken F f c q xs) D := by
  have stays : ∀ w', Below w.heap.size w w' → RlkAfter w w' b F f D := fun w' hb => ⟨v, D, h.below hb, fun g hg => .inl hg, Keep.of_below hb⟩
  by_cases hn : Fit c q xs.length
  · have hn' := hn
    obtain ⟨h1, h2, h3, h4, h5⟩ := hn'
    obtain ⟨k, hk⟩ : ∃ k : Nat, c = (k : Int) := ⟨c.toNat, by omega⟩
    subst hk
    have hk : k < 16 := by omega
    have hkk : (k : Int).toNat = k := by simp
    by_cases ho : isF F (f k) = true ∧ follows q (f k).seq = false
    · have e0 : tcode F f k q xs.length = 4 := by unfold tcode; rw [if_neg (by simpa using hn), hkk, if_pos ho]
      unfold taken
      rw [e0, if_neg (by decide)]
      exact (rtake_old h k hk q u xs hu ⟨h3, h4⟩ h5 ho.1 ho.2).mono fun e w' ⟨he, hb⟩ => ⟨he, stays w' hb⟩
    · have e0 : tcode F f k q xs.length = 0 := by unfold tcode; rw [if_neg (by simpa using hn), hkk, if_neg ho]
      unfold taken
      rw [e0, if_pos rfl, hkk]
      exact rtake_main h k hk q u xs hu ⟨h3, h4⟩ h5 (isF F (f k)) rfl (fun hf => by
        cases hfo : follows q (f k).seq with
        | true => rfl
        | false => exact absurd ⟨hf, hfo⟩ ho)
  · have e0 : tcode F f c q xs.length = 1 := by unfold tcode; rw [if_pos hn]
    unfold taken
    rw [e0, if_neg (by decide)]
    exact (rtake_arg (b := b) c q u xs hu hn).mono fun e w' ⟨he, hb⟩ => ⟨he, stays w' hb⟩

/-- Channels f behind a call; nothing older has changed but their block. -/
def KAfter (s : Bool) (T : TypeId) (w w' : World) (b F : Nat) (f : Nat → Ch) (D : Nat → Prop) : Prop := ∃ v D', Lk s w' T b F f v D' ∧ (∀ g, D' g → D g ∨ w.heap.size ≤ g) ∧ Keep (fun g => g = b) w w'
/-- Two rows of channels, of a call that began at the world w; blocks of X are that call's own, and none of theirs. -/
def Twx (X : Nat → Prop) (s s' : Bool) (T T' : TypeId) (w wr : World) (F b : Nat) (f : Nat → Ch) (b' : Nat) (f' : Nat → Ch) : Prop :=
  ∃ v D v' D', Lk s wr T b F f v D ∧ Lk s' wr T' b' F f' v' D' ∧ Below w.heap.size w wr ∧ (w.heap.size ≤ b ∧ w.heap.size ≤ b') ∧ (∀ g, D g → w.heap.size ≤ g ∧ g ≠ b') ∧ (∀ g, D' g → w.heap.size ≤ g ∧ g ≠ b) ∧ b ≠ b' ∧
    ∀ g, X g → w.heap.size ≤ g ∧ g < wr.heap.size ∧ g ≠ b ∧ g ≠ b' ∧ ¬ D g ∧ ¬ D' g
abbrev Tw (s s' : Bool) (T T' : TypeId) (w wr : World) (F b : Nat) (f : Nat → Ch) (b' : Nat) (f' : Nat → Ch) : Prop := Twx (fun _ => False) s s' T T' w wr F b f b' f'
variable {X : Nat → Prop} {s s' : Bool} {T T' : TypeId} {w wr w2 : World} {F b b' : Nat} {f f' f2 : Nat → Ch}
theorem Twx.swap (h : Twx X s s' T T' w wr F b f b' f') : Twx X s' s T' T w wr F b' f' b f := by
  obtain ⟨v, D, v', D', h1, h2, h3, h4, h5, h6, h7, h8⟩ := h
  exact ⟨v', D', v, D, h2, h1, h3, h4.symm, h6, h5, fun e => h7 e.symm, fun g hg => let ⟨x1, x2, x3, x4, x5, x6⟩ := h8 g hg; ⟨x1, x2, x4, x3, x6, x5⟩⟩
theorem Twx.bel (h : Twx X s s' T T' w wr F b f b' f') : Below w.heap.size w wr := by
  obtain ⟨v, D, v', D', h1, h2, h3, _⟩ := h
  exact h3
theorem Twx.still (h : Twx X s s' T T' w wr F b f b' f') (hb : Below wr.heap.size wr w2) : Twx X s s' T T' w w2 F b f b' f' := by
  obtain ⟨v, D, v', D', h1, h2, h3, h4, h5, h6, h7, h8⟩ := h
  exact ⟨v, D, v', D', h1.below hb, h2.below hb, below_call h3 hb, h4, h5, h6, h7, fun g hg => let ⟨x1, x2, x3⟩ := h8 g hg; ⟨x1, by have := hb.size; omega, x3⟩⟩
theorem Twx.drop (h : Twx X s s' T T' w wr F b f b' f') : Tw s s' T T' w wr F b f b' f' := by
  obtain ⟨v, D, v', D', h1, h2, h3, h4, h5, h6, h7, h8⟩ := h
  exact ⟨v, D, v', D', h1, h2, h3, h4, h5, h6, h7, fun g hg => hg.elim⟩
theorem Twx.blt (h : Twx X s s' T T' w wr F b f b' f') : b < wr.heap.size ∧ b' < wr.heap.size := by
  obtain ⟨v, D, v', D', h1, h2, _⟩ := h
  exact ⟨h1.blt, h2.blt⟩
/-- Blocks that were made since. -/
theorem Twx.own (h : Twx X s s' T T' w wr F b f b' f') (hb : Below wr.heap.size wr w2) (Y : Nat → Prop) (hY : ∀ g, Y g → wr.heap.size ≤ g ∧ g < w2.heap.size) : Twx Y s s' T T' w w2 F b f b' f' := by
  obtain ⟨v, D, v', D', h1, h2, h3, h4, h5, h6, h7, h8⟩ := h
  refine ⟨v, D, v', D', h1.below hb, h2.below hb, below_call h3 hb, h4, h5, h6, h7, fun g hg => ?_⟩
  obtain ⟨y1, y2⟩ := hY g hg
  have := h3.size
  have := h1.blt
  have := h2.blt
  exact ⟨by omega, y2, by omega, by omega, fun hd => by have := (h1.lt g hd).1; omega, fun hd => by have := (h2.lt g hd).1; omega⟩
/-- A store into a block of the call's own. -/
theorem Twx.store (h : Twx X s s' T T' w wr F b f b' f') {g : Nat} (hg : X g) (o : Nat) (u : Value) : Twx X s s' T T' w (wr.setCell ⟨g, o, none⟩ u) F b f b' f' := by
  obtain ⟨v, D, v', D', h1, h2, h3, h4, h5, h6, h7, h8⟩ := h
  obtain ⟨x1, x2, x3, x4, x5, x6⟩ := h8 g hg
  have hk : Keep (fun x => x = g) wr (wr.setCell ⟨g, o, none⟩ u) := (Keep.refl (fun x => x = g) wr).store g o u rfl
  exact ⟨v, D, v', D', h1.keep hk (fun e => x3 e.symm) (fun d hd e => x5 (by rw [← e]; exact hd)), h2.keep hk (fun e => x4 e.symm) (fun d hd e => x6 (by rw [← e]; exact hd)), below_keep h3 hk (fun x e => by rw [e]; exact x1), h4, h5, h6, h7, fun x hx => let ⟨z1, z2, z3⟩ := h8 x hx; ⟨z1, by have := hk.size; omega, z3⟩⟩
theorem tw_after {v : Nat → Value} {D : Nat → Prop} {v' : Nat → Value} {D' : Nat → Prop} (h2 : Lk s' wr T' b' F f' v' D') (h3 : Below w.heap.size w wr) (h4 : w.heap.size ≤ b ∧ w.heap.size ≤ b') (h5 : ∀ g, D g → w.heap.size ≤ g ∧ g ≠ b') (h6 : ∀ g, D' g → w.heap.size ≤ g ∧ g ≠ b) (h7 : b ≠ b')
    (h8 : ∀ g, X g → w.heap.size ≤ g ∧ g < wr.heap.size ∧ g ≠ b ∧ g ≠ b' ∧ ¬ D g ∧ ¬ D' g) (ha : KAfter s T wr w2 b F f2 D) : Twx X s s' T T' w w2 F b f2 b' f' ∧ Keep (fun g => g = b) wr w2 := by
  have _ := v
  obtain ⟨v2, D2, r1, r2, r3⟩ := ha
  have hs := h3.size
  refine ⟨⟨v2, D2, v', D', r1, h2.keep r3 (fun e => h7 e.symm) (fun g hg e => (h6 g hg).2 e), below_keep h3 r3 (fun g hg => by rw [hg]; exact h4.1), h4, fun g hg => ?_, h6, h7, fun g hg => ?_⟩, r3⟩
  · rcases r2 g hg with h | h
    · exact h5 g h
    · have := h2.blt
      exact ⟨by omega, by omega⟩
  · obtain ⟨x1, x2, x3, x4, x5, x6⟩ := h8 g hg
    exact ⟨x1, by have := r3.size; omega, x3, x4, fun hd => (r2 g hd).elim x5 (fun h => by omega), x6⟩
/-- An error's block is none of the channels'. -/
theorem Lk.ne {v : Nat → Value} {D : Nat → Prop} (h : Lk s wr T b F f v D) {g : Nat} {k : Int} (hc : wr.cell? ⟨g, 1, none⟩ = some (.int .i64 k)) : g ≠ b := by
  rintro rfl
  have := (h.at_ 0 (by omega)).1
  rw [show 1 + 0 * 4 = 1 from rfl, hc] at this
  cases this
theorem Twx.err (h : Twx X s s' T T' w wr F b f b' f') {e : Value} {k : Int} (he : ErrV wr e k) (hk : Keep (fun g => g = b) wr w2) : ErrV w2 e k := by
  obtain ⟨v, D, v', D', h1, _⟩ := h
  rcases he with he | ⟨g, h0, h2, h3⟩
  · exact .inl he
  · exact .inr ⟨g, h0, h2, hk.cell h3 (h1.ne h3)⟩

/-! ### The program's calls on the first -/
theorem tw_tick (h : Twx X true s' 55 T' w wr F b f b' f') :
    Calls Tryd.prog 12 #[.pointer (some ⟨b, 0, none⟩)] wr fun e w' => e = .returned (.tuple #[]) ∧ Twx X true s' 55 T' w w' F b (fun k => older F (f k)) b' f' ∧ Keep (fun g => g = b) wr w' := by
  obtain ⟨v, D, v', D', h1, h2, h3, h4, h5, h6, h7, h8⟩ := h
  exact (tick_any h1).mono fun e w' ⟨he, ha⟩ => ⟨he, tw_after (v := v) h2 h3 h4 h5 h6 h7 h8 ha⟩
theorem tw_take (h : Twx X true s' 55 T' w wr F b f b' f') (c q : Int) (u : Value) (xs : List (BitVec 8)) (hu : Byts wr u xs) :
    Calls Tryd.prog 15 #[.pointer (some ⟨b, 0, none⟩), .agg #[.int .i64 c, .int .i64 q, u]] wr fun e w' => ∃ e2, e = .returned e2 ∧ ErrV w' e2 (tcode F f c q xs.length) ∧ Twx X true s' 55 T' w w' F b (taken F f c q xs) b' f' ∧ Keep (fun g => g = b) wr w' := by
  obtain ⟨v, D, v', D', h1, h2, h3, h4, h5, h6, h7, h8⟩ := h
  exact (take_any h1 c q u xs hu).mono fun e w' ⟨e2, he, hv, ha⟩ => ⟨e2, he, hv, tw_after (v := v) h2 h3 h4 h5 h6 h7 h8 ha⟩
theorem tw_at (h : Twx X true s' 55 T' w wr F b f b' f') (ch : Int) (c : Ch) (hc : c = peek f ch) :
    Calls Tryd.prog 20 #[.pointer (some ⟨b, 0, none⟩), .int .i64 ch] wr fun e w' => ∃ r, e = .returned (.agg #[.bool c.had, .int .i64 c.seq, .int .i64 (c.age : Int), r]) ∧ Own w' wr.heap.size r c.xs ∧ Twx X true s' 55 T' w w' F b f b' f' ∧ Below wr.heap.size wr w' := by
  have h' := h
  obtain ⟨v, D, v', D', h1, h2⟩ := h
  exact (at_any h1 ch c hc).mono fun e w' ⟨r, he, ho, hb⟩ => ⟨r, he, ho, h'.still hb, hb⟩
theorem tw_fresh (h : Twx X true s' 55 T' w wr F b f b' f') (ch : Int) (c : Ch) (hc : c = peek f ch) (r2 : Bool) (hr : r2 = isF F c) :
    Calls Tryd.prog 17 #[.pointer (some ⟨b, 0, none⟩), .int .i64 ch] wr fun e w' => ∃ r, e = .returned (.tuple #[r, .bool r2]) ∧ Own w' wr.heap.size r c.xs ∧ Twx X true s' 55 T' w w' F b f b' f' ∧ Below wr.heap.size wr w' := by
  have h' := h
  obtain ⟨v, D, v', D', h1, h2⟩ := h
  rw [hr]
  exact (fresh_any h1 ch c hc).mono fun e w' ⟨r, he, ho, hb⟩ => ⟨r, he, ho, h'.still hb, hb⟩
/-- A second row. -/
theorem tw_new (h : Ln w wr b F f) (fresh : Int) (hF : (F : Int) = min (max fresh 1) 6000) :
    Calls Tryd.prog 10 #[.int .i64 fresh] wr fun e w' => ∃ b', e = .returned (.pointer (some ⟨b', 0, none⟩)) ∧ Tw true true 55 55 w w' F b f b' (fun _ => noCh) := by
  obtain ⟨v, D, h1, h2, h3, h4⟩ := h
  refine (new_any fresh F hF wr).mono fun e w' ⟨b', he, hle, hl, hb⟩ => ⟨b', he, v, D, _, _, h1.below hb, hl, below_call h2 hb, ⟨h3, by have := h2.size; omega⟩, fun g hg => ⟨h4 g hg, by have := (h1.lt g hg).1; omega⟩, fun g hg => hg.elim, by have := h1.blt; omega, fun g hg => hg.elim⟩

/-! ### The document's calls on the second -/
theorem tw_rnew (h : Ln w wr b F f) (fresh : Int) (hF : (F : Int) = min (max fresh 1) 6000) :
    Calls Tryd.prog 11 #[.int .i64 fresh] wr fun e w' => ∃ b', e = .returned (.pointer (some ⟨b', 0, none⟩)) ∧ Tw true false 55 57 w w' F b f b' (fun _ => noCh) := by
  obtain ⟨v, D, h1, h2, h3, h4⟩ := h
  refine (rnew_any fresh F hF wr).mono fun e w' ⟨b', he, hle, hl, hb⟩ => ⟨b', he, v, D, _, _, h1.below hb, hl, below_call h2 hb, ⟨h3, by have := h2.size; omega⟩, fun g hg => ⟨h4 g hg, by have := (h1.lt g hg).1; omega⟩, fun g hg => hg.elim, by have := h1.blt; omega, fun g hg => hg.elim⟩
theorem tw_rtick (h : Twx X s false T 57 w wr F b f b' f') :
    Calls Tryd.prog 13 #[.pointer (some ⟨b', 0, none⟩)] wr fun e w' => e = .returned (.tuple #[]) ∧ Twx X s false T 57 w w' F b f b' (fun k => older F (f' k)) ∧ Keep (fun g => g = b') wr w' := by
  obtain ⟨v, D, v', D', h1, h2, h3, h4, h5, h6, h7, h8⟩ := h
  refine (rtick_any h2).mono fun e w' ⟨he, ha⟩ => ⟨he, ?_⟩
  have := tw_after (v := v') (s := false) (T := 57) h1 h3 h4.symm h6 h5 (fun e => h7 e.symm) (fun g hg => let ⟨x1, x2, x3, x4, x5, x6⟩ := h8 g hg; ⟨x1, x2, x4, x3, x6, x5⟩) ha
  exact ⟨this.1.swap, this.2⟩
theorem tw_rtake (h : Twx X s false T 57 w wr F b f b' f') (c q : Int) (u : Value) (xs : List (BitVec 8)) (hu : Byts wr u xs) :
    Calls Tryd.prog 16 #[.pointer (some ⟨b', 0, none⟩), .agg #[.int .i64 c, .int .i64 q, u]] wr fun e w' => e = .returned (.int .i64 (tcode F f' c q xs.length)) ∧ Twx X s false T 57 w w' F b f b' (taken F f' c q xs) ∧ Keep (fun g => g = b') wr w' := by
  obtain ⟨v, D, v', D', h1, h2, h3, h4, h5, h6, h7, h8⟩ := h
  refine (rtake_any h2 c q u xs hu).mono fun e w' ⟨he, ha⟩ => ⟨he, ?_⟩
  have := tw_after (v := v') (s := false) (T := 57) h1 h3 h4.symm h6 h5 (fun e => h7 e.symm) (fun g hg => let ⟨x1, x2, x3, x4, x5, x6⟩ := h8 g hg; ⟨x1, x2, x4, x3, x6, x5⟩) ha
  exact ⟨this.1.swap, this.2⟩
theorem tw_rat (h : Twx X s false T 57 w wr F b f b' f') (ch : Int) (c : Ch) (hc : c = peek f' ch) :
    Calls Tryd.prog 21 #[.pointer (some ⟨b', 0, none⟩), .int .i64 ch] wr fun e w' => ∃ r, e = .returned (.agg #[.bool c.had, .int .i64 c.seq, .int .i64 (c.age : Int), r]) ∧ Own w' wr.heap.size r c.xs ∧ Twx X s false T 57 w w' F b f b' f' ∧ Below wr.heap.size wr w' := by
  have h' := h
  obtain ⟨v, D, v', D', h1, h2, _⟩ := h
  exact (rat_any h2 ch c hc).mono fun e w' ⟨r, he, ho, hb⟩ => ⟨r, he, ho, h'.still hb, hb⟩
theorem tw_rfresh (h : Twx X s false T 57 w wr F b f b' f') (ch : Int) (c : Ch) (hc : c = peek f' ch) (r2 : Bool) (hr : r2 = isF F c) :
    Calls Tryd.prog 18 #[.pointer (some ⟨b', 0, none⟩), .int .i64 ch] wr fun e w' => ∃ r, e = .returned (.tuple #[r, .bool r2]) ∧ Own w' wr.heap.size r c.xs ∧ Twx X s false T 57 w w' F b f b' f' ∧ Below wr.heap.size wr w' := by
  have h' := h
  obtain ⟨v, D, v', D', h1, h2, _⟩ := h
  rw [hr]
  exact (rFresh_any h2 ch c hc).mono fun e w' ⟨r, he, ho, hb⟩ => ⟨r, he, ho, h'.still hb, hb⟩

/-! ### What one channel says hangs on it alone -/
theorem peek_older (F : Nat) (f : Nat → Ch) (ch : Int) : peek (fun k => older F (f k)) ch = older F (peek f ch) := by
  unfold peek
  split
  · rfl
  · exact (older_stale rfl).symm
theorem take_same {F : Nat} {f f' : Nat → Ch} {c : Int} (h : peek f c = peek f' c) (q : Int) (xs : List (BitVec 8)) : tcode F f c q xs.length = tcode F f' c q xs.length ∧ peek (taken F f c q xs) c = peek (taken F f' c q xs) c := by
  by_cases hf : Fit c q xs.length
  · obtain ⟨k, rfl⟩ : ∃ k : Nat, c = (k : Int) := ⟨c.toNat, by have := hf.1; omega⟩
    have hk : k < 16 := by have := hf.2.1; omega
    have h2 := h
    rw [peek_in f rfl hk, peek_in f' rfl hk] at h2
    have hkk : (k : Int).toNat = k := by simp
    have e : tcode F f k q xs.length = tcode F f' k q xs.length := by unfold tcode; rw [hkk, h2]
    refine ⟨e, ?_⟩
    unfold taken
    rw [e]
    split
    · rw [peek_in _ rfl hk, peek_in _ rfl hk, hkk, upd_same, upd_same]
    · exact h
  · have e1 : ∀ g : Nat → Ch, tcode F g c q xs.length = 1 := fun g => by unfold tcode; rw [if_pos hf]
    refine ⟨by rw [e1, e1], ?_⟩
    unfold taken
    rw [e1, e1, if_neg (by decide), if_neg (by decide)]
    exact h
theorem take_other {F : Nat} {f : Nat → Ch} {c ch : Int} (h : c ≠ ch) (q : Int) (xs : List (BitVec 8)) : peek (taken F f c q xs) ch = peek f ch := by
  unfold taken
  split
  · rename_i h0
    have hf : Fit c q xs.length := by
      apply Classical.byContradiction
      intro hf
      unfold tcode at h0
      rw [if_pos hf] at h0
      cases h0
    unfold peek
    split
    · rw [upd_other _ _ _ (by have := hf.1; omega)]
    · rfl
  · rfl
end Go.Proofs.YtmfgfjkpijmgoaaDoor

/-
  LkE Lnk Aged: merged.
-/
import Derived.Deep.MidRow
import Derived.Deep.RegionHeld3
import Derived.Test.YtolfdfbhignniaaDoorLkD
/-
  link's Tick by contract.
-/
namespace Go.Proofs.YtolfdfbhignniaaDoor
open Go.RowKit

variable {w w' : World} {b F : Nat} {f : Nat → Ch} {v : Nat → Value} {D : Nat → Prop}
theorem extract4 {C : Array Value} {i : Nat} {a0 a1 a2 a3 : Value} (h0 : C[i]? = some a0) (h1 : C[i + 1]? = some a1) (h2 : C[i + 2]? = some a2) (h3 : C[i + 3]? = some a3) : C.extract i (i + 4) = #[a0, a1, a2, a3] := by
  have hl : i + 3 < C.size := (Array.getElem?_eq_some_iff.1 h3).1
  apply Array.ext_getElem?
  intro j
  rw [Array.getElem?_extract]
  match j with
  | 0 => rw [if_pos (by omega)]; simpa using h0
  | 1 => rw [if_pos (by omega)]; simpa using h1
  | 2 => rw [if_pos (by omega)]; simpa using h2
  | 3 => rw [if_pos (by omega)]; simpa using h3
  | j + 4 => rw [if_neg (by omega)]; simp
theorem aggLk (w : World) : (isAgg 76).run Tryd.prog w = .ok true w := by kernel_rfl
theorem sizeLk (w : World) : (sizeOf 76).run Tryd.prog w = .ok 4 w := by kernel_rfl
theorem index_lk (C : Array Value) (k : Nat) (hk : k < 16) {a0 a1 a2 a3 : Value} (h0 : C[k * 4]? = some a0) (h1 : C[k * 4 + 1]? = some a1) (h2 : C[k * 4 + 2]? = some a2) (h3 : C[k * 4 + 3]? = some a3) (w : World) :
    (Instr.index 96 (.agg C) (.int .i64 (k : Int))).run Tryd.prog w = .ok (.agg #[a0, a1, a2, a3]) w := by
  have hp : (0 : Int) ≤ (k : Int) ∧ (k : Int) < 16 := by omega
  simp [Instr.index, run_underlying Tryd.underlying96, asIntOf, hp, go_sem]
  rw [if_pos (by omega)]
  simp [extract4 h0 h1 h2 h3]
theorem sizeLkA : (Tryd.prog.info? 96).map (·.size) = some 64 := by kernel_rfl
/-- The channels as one value. -/
theorem Lk.all (h : Lk true w 98 b F f v D) : ∃ cs : List Value, cs.length = 64 ∧ w.rangeAt b 1 cs ∧ ∀ k, k < 16 → cs.toArray[k * 4]? = some (.bool (f k).had) ∧ cs.toArray[k * 4 + 1]? = some (.int .i64 (f k).seq) ∧ cs.toArray[k * 4 + 2]? = some (.int .i64 ((f k).age : Int)) ∧ cs.toArray[k * 4 + 3]? = some (v k) := by
  obtain ⟨C, h1, h2, _, h4⟩ := h.row
  refine ⟨(C.extract 1 65).toList, by simp [h2], World.rangeAt_of_block h1 1 64, fun k hk => ?_⟩
  obtain ⟨a0, a1, a2, a3⟩ := h4 k hk
  refine ⟨?_, ?_, ?_, ?_⟩ <;> (rw [Array.toArray_toList, Array.getElem?_extract, if_pos (by omega)]; first | exact a0 | (rw [← Nat.add_assoc]; assumption))
set_option maxHeartbeats 2000000 in
theorem tick_any (h : Lk true w 98 b F f v D) :
    Calls Tryd.prog 51 #[.pointer (some ⟨b, 0, none⟩)] w fun e w' => e = .returned (.tuple #[]) ∧ LkAfter w w' b F (fun k => older F (f k)) D := by
  obtain ⟨cs, hl, hr, hc⟩ := h.all
  have HR := Lib.hid hr
  have HC := Lib.hid hc
  have HZ := Lib.hid (show (Tryd.prog.info? 96).map (·.size) = some cs.length by rw [hl]; exact sizeLkA)
  have HL := Lib.hid h
  have hblt := h.blt
  clear h hl hr hc
  go_enter Tryd.func51, Tryd.ntmps51
  go_wp2_with (with_reducible refine wpList_load_mid rfl _ _ rfl b 1 rfl cs _ HR.out Tryd.underlying96 rfl HZ.out ?_)
  go_loopw [8] (fun u8 wr => ∃ (k : Nat) (v' : Nat → Value), k ≤ 16 ∧ u8 = .int .i64 (k : Int) ∧ Hid (Lk true wr 98 b F (fun j => if j < k then older F (f j) else f j) v' D) ∧ Hid (Keep (fun g => g = b) w wr)) (fun u8 _ => 16 - (intOf u8).toNat)
  case atStart => exact ⟨0, v, by omega, rfl, Lib.hid (by simpa using HL.out), Lib.hid (Keep.refl _ _)⟩
  case round =>
    obtain ⟨k, v', hk, rfl, HLr, HKr⟩ := hrel
    by_cases hlt : k < 16
    · have hlz : (k : Int) < 16 := by omega
      have hk0 : (0 : Int) ≤ (k : Int) := by omega
      obtain ⟨i0, i1, i2, i3⟩ := HC.out k hlt
      have hix := index_lk cs.toArray k hlt i0 i1 i2 i3
      clear i0 i1 i2 i3
      obtain ⟨va, vn, vc, ev⟩ := HL.out.sl k hlt
      rw [ev] at hix
      obtain ⟨ua, un, uc, hu, ho⟩ := older_any F (f k) va vn vc
      have HU := Lib.hid hu
      have HB0 := Lib.hid (below_call (below_alloc (Below.refl _ wr) (.cells #[.bool (f k).had, .int .i64 (f k).seq, .int .i64 ((f k).age : Int), .slice va vn vc] 76)) (bel_drew _))
      have HO := Lib.hid (ho true _ b _ _ _ (HLr.out.below HB0.out))
      have HX := Lib.hid ((blk_new wr #[.bool (f k).had, .int .i64 (f k).seq, .int .i64 ((f k).age : Int), .slice va vn vc] 76).below (bel_drew _))
      obtain ⟨x0, x1, x2, x3⟩ := (blk_new wr #[.bool (f k).had, .int .i64 (f k).seq, .int .i64 ((f k).age : Int), .slice va vn vc] 76).four
      obtain ⟨c', HC'⟩ : ∃ c', Hid (c' = older F (f k)) := ⟨_, Lib.hid rfl⟩
      rw [← HC'.out] at HO HU
      have hbw : b < wr.heap.size := HLr.out.blt
      have HEV := Lib.hid ev
      clear hu ho ev
      go_wp2_with fail
      go_region_held3 (fun w' => w'.cell? ⟨wr.heap.size, 0, none⟩ = some (.bool (f k).had) ∧ w'.cell? ⟨wr.heap.size, 1, none⟩ = some (.int .i64 (f k).seq) ∧ w'.cell? ⟨wr.heap.size, 2, none⟩ = some (.int .i64 ((f k).age : Int)) ∧ w'.cell? ⟨wr.heap.size, 3, none⟩ = some (.slice va vn vc))
        (first | exact ⟨x0, x1, x2, x3⟩ | exact HK.out | exact HKS.out)
        (first
          | (go_at_call 72; (with_reducible refine HO.out.mono ?_); rintro e w3 ⟨rfl, hb⟩
             have HB3 := Lib.hid (below_call HB0.out hb); have HX3 := HX.out.below hb; have HK := Lib.hid HX3.four; have HL3 := Lib.hid (HLr.out.below HB3.out)
             obtain ⟨d0, d1, d2, d3⟩ := HL3.out.at_ k hlt
             have z0 := HL3.out.frz (1 + k * 4); have z1 := HL3.out.frz (1 + k * 4 + 1); have z2 := HL3.out.frz (1 + k * 4 + 2); have z3 := HL3.out.frz (1 + k * 4 + 3)
             have HKS := Lib.hid (((((HX3.far b (1 + k * 4) (.bool c'.had) (by omega)).far b (1 + k * 4 + 1) (.int .i64 c'.seq) (by omega)).far b (1 + k * 4 + 2) (.int .i64 (c'.age : Int)) (by omega)).far b (1 + k * 4 + 3) (.slice ua un uc) (by omega)).four)
             clear hb HX3))
      go_wp2_with fail
      go_roundw
      case rel =>
        have hK3 : Keep (fun g => g = b) w w3 := HKr.out.trans (Keep.of_below (F := fun _ => False) HB3.out) (fun _ h => h.elim)
        have hD : ∀ a n cp, Value.slice va vn vc = .slice (some a) n cp → n = 0 ∨ D a.block := by rw [← HEV.out]; exact HL.out.inD k hlt
        refine ⟨k + 1, upd v' k (.slice ua un uc), by omega, by go_num, Lib.hid ?_, Lib.hid (hK3.trans (keep_put _ b _ _ _ _ _) (fun g h => .inl h))⟩
        refine (HL3.out.put k hlt c' (.slice ua un uc) (by rw [HC'.out]; exact ok_older (HL.out.ok k hlt)) ?_ ?_).ext fun j hj => ?_
        · rcases HU.out with ⟨rfl, rfl, rfl, e⟩ | ⟨rfl, rfl, rfl, e⟩
          · rw [e]
            have := HL.out.dat k hlt (.inl rfl)
            rw [HEV.out] at this
            exact this.keep hK3 fun a n cp e => (hD a n cp e).imp id fun h1 h2 => (HL.out.lt _ h1).2 h2
          · rw [e]; exact byts_nil _
        · rcases HU.out with ⟨rfl, rfl, rfl, e⟩ | ⟨rfl, rfl, rfl, e⟩
          · exact hD
          · intro a n cp e; cases e
        · by_cases e : j = k
          · subst e; rw [upd_same, if_pos (by omega)]; exact HC'.out
          · rw [upd_other _ _ _ e]
            by_cases e2 : j < k
            · rw [if_pos e2, if_pos (by omega)]
            · rw [if_neg e2, if_neg (by omega)]
      case measure => simp [intOf]; omega
    · obtain rfl : k = 16 := by omega
      clear hk hlt
      go_wp2
      go_end0
      refine ⟨rfl, v', D, ?_, fun g hg => .inl hg, HKr.out⟩
      have := HLr.out
      exact this.ext fun j hj => by rw [if_pos hj]
end Go.Proofs.YtolfdfbhignniaaDoor
/-
  The program's channels for a caller of their own: what lies where is hidden.
-/
namespace Go.Proofs.YtolfdfbhignniaaDoor
open Go.RowKit

/-- F, as New reckons it. -/
theorem fresh_nat (fresh : Int) : ∃ F : Nat, (F : Int) = min (max fresh 1) 6000 := ⟨(min (max fresh 1) 6000).toNat, by omega⟩
/-- The error that Take tells. -/
def tcode (F : Nat) (f : Nat → Ch) (c q : Int) (n : Nat) : Int := if ¬ Fit c q n then 1 else if isF F (f c.toNat) = true ∧ follows q (f c.toNat).seq = false then 4 else 0
/-- The channels behind it. -/
def taken (F : Nat) (f : Nat → Ch) (c q : Int) (xs : List (BitVec 8)) : Nat → Ch := if tcode F f c q xs.length = 0 then upd f c.toNat ⟨true, q, 0, xs⟩ else f
theorem take_any {w : World} {b F : Nat} {f : Nat → Ch} {v : Nat → Value} {D : Nat → Prop} (h : Lk true w 98 b F f v D) (c q : Int) (u : Value) (xs : List (BitVec 8)) (hu : Byts w u xs) :
    Calls Tryd.prog 48 #[.pointer (some ⟨b, 0, none⟩), .agg #[.int .i64 c, .int .i64 q, u]] w fun e w' => ∃ e2, e = .returned e2 ∧ ErrV w' e2 (tcode F f c q xs.length) ∧ LkAfter w w' b F (taken F f c q xs) D := by
  have stays : ∀ w', Below w.heap.size w w' → LkAfter w w' b F f D := fun w' hb => ⟨v, D, h.below hb, fun g hg => .inl hg, Keep.of_below hb⟩
  by_cases hn : Fit c q xs.length
  · have hn' := hn
    obtain ⟨h1, h2, h3, h4, h5⟩ := hn'
    obtain ⟨k, hk⟩ : ∃ k : Nat, c = (k : Int) := ⟨c.toNat, by omega⟩
    subst hk
    have hk : k < 16 := by omega
    have hkk : (k : Int).toNat = k := by simp
    cases hf : isF F (f k) with
    | false =>
      have e0 : tcode F f k q xs.length = 0 := by unfold tcode; rw [if_neg (by simpa using hn), hkk, hf]; simp
      unfold taken
      rw [e0, if_pos rfl, hkk]
      exact (take_stale h k hk q u xs hu ⟨h3, h4⟩ h5 hf).mono fun e w' ⟨he, ha⟩ => ⟨_, he, .inl ⟨rfl, rfl⟩, ha⟩
    | true =>
      cases hfo : follows q (f k).seq with
      | true =>
        have e0 : tcode F f k q xs.length = 0 := by unfold tcode; rw [if_neg (by simpa using hn), hkk, hf, hfo]; simp
        unfold taken
        rw [e0, if_pos rfl, hkk]
        exact (take_fresh h k hk q u xs hu ⟨h3, h4⟩ h5 hf hfo).mono fun e w' ⟨he, ha⟩ => ⟨_, he, .inl ⟨rfl, rfl⟩, ha⟩
      | false =>
        have e0 : tcode F f k q xs.length = 4 := by unfold tcode; rw [if_neg (by simpa using hn), hkk, hf, hfo]; simp
        unfold taken
        rw [e0, if_neg (by decide)]
        exact (take_old h k hk q u xs hu ⟨h3, h4⟩ h5 hf hfo).mono fun e w' ⟨g, he, hc, hb⟩ => ⟨_, he, .inr ⟨g, by decide, rfl, hc⟩, stays w' hb⟩
  · have e0 : tcode F f c q xs.length = 1 := by unfold tcode; rw [if_pos hn]
    unfold taken
    rw [e0, if_neg (by decide)]
    exact (take_arg (b := b) c q u xs hu hn).mono fun e w' ⟨g, he, hc, hb⟩ => ⟨_, he, .inr ⟨g, by decide, rfl, hc⟩, stays w' hb⟩

/-- The channels f, fresh for F ticks, of a call that began at the world w. -/
def Ln (w wr : World) (b F : Nat) (f : Nat → Ch) : Prop := ∃ v D, Lk true wr 98 b F f v D ∧ Below w.heap.size w wr ∧ w.heap.size ≤ b ∧ ∀ g, D g → w.heap.size ≤ g
variable {w wr w2 : World} {b F : Nat} {f : Nat → Ch}
theorem Ln.bel (h : Ln w wr b F f) : Below w.heap.size w wr := let ⟨_, _, _, h, _⟩ := h; h
theorem Ln.still (h : Ln w wr b F f) (hb : Below wr.heap.size wr w2) : Ln w w2 b F f := let ⟨v, D, h1, h2, h3, h4⟩ := h; ⟨v, D, h1.below hb, below_call h2 hb, h3, h4⟩
theorem Ln.ok (h : Ln w wr b F f) (k : Nat) (hk : k < 16) : OkCh F (f k) := let ⟨_, _, h, _⟩ := h; h.ok k hk
/-- An error's block is none of the channels'. -/
theorem Ln.ne (h : Ln w wr b F f) {g : Nat} {k : Int} (hc : wr.cell? ⟨g, 1, none⟩ = some (.int .i64 k)) : g ≠ b := by
  rintro rfl
  obtain ⟨_, _, h, _⟩ := h
  have := (h.at_ 0 (by omega)).1
  rw [show 1 + 0 * 4 = 1 from rfl, hc] at this
  cases this
theorem Ln.blt (h : Ln w wr b F f) : b < wr.heap.size := let ⟨_, _, h, _⟩ := h; h.blt
theorem Ln.F1 (h : Ln w wr b F f) : 1 ≤ F ∧ F ≤ 6000 := let ⟨_, _, h, _⟩ := h; h.F1
theorem Ln.after {f' : Nat → Ch} {D : Nat → Prop} (h2 : Below w.heap.size w wr) (h3 : w.heap.size ≤ b) (h4 : ∀ g, D g → w.heap.size ≤ g) (ha : LkAfter wr w2 b F f' D) : Ln w w2 b F f' := by
  obtain ⟨v', D', r1, r2, r3⟩ := ha
  have hs := h2.size
  exact ⟨v', D', r1, below_keep h2 r3 (fun g hg => by rw [hg]; exact h3), h3, fun g hg => (r2 g hg).elim (h4 g) (fun h => by omega)⟩
theorem ln_new (fresh : Int) (F : Nat) (hF : (F : Int) = min (max fresh 1) 6000) (hb : Below w.heap.size w wr) :
    Calls Tryd.prog 24 #[.int .i64 fresh] wr fun e w' => ∃ b, e = .returned (.pointer (some ⟨b, 0, none⟩)) ∧ Ln w w' b F (fun _ => noCh) :=
  (new_any fresh F hF wr).mono fun e w' ⟨b, he, hle, hl, hb2⟩ => ⟨b, he, _, _, hl, below_call hb hb2, by have := hb.size; omega, fun g hg => hg.elim⟩
theorem ln_tick (h : Ln w wr b F f) :
    Calls Tryd.prog 51 #[.pointer (some ⟨b, 0, none⟩)] wr fun e w' => e = .returned (.tuple #[]) ∧ Ln w w' b F (fun k => older F (f k)) ∧ Keep (fun g => g = b) wr w' := by
  obtain ⟨v, D, h1, h2, h3, h4⟩ := h
  exact (tick_any h1).mono fun e w' ⟨he, ha⟩ => ⟨he, Ln.after h2 h3 h4 ha, let ⟨_, _, _, _, hk⟩ := ha; hk⟩
theorem ln_take (h : Ln w wr b F f) (c q : Int) (u : Value) (xs : List (BitVec 8)) (hu : Byts wr u xs) :
    Calls Tryd.prog 48 #[.pointer (some ⟨b, 0, none⟩), .agg #[.int .i64 c, .int .i64 q, u]] wr fun e w' => ∃ e2, e = .returned e2 ∧ ErrV w' e2 (tcode F f c q xs.length) ∧ Ln w w' b F (taken F f c q xs) ∧ Keep (fun g => g = b) wr w' := by
  obtain ⟨v, D, h1, h2, h3, h4⟩ := h
  exact (take_any h1 c q u xs hu).mono fun e w' ⟨e2, he, hv, ha⟩ => ⟨e2, he, hv, Ln.after h2 h3 h4 ha, let ⟨_, _, _, _, hk⟩ := ha; hk⟩
theorem ln_at (h : Ln w wr b F f) (ch : Int) (c : Ch) (hc : c = peek f ch) :
    Calls Tryd.prog 57 #[.pointer (some ⟨b, 0, none⟩), .int .i64 ch] wr fun e w' => ∃ r, e = .returned (.agg #[.bool c.had, .int .i64 c.seq, .int .i64 (c.age : Int), r]) ∧ Own w' wr.heap.size r c.xs ∧ Ln w w' b F f ∧ Below wr.heap.size wr w' := by
  obtain ⟨v, D, h1, h2, h3, h4⟩ := h
  exact (at_any h1 ch c hc).mono fun e w' ⟨r, he, ho, hb⟩ => ⟨r, he, ho, ⟨v, D, h1.below hb, below_call h2 hb, h3, h4⟩, hb⟩
theorem ln_fresh (h : Ln w wr b F f) (ch : Int) (c : Ch) (hc : c = peek f ch) (r2 : Bool) (hr : r2 = isF F c) :
    Calls Tryd.prog 27 #[.pointer (some ⟨b, 0, none⟩), .int .i64 ch] wr fun e w' => ∃ r, e = .returned (.tuple #[r, .bool r2]) ∧ Own w' wr.heap.size r c.xs ∧ Ln w w' b F f ∧ Below wr.heap.size wr w' := by
  obtain ⟨v, D, h1, h2, h3, h4⟩ := h
  rw [hr]
  exact (fresh_any h1 ch c hc).mono fun e w' ⟨r, he, ho, hb⟩ => ⟨r, he, ho, ⟨v, D, h1.below hb, below_call h2 hb, h3, h4⟩, hb⟩
end Go.Proofs.YtolfdfbhignniaaDoor
/-
  A channel some ticks behind its telegram.
-/
namespace Go.Proofs.YtolfdfbhignniaaDoor
open Go.RowKit

def aged (F : Nat) (q : Int) (xs : List (BitVec 8)) (n : Nat) : Ch := ⟨true, q, min n (F + 1), if n ≤ F then xs else []⟩
theorem aged_zero (F : Nat) (q : Int) (xs : List (BitVec 8)) : aged F q xs 0 = ⟨true, q, 0, xs⟩ := by
  unfold aged; rw [if_pos (Nat.zero_le _), Nat.min_eq_left (Nat.zero_le _)]
theorem aged_fresh (F : Nat) (q : Int) (xs : List (BitVec 8)) (n : Nat) : isF F (aged F q xs n) = decide (n ≤ F) := by
  unfold isF aged
  simp only [Bool.true_and, decide_eq_decide]
  omega
theorem older_aged (F : Nat) (q : Int) (xs : List (BitVec 8)) (n : Nat) : older F (aged F q xs n) = aged F q xs (n + 1) := by
  by_cases h : n ≤ F
  · have hf : isF F (aged F q xs n) = true := by rw [aged_fresh]; simpa using h
    have ha : (aged F q xs n).age = n := by unfold aged; simp only; omega
    have hx : (aged F q xs n).xs = xs := by unfold aged; simp only; rw [if_pos h]
    by_cases h2 : n + 1 ≤ F
    · rw [older_stays hf (by rw [ha]; exact h2), ha, hx]
      unfold aged
      rw [if_pos h2, Nat.min_eq_left (a := n + 1) (by omega)]
    · rw [older_ends hf (by rw [ha]; omega), ha]
      unfold aged
      rw [if_neg h2, Nat.min_eq_left (a := n + 1) (by omega)]
  · have hf : isF F (aged F q xs n) = false := by rw [aged_fresh]; simpa using h
    rw [older_stale hf]
    unfold aged
    rw [if_neg h, if_neg (by omega), Nat.min_eq_right (by omega), Nat.min_eq_right (by omega)]
/-- One channel that spoke, and all others not. -/
def one (k : Nat) (c : Ch) : Nat → Ch := upd (fun _ => noCh) k c
theorem older_none (F : Nat) : (fun k => older F ((fun _ : Nat => noCh) k)) = fun _ : Nat => noCh := by funext k; exact older_stale rfl
theorem older_one (F k : Nat) (c : Ch) : (fun j => older F (one k c j)) = one k (older F c) := by
  funext j
  unfold one
  by_cases e : j = k
  · subst e; rw [upd_same, upd_same]
  · rw [upd_other _ _ _ e, upd_other _ _ _ e]; exact older_stale rfl
theorem peek_one (k : Nat) (hk : k < 16) (c : Ch) (ch : Int) (hc : ch = (k : Int)) : peek (one k c) ch = c := by
  rw [peek_in _ hc hk]; exact upd_same _ _ _
theorem one_again (k : Nat) (c c' : Ch) : upd (one k c) k c' = one k c' := by
  funext j
  unfold one
  by_cases e : j = k
  · subst e; rw [upd_same, upd_same]
  · rw [upd_other _ _ _ e, upd_other _ _ _ e, upd_other _ _ _ e]
end Go.Proofs.YtolfdfbhignniaaDoor

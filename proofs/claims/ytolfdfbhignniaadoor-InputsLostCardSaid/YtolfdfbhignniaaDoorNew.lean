/-
  The inputs of a law's own: the program's alone, or beside the document's; Tele; Few.
-/
import Derived.Test.YtolfdfbhignniaaDoorInTk
import Derived.Test.YtolfdfbhignniaaDoorLnAll

namespace Go.Proofs.YtolfdfbhignniaaDoor
open Go.RowKit

variable {w wr w2 : World} {b x b' y F t : Nat} {f f' : Nat → Ch} {E : World → Prop}
/-- The program's inputs x, and what else the law holds. -/
def One (w : World) (b x F t : Nat) (E : World → Prop) (wr : World) (f : Nat → Ch) : Prop := Ln w wr b F f ∧ Blk wr x #[.pointer (some ⟨b, 0, none⟩), .int .i64 (t : Int)] 58 ∧ E wr
theorem chs_one (hb : w.heap.size ≤ b) (hx : x ≠ b) (ht : 1 ≤ t ∧ t ≤ 8) (hE : ∀ wr w2, E wr → Keep (fun g => g = b) wr w2 → E w2) : Chs true 98 58 w b x F t (One w b x F t E) where
  lk wr f h := by
    obtain ⟨⟨v, D, h1, h2, h3, h4⟩, hB, hEE⟩ := h
    exact ⟨v, D, h1, fun w2 f2 ha => ⟨Ln.after h2 h3 h4 ha, hB.keep (let ⟨_, _, _, _, hk⟩ := ha; hk) hx, hE _ _ hEE (let ⟨_, _, _, _, hk⟩ := ha; hk)⟩⟩
  bel wr f h := h.1.bel
  old := hb
  box wr f h := h.2.1
  ne := hx
  tlim := ht
/-- The program's inputs x, the document's y. -/
def Two (w : World) (b x b' y F t : Nat) (wr : World) (f f' : Nat → Ch) : Prop :=
  Tw true false 98 100 w wr F b f b' f' ∧ Blk wr x #[.pointer (some ⟨b, 0, none⟩), .int .i64 (t : Int)] 58 ∧ Blk wr y #[.pointer (some ⟨b', 0, none⟩), .int .i64 (t : Int)] 62
theorem chs_fst (hb : w.heap.size ≤ b) (hx : x ≠ b) (hy : y ≠ b) (ht : 1 ≤ t ∧ t ≤ 8) (f' : Nat → Ch) : Chs true 98 58 w b x F t (fun wr f => Two w b x b' y F t wr f f') where
  lk wr f h := by
    obtain ⟨⟨v, D, v', D', h1, h2, h3, h4, h5, h6, h7, h8⟩, hX, hY⟩ := h
    exact ⟨v, D, h1, fun w2 f2 ha => ⟨(tw_after (v := v) h2 h3 h4 h5 h6 h7 h8 ha).1, hX.keep (let ⟨_, _, _, _, hk⟩ := ha; hk) hx, hY.keep (let ⟨_, _, _, _, hk⟩ := ha; hk) hy⟩⟩
  bel wr f h := h.1.bel
  old := hb
  box wr f h := h.2.1
  ne := hx
  tlim := ht
theorem chs_snd (hb : w.heap.size ≤ b') (hx : x ≠ b') (hy : y ≠ b') (ht : 1 ≤ t ∧ t ≤ 8) (f : Nat → Ch) : Chs false 100 62 w b' y F t (fun wr f' => Two w b x b' y F t wr f f') where
  lk wr f' h := by
    obtain ⟨⟨v, D, v', D', h1, h2, h3, h4, h5, h6, h7, h8⟩, hX, hY⟩ := h
    exact ⟨v', D', h2, fun w2 f2 ha => ⟨(tw_after (v := v') (s := false) (T := 100) h1 h3 h4.symm h6 h5 (fun e => h7 e.symm) (fun g hg => let ⟨x1, x2, x3, x4, x5, x6⟩ := h8 g hg; ⟨x1, x2, x4, x3, x6, x5⟩) ha).1.swap, hX.keep (let ⟨_, _, _, _, hk⟩ := ha; hk) hx, hY.keep (let ⟨_, _, _, _, hk⟩ := ha; hk) hy⟩⟩
  bel wr f h := h.1.bel
  old := hb
  box wr f h := h.2.2
  ne := hy
  tlim := ht
/-- How many tracks there are, as New reckons it. -/
theorem tracks_nat (tracks : Int) : ∃ t : Nat, (t : Int) = min (max tracks 1) 8 ∧ 1 ≤ t ∧ t ≤ 8 := ⟨(min (max tracks 1) 8).toNat, by omega⟩
theorem in_new (tracks fresh : Int) (F t : Nat) (hF : (F : Int) = min (max fresh 1) 6000) (ht : (t : Int) = min (max tracks 1) 8) (hb : Below w.heap.size w wr) :
    Calls Tryd.prog 11 #[.int .i64 tracks, .int .i64 fresh] wr fun e w' => ∃ x, e = .returned (.pointer (some ⟨x, 0, none⟩)) ∧ ∃ b, x ≠ b ∧ w.heap.size ≤ b ∧ Ln w w' b F (fun _ => noCh) ∧ Blk w' x #[.pointer (some ⟨b, 0, none⟩), .int .i64 (t : Int)] 58 ∧ Below wr.heap.size wr w' := by
  have HN : Hid (Calls Tryd.prog 24 #[.int .i64 fresh] wr fun e w' => ∃ b, e = .returned (.pointer (some ⟨b, 0, none⟩)) ∧ w.heap.size ≤ b ∧ Ln w w' b F (fun _ => noCh) ∧ Below wr.heap.size wr w') := Lib.hid ((new_any fresh F hF wr).mono fun e w' ⟨b, he, hle, hl, hb2⟩ => ⟨b, he, by have := hb.size; omega, ⟨_, _, hl, below_call hb hb2, by have := hb.size; omega, fun g hg => hg.elim⟩, hb2⟩)
  have HT := Lib.hid ht
  clear hF ht hb
  go_enter Tryd.func11, Tryd.ntmps11
  go_wp2_with fail
  (with_reducible refine HN.out.mono ?_)
  rintro e w3 ⟨b, rfl, hwb, hl, hb⟩
  have HL := Lib.hid hl
  have HB := Lib.hid hb
  have HWB := Lib.hid hwb
  have HNB := Lib.hid (show w3.heap.size ≠ b by have := hl.blt; omega)
  clear hl hb HN hwb
  go_wp2_with fail
  all_goals
    go_ret
    refine ⟨w3.heap.size, rfl, b, HNB.out, HWB.out, HL.out.still (below_alloc (Below.refl _ w3) _), ?_, below_alloc HB.out _⟩
    have ht := HT.out
    have := blk_new w3 #[.pointer (some ⟨b, 0, none⟩), .int .i64 (t : Int)] 58
    first
      | (rw [show (t : Int) = 1 by omega] at this ⊢; exact this)
      | (rw [show (t : Int) = 8 by omega] at this ⊢; exact this)
      | (rw [show (t : Int) = tracks by omega] at this ⊢; exact this)
theorem rin_new (tracks fresh : Int) (hF : (F : Int) = min (max fresh 1) 6000) (ht : (t : Int) = min (max tracks 1) 8) (h1 : Ln w wr b F f) (h2 : Blk wr x #[.pointer (some ⟨b, 0, none⟩), .int .i64 (t : Int)] 58) (hx : x ≠ b) :
    Calls Tryd.prog 12 #[.int .i64 tracks, .int .i64 fresh] wr fun e w' => ∃ y, e = .returned (.pointer (some ⟨y, 0, none⟩)) ∧ ∃ b', x ≠ b' ∧ y ≠ b ∧ y ≠ b' ∧ w.heap.size ≤ b' ∧ Two w b x b' y F t w' f (fun _ => noCh) := by
  have HN : Hid (Calls Tryd.prog 25 #[.int .i64 fresh] wr fun e w' => ∃ b', e = .returned (.pointer (some ⟨b', 0, none⟩)) ∧ wr.heap.size ≤ b' ∧ Tw true false 98 100 w w' F b f b' (fun _ => noCh) ∧ Below wr.heap.size wr w') := Lib.hid ((rnew_any fresh F hF wr).mono fun e w' ⟨b', he, hle, hl, hb⟩ => by
    obtain ⟨v, D, k1, k2, k3, k4⟩ := h1
    exact ⟨b', he, hle, ⟨v, D, _, _, k1.below hb, hl, below_call k2 hb, ⟨k3, by have := k2.size; omega⟩, fun g hg => ⟨k4 g hg, by have := (k1.lt g hg).1; omega⟩, fun g hg => hg.elim, by have := k1.blt; omega, fun g hg => hg.elim⟩, hb⟩)
  have HT := Lib.hid ht
  have H2 := Lib.hid h2
  have HX := Lib.hid hx
  have HS := Lib.hid h1.bel.size
  clear hF ht h1 h2 hx
  go_enter Tryd.func12, Tryd.ntmps12
  go_wp2_with fail
  (with_reducible refine HN.out.mono ?_)
  rintro e w3 ⟨b', rfl, hle, hl, hb⟩
  have HL := Lib.hid hl
  have H3 := Lib.hid (H2.out.below hb)
  have HLE := Lib.hid hle
  have HNB := Lib.hid (show w3.heap.size ≠ b ∧ w3.heap.size ≠ b' ∧ x ≠ b' ∧ w.heap.size ≤ b' by have := hl.blt; have := H2.out.lt; have := HS.out; omega)
  clear hl hb HN H2 hle
  go_wp2_with fail
  all_goals
    go_ret
    refine ⟨w3.heap.size, rfl, b', HNB.out.2.2.1, HNB.out.1, HNB.out.2.1, HNB.out.2.2.2, HL.out.still (below_alloc (Below.refl _ w3) _), H3.out.below (below_alloc (Below.refl _ w3) _), ?_⟩
    have ht := HT.out
    have := blk_new w3 #[.pointer (some ⟨b', 0, none⟩), .int .i64 (t : Int)] 62
    first
      | (rw [show (t : Int) = 1 by omega] at this ⊢; exact this)
      | (rw [show (t : Int) = 8 by omega] at this ⊢; exact this)
      | (rw [show (t : Int) = tracks by omega] at this ⊢; exact this)
theorem and255' (s : Int) : ∃ q : BitVec 8, bits .and .i64 s 255 = (q.toNat : Int) ∧ (q.toNat : Int) = s % 256 := by
  have h : bits .and .i64 s 255 = s % 256 := by
    show IntKind.i64.wrap ((BitVec.ofInt 64 s &&& BitVec.ofInt 64 255).toNat : Int) = _
    have h1 : (BitVec.ofInt 64 s &&& BitVec.ofInt 64 255).toNat = (BitVec.ofInt 64 s).toNat % 256 := by
      rw [BitVec.toNat_and]
      exact Nat.and_two_pow_sub_one_eq_mod _ 8
    rw [h1, BitVec.toNat_ofInt, IntKind.wrap_i64]
    simp
    omega
  refine ⟨BitVec.ofNat 8 (s % 256).toNat, ?_, ?_⟩
  · rw [h]; simp; omega
  · simp; omega
/-- Tele of a channel's data: the telegram's bytes. -/
theorem tele_to (c : BitVec 8) (s : Int) (u : Value) (xs : List (BitVec 8)) (w : World) (hu : Byts w u xs) (hc : c.toNat ≤ 15) (hl : xs.length ≤ 16) :
    Calls Tryd.prog 23 #[.int .i64 (c.toNat : Int), .int .i64 s, u] w fun e w' => ∃ r q, e = .returned r ∧ Own w' w.heap.size r (sealed (frm c q xs)) ∧ (q.toNat : Int) = s % 256 ∧ Below w.heap.size w w' := by
  obtain ⟨q, hq, hq2⟩ := and255' s
  obtain ⟨au, cu, eu⟩ := hu.len
  have HE := Lib.hid (renc_yes c q u xs w hu hc hl)
  have HQ := Lib.hid hq2
  clear hu hc hl hq2
  subst eu
  obtain ⟨cc, HCC⟩ : ∃ cc : Int, Hid (cc = (c.toNat : Int)) := ⟨_, Lib.hid rfl⟩
  obtain ⟨qq, HQQ⟩ : ∃ qq : Int, Hid (qq = (q.toNat : Int)) := ⟨_, Lib.hid rfl⟩
  obtain ⟨n, HN⟩ : ∃ n, Hid (n = xs.length) := ⟨_, Lib.hid rfl⟩
  rw [← HCC.out, ← HQQ.out, ← HN.out] at HE
  rw [← HQQ.out] at hq
  rw [← HCC.out, ← HN.out]
  go_enter Tryd.func23, Tryd.ntmps23
  go_wp2_with fail
  (with_reducible refine HE.out.mono ?_)
  rintro e w3 ⟨r, rfl, ho, hb⟩
  have HO := Lib.hid ho
  have HB := Lib.hid hb
  clear ho hb
  go_wp2_with fail
  go_ret
  exact ⟨_, q, rfl, HO.out, HQ.out, HB.out⟩
set_option maxHeartbeats 1000000 in
/-- Few tells something of whatever telegrams. -/
theorem few_any (v : Value) (ls : List (List (List (BitVec 8)))) (w : World) (hv : Els RRows 1 w v ls) (hl : ls.length ≤ maxLen) : Calls Tryd.prog 10 #[v] w fun e w' => ∃ r : Bool, e = .returned (.bool r) ∧ w' = w := by
  obtain ⟨a0, c0, ev⟩ := hv.len
  obtain ⟨L, HL⟩ : ∃ L, Hid (L = ls.length) := ⟨_, Lib.hid rfl⟩
  rw [← HL.out] at ev hl
  have HV := Lib.hid hv
  have hl : L ≤ 9223372036854775807 := hl
  have HLL := Lib.hid hl
  clear hv hl
  subst ev
  go_enter Tryd.func10, Tryd.ntmps10
  go_wp2_with fail
  go_loopw [3, 4] (fun u3 u4 wx => ∃ (i : Nat) (n : Int), i ≤ L ∧ u4 = .int .i64 (i : Int) ∧ u3 = .int .i64 n ∧ wx = w) (fun _ u4 _ => L - (intOf u4).toNat)
  case atStart => exact ⟨0, 0, by omega, rfl, rfl, rfl⟩
  case round =>
    obtain ⟨i, n, hi, rfl, rfl, rfl⟩ := hrel
    by_cases hlt : i < L
    · have hlz : (i : Int) < (L : Int) := by omega
      have hi0 : (0 : Int) ≤ (i : Int) := by omega
      obtain ⟨ys, hy⟩ : ∃ ys, ls[i]? = some ys := ⟨_, List.getElem?_eq_getElem (by rw [← HL.out]; exact hlt)⟩
      obtain ⟨g, o, ea, a1, c1, hc, hr, hm⟩ := HV.out.at_ hy
      subst ea
      obtain ⟨M, HM⟩ : ∃ M, Hid (M = ys.length) := ⟨_, Lib.hid rfl⟩
      rw [← HM.out, Nat.mul_one] at hc
      rw [← HM.out] at hr hm
      have hm : M ≤ 9223372036854775807 := hm
      have HR := Lib.hid hr
      have HML := Lib.hid hm
      have HIL := Lib.hid (show (i : Int) + 1 ≤ 9223372036854775807 by have := HLL.out; omega)
      have hw4 : IntKind.i64.wrap ((i : Int) + 1) = (i : Int) + 1 := by have := HIL.out; rw [IntKind.wrap_i64]; omega
      clear hy hr hm
      go_wp2_with fail
      obtain ⟨n2, HN2⟩ : ∃ n2, Hid (n2 = wrap64 (n + (M : Int))) := ⟨_, Lib.hid rfl⟩
      rw [← HN2.out]
      clear HN2
      go_loopw [3, 5] (fun u3 u5 wx => ∃ (k : Nat) (m : Int), k ≤ M ∧ u5 = .int .i64 (k : Int) ∧ u3 = .int .i64 m ∧ wx = wr) (fun _ u5 _ => M - (intOf u5).toNat)
      case atStart => exact ⟨0, _, by omega, rfl, rfl, rfl⟩
      case round =>
        obtain ⟨k, m, hk, rfl, rfl, rfl⟩ := hrel
        by_cases hlk : k < M
        · have hkz : (k : Int) < (M : Int) := by omega
          have hk0 : (0 : Int) ≤ (k : Int) := by omega
          obtain ⟨zs, hz⟩ : ∃ zs, ys[k]? = some zs := ⟨_, List.getElem?_eq_getElem (by rw [← HM.out]; exact hlk)⟩
          obtain ⟨g', o', ea, ⟨a2, c2, hc2, _⟩, _⟩ := HR.out.at_ hz
          subst ea
          rw [Nat.mul_one] at hc2
          have hw5 : IntKind.i64.wrap ((k : Int) + 1) = (k : Int) + 1 := by have := HML.out; rw [IntKind.wrap_i64]; omega
          clear hz
          go_wp2_with fail
          go_roundw
          case rel => exact ⟨k + 1, _, by omega, by go_num, rfl, trivial⟩
          case measure => simp [intOf]; omega
        · have hkz : (M : Int) ≤ (k : Int) := by omega
          go_wp2_with fail
          go_roundw
          case rel => exact ⟨i + 1, _, by omega, by go_num, rfl, trivial⟩
          case measure => simp [intOf]; omega
    · have hlz : (L : Int) ≤ (i : Int) := by omega
      cases h2 : decide ((L : Int) ≤ 200) with
      | true =>
        cases h3 : decide (n ≤ 5000) with
        | true => go_wp2_with fail; go_ret; exact ⟨_, rfl, rfl⟩
        | false => go_wp2_with fail; go_ret; exact ⟨_, rfl, rfl⟩
      | false => go_wp2_with fail; go_ret; exact ⟨_, rfl, rfl⟩
/-- Rows of bytes that lie in no block b. -/
def Rws (b : Nat) (w : World) (v : Value) (ls : List (List (BitVec 8))) : Prop :=
  ∃ a c, v = .slice a ls.length c ∧ ∀ (j : Nat) y, ls[j]? = some y → ∃ g o, a = some ⟨g, o, none⟩ ∧ g ≠ b ∧ ∃ a' c', w.cell? ⟨g, o + j, none⟩ = some (.slice a' y.length c') ∧ Byts w (.slice a' y.length c') y ∧ (∀ p, a' = some p → y.length = 0 ∨ p.block ≠ b) ∧ y.length ≤ 140737488351232
theorem Rws.els {b : Nat} {w : World} {v : Value} {ls : List (List (BitVec 8))} (h : Rws b w v ls) : Els RB 1 w v ls := by
  obtain ⟨a, c, e, h1⟩ := h
  refine ⟨a, c, e, fun j y hy => ?_⟩
  obtain ⟨g, o, ea, _, a', c', k1, k2, _, k3⟩ := h1 j y hy
  exact ⟨g, o, ea, ⟨a', c', by rw [Nat.mul_one]; exact k1, k2⟩, k3⟩
theorem Rws.keep {b : Nat} {w w2 : World} {v : Value} {ls : List (List (BitVec 8))} (h : Rws b w v ls) (hk : Keep (fun g => g = b) w w2) : Rws b w2 v ls := by
  obtain ⟨a, c, e, h1⟩ := h
  refine ⟨a, c, e, fun j y hy => ?_⟩
  obtain ⟨g, o, ea, hg, a', c', k1, k2, k4, k3⟩ := h1 j y hy
  exact ⟨g, o, ea, hg, a', c', hk.cell k1 hg, k2.keep hk fun p n c e => by cases e; exact k4 p rfl, k4, k3⟩
end Go.Proofs.YtolfdfbhignniaaDoor

/-
  Tick, in memory: the time goes on, what is reached goes down, and what fires is told and is armed no more.
-/
import Derived.Test.YtaonnkocopngaaaDoorSink
namespace Go.Proofs.YtaonnkocopngaaaDoor
open Go.RowKit

variable {b tb n now : Nat} {vs vs1 : Nat → Value} {en : Nat → Ent} {S : Nat → List Nat} {w wr : World} {k j : Nat} {t : Nat → Nat}
/-- The timers of L are armed no more. -/
def freed (en : Nat → Ent) (L : List Nat) : Nat → Ent := fun i => if i ∈ L then ⟨false, 0, 0⟩ else en i

theorem freed_nil (en : Nat → Ent) : freed en [] = en := by funext i; simp [freed]
theorem freed_not (en : Nat → Ent) (L : List Nat) (j i : Nat) (hi : L[j]? = some i) (hd : L.Nodup) : freed en (L.take j) i = en i := by
  unfold freed
  rw [if_neg]
  intro hm
  obtain ⟨k, hk, e⟩ := List.mem_take_iff_getElem.1 hm
  obtain ⟨hj, e2⟩ := List.getElem?_eq_some_iff.1 hi
  have := (List.nodup_iff_pairwise_ne.1 hd)
  have := (List.pairwise_iff_getElem.1 this) k j (by omega) hj (by omega)
  exact this (by rw [e, e2])
theorem freed_next (en : Nat → Ent) (L : List Nat) (j i : Nat) (hi : L[j]? = some i) : upd (freed en (L.take j)) i ⟨false, 0, 0⟩ = freed en (L.take (j + 1)) := by
  funext x
  unfold freed
  rw [List.take_add_one, hi]
  by_cases e : x = i
  · subst e; simp [upd_same]
  · rw [upd_other _ _ _ e]; simp [e]
/-- A timer of the pool is laid anew. -/
theorem Wh.setEnt (h : Wh w b tb n now vs en S) {i : Nat} (hi : i < n) (e : Ent) :
    Wh (((w.setCell ⟨tb, i * 3, none⟩ (.bool e.armed)).setCell ⟨tb, i * 3 + 1, none⟩ (.int .i64 e.tag)).setCell ⟨tb, i * 3 + 2, none⟩ (.int .u64 (e.due : Int))) b tb n now vs (upd en i e) S ∧
    Keep (fun g => g = tb) w (((w.setCell ⟨tb, i * 3, none⟩ (.bool e.armed)).setCell ⟨tb, i * 3 + 1, none⟩ (.int .i64 e.tag)).setCell ⟨tb, i * 3 + 2, none⟩ (.int .u64 (e.due : Int))) := by
  have hk : Keep (fun g => g = tb) w (((w.setCell ⟨tb, i * 3, none⟩ (.bool e.armed)).setCell ⟨tb, i * 3 + 1, none⟩ (.int .i64 e.tag)).setCell ⟨tb, i * 3 + 2, none⟩ (.int .u64 (e.due : Int))) :=
    ((Keep.set_ (F := fun g => g = tb) w tb _ _ rfl).trans (Keep.set_ (F := fun g => g = tb) _ tb _ _ rfl) (fun _ h => .inl h)).trans (Keep.set_ (F := fun g => g = tb) _ tb _ _ rfl) (fun _ h => .inl h)
  refine ⟨?_, hk⟩
  obtain ⟨c, h1, h2, h3⟩ := h.ents
  have g1 := heap_setCell_same w tb (i * 3) _ _ (.bool e.armed) h1
  have g2 := heap_setCell_same _ tb (i * 3 + 1) _ _ (.int .i64 e.tag) g1
  have g3 := heap_setCell_same _ tb (i * 3 + 2) _ _ (.int .u64 (e.due : Int)) g2
  obtain ⟨d, e1, er⟩ := h.row
  refine ⟨⟨d, ?_, er⟩, ⟨_, g3, by simpa using h2, fun j hj => ?_⟩, fun k hk' => (h.own k hk').keep hk (fun g hg hb => (h.nb k hk').2 (by rw [hg, hb])), h.ne, h.nb, h.two⟩
  · rw [hk.block b h.blt h.ne]; exact e1
  · simp only [Array.getElem?_setIfInBounds, Array.size_setIfInBounds, h2]
    by_cases eij : j = i
    · subst eij
      rw [upd_same]
      refine ⟨?_, ?_, ?_⟩
      · rw [if_neg (by omega), if_neg (by omega), if_pos rfl, if_pos (by omega)]
      · rw [if_neg (by omega), if_pos rfl, if_pos (by omega)]
      · rw [if_pos rfl, if_pos (by omega)]
    · rw [upd_other _ _ _ eij]
      obtain ⟨a1, a2, a3⟩ := h3 j hj
      refine ⟨?_, ?_, ?_⟩
      · rw [if_neg (by omega), if_neg (by omega), if_neg (by omega)]; exact a1
      · rw [if_neg (by omega), if_neg (by omega), if_neg (by omega)]; exact a2
      · rw [if_neg (by omega), if_neg (by omega), if_neg (by omega)]; exact a3
/-- So far: the first j timers of L were told and are armed no more. -/
def Tick1 (b tb n now : Nat) (vs : Nat → Value) (en : Nat → Ent) (S : Nat → List Nat) (L : List Nat) (wz : World) (j : Nat) (v : Value) (wr : World) : Prop :=
  Wh wr b tb n now vs (freed en (L.take j)) S ∧ Own (Value.int .i64) wr v ((L.take j).map fun i => (en i).tag) ∧ Keep (Fp b tb vs) wz wr ∧ ∀ g, v.ownBlock = some g → wz.heap.size ≤ g

theorem Tick1.here {L : List Nat} {wz : World} {v : Value} (H : Tick1 b tb n now vs en S L wz j v wr) {p : Nat} (hp : p < 256) (hS : S p = L) {i : Nat} (hi : L[j]? = some i) {a : Option Addr} {N cp : Nat} (ev : vs p = .slice a N cp) :
    ∃ g, a = some ⟨g, 0, none⟩ ∧ wr.cell? ⟨g, j, none⟩ = some (.int .i64 (i : Int)) := by
  have ho := H.1.own _ hp
  rw [hS] at ho
  obtain ⟨g, cap, e2, hg, hcell, _⟩ := ho.at_ j i hi
  rw [ev] at e2
  simp only [Value.slice.injEq] at e2
  exact ⟨g, e2.1, hcell⟩

theorem Tick1.grown {L : List Nat} {wz : World} {v : Value} (H : Tick1 b tb n now vs en S L wz j v wr) {en' : Nat → Ent} {now' : Nat} {S' : Nat → List Nat} (hz : Wh wz b tb n now' vs en' S') {w2 w3 : World} (hb : Below wr.heap.size wr w2) (hg : w2.grownBy w3 v.ownBlock) :
    Wh w3 b tb n now vs (freed en (L.take j)) S ∧ Keep (Fp b tb vs) wz w3 := by
  obtain ⟨h1, h2, h3, h4⟩ := H
  have hk : Keep (fun g => v.ownBlock = some g) w2 w3 := Keep.grown hg (fun _ h => h)
  refine ⟨(h1.below hb).keep hk (fun g hf he => ?_), (h3.trans (Keep.of_below (F := fun _ => False) hb) (fun _ h => h.elim)).trans hk (fun g he => .inr (h4 g he))⟩
  have := h4 g he
  have := hz.flt g hf
  omega
theorem Tick1.next {L : List Nat} {wz : World} {v v' : Value} (H : Tick1 b tb n now vs en S L wz j v wr) {en' : Nat → Ent} {now' : Nat} {S' : Nat → List Nat} (hz : Wh wz b tb n now' vs en' S') {w2 w3 : World} (hb : Below wr.heap.size wr w2) {i : Nat} (hi : L[j]? = some i) (hin : i < n)
    (ho : Own (Value.int .i64) w3 v' ((L.take j).map (fun i => (en i).tag) ++ [(en i).tag])) {g : Nat} (hv : v'.ownBlock = some g) (hat : v.ownBlock = some g ∨ g = w2.heap.size)
    (h1 : Wh w3 b tb n now vs (freed en (L.take j)) S ∧ Keep (Fp b tb vs) wz w3) :
    Tick1 b tb n now vs en S L wz (j + 1) v' (((w3.setCell ⟨tb, i * 3, none⟩ (.bool false)).setCell ⟨tb, i * 3 + 1, none⟩ (.int .i64 0)).setCell ⟨tb, i * 3 + 2, none⟩ (.int .u64 0)) := by
  obtain ⟨g1, g2⟩ := h1.1.setEnt hin ⟨false, 0, 0⟩
  have hgz : wz.heap.size ≤ g := by
    rcases hat with h | h
    · exact H.2.2.2 g h
    · have := H.2.2.1.size
      have := hb.size
      omega
  refine ⟨?_, ?_, h1.2.trans g2 (fun x hx => .inl (.inr (.inl hx))), fun x hx => ?_⟩
  · rw [freed_next en L j i hi] at g1; exact g1
  · rw [List.take_add_one, hi, List.map_append]
    refine ho.keep g2 (fun x hx e => ?_)
    rw [hv] at hx
    cases hx
    have := hz.tlt
    omega
  · rw [hv] at hx
    cases hx
    exact hgz
theorem Tick1.done {L : List Nat} {wz : World} {v : Value} (H : Tick1 b tb n now vs en S L wz L.length v wr) {en' : Nat → Ent} {now' : Nat} {S' : Nat → List Nat} (hz : Wh wz b tb n now' vs en' S') {vs0 : Nat → Value} (hk : Keep (Fp b tb vs0) w wz) (hf : ∀ g, Fp b tb vs g → Fp b tb vs0 g ∨ w.heap.size ≤ g) {p : Nat} (hp : p < 256) :
    ∃ v' vs1, v = v' ∧ Own (Value.int .i64) (wr.setCell ⟨b, 2 + p, none⟩ (.slice none 0 0)) v' (L.map fun i => (en i).tag) ∧ Wh (wr.setCell ⟨b, 2 + p, none⟩ (.slice none 0 0)) b tb n now vs1 (freed en L) (upd S p []) ∧ Keep (Fp b tb vs0) w (wr.setCell ⟨b, 2 + p, none⟩ (.slice none 0 0)) ∧ (∀ g, Fp b tb vs1 g → Fp b tb vs0 g ∨ w.heap.size ≤ g) ∧ ∀ g, v'.ownBlock = some g → w.heap.size ≤ g ∧ ¬ Fp b tb vs1 g := by
  obtain ⟨h1, h2, h3, h4⟩ := H
  rw [List.take_length] at h1 h2
  obtain ⟨k1, k2, k3⟩ := h1.setSlot hp (.inl rfl) (World.grownBy.refl wr none) (own_nil nc wr) (.inl rfl)
  have hs := hk.size
  have hs3 := h3.size
  refine ⟨v, _, rfl, h2.keep k2 (fun g hg hfp => ?_), k1, (hk.trans h3 hf).trans k2 hf, fun g hg => ?_, fun g hg => ⟨by have := h4 g hg; omega, fun hfp => ?_⟩⟩
  · have := h4 g hg
    have := hz.flt g hfp
    omega
  · rcases k3 g hg with h | h
    · exact hf g h
    · right; omega
  · have := h4 g hg
    rcases k3 g hfp with h | h
    · have := hz.flt g h
      omega
    · have := h2.lt hg
      omega

set_option maxHeartbeats 2000000 in
theorem tick_mem (h : Wh w b tb n now vs en S) (ht : Tim (now + 1)) (hd : ∀ i, Tim (en i).due) (hS : ∀ j, ∀ i ∈ S j, i < n) (hlen : ∀ j, (S j).length ≤ 100)
    (L : List Nat) (hL : L = sunk S (now + 1) (fun i => (en i).due) ((now + 1) % 64)) (hLn : ∀ i ∈ L, i < n) (hLl : L.length ≤ 1000) (hLd : L.Nodup) :
    Calls Tryd.prog 17 #[.pointer (some ⟨b, 0, none⟩)] w fun e w' => ∃ v, e = .returned v ∧ Own (Value.int .i64) w' v (L.map fun i => (en i).tag) ∧ ∃ vs1,
      Wh w' b tb n (now + 1) vs1 (freed en L) (upd (sunk S (now + 1) fun i => (en i).due) ((now + 1) % 64) []) ∧ Keep (Fp b tb vs) w w' ∧ (∀ g, Fp b tb vs1 g → Fp b tb vs g ∨ w.heap.size ≤ g) ∧ ∀ g, v.ownBlock = some g → w.heap.size ≤ g ∧ ¬ Fp b tb vs1 g := by
  obtain ⟨h0, h1⟩ := h.now_
  have HT := Lib.hid ht
  have hnow : (now : Int) + 1 ≤ 18446744073709551615 := by omega
  have HW := Lib.hid (h.setNow (now + 1))
  have HK := Lib.hid (Keep.set_ (F := Fp b tb vs) w b 0 (.int .u64 ((now + 1 : Nat) : Int)) (.inl rfl))
  have HS := Lib.hid hS
  have HLN := Lib.hid hlen
  have HD := Lib.hid hd
  have HL := Lib.hid hL
  have HLn := Lib.hid hLn
  have HLd := Lib.hid hLd
  rw [show (((now + 1 : Nat)) : Int) = (now : Int) + 1 from rfl] at HW HK
  clear h hS hlen hd hL hLn hLd
  go_enter Tryd.func17, Tryd.ntmps17
  go_wp2_with fail
  (with_reducible refine (sink_any HW.out HT.out HD.out HS.out HLN.out).mono ?_)
  rintro e w1 ⟨rfl, vs1, hw1, hk1, hf1⟩
  obtain ⟨p, HP⟩ : ∃ p, Hid (p = (now + 1) % 64) := ⟨_, Lib.hid rfl⟩
  have hp64 : p < 64 := by have := HP.out; omega
  have hpk : p < 256 := by omega
  obtain ⟨a, cp, ev⟩ := (hw1.own _ hpk).len
  obtain ⟨hc, hcf⟩ := hw1.slot _ hpk
  rw [ev] at hc
  have h0' := hw1.now_.1
  have HW1 := Lib.hid hw1
  have HK1 := Lib.hid (HK.out.trans hk1 (fun _ h => .inl h))
  have HF1 := Lib.hid (foot (F := Fp b tb vs) (G := Fp b tb vs) HK.out (fun _ h => .inl h) hf1)
  have HV := Lib.hid ev
  rw [show sunk S (now + 1) (fun i => (en i).due) p = L by rw [HP.out]; exact HL.out.symm] at hc
  clear hw1 hk1 hf1 ev HW HK h0 h1 HS HLN
  go_wp2_with fail
  go_quiet (first | (go_at_call 34; refine Calls.quiet_of_same (place_any (now + 1) 0 p _ rfl (by decide) (by simpa using HP.out) _ HT.out)))
  have hc1 : (w1.drewN nq).cell? ⟨b, 2 + p, none⟩ = some (.slice a L.length cp) := hc
  have HW2 := Lib.hid (HW1.out.drewN nq)
  have HK2 := Lib.hid (HK1.out.more nq)
  generalize w1.drewN nq = wz at *
  clear hc h0' HW1 HK1
  go_wp2_with fail
  have HZ := Lib.hid (rfl : wz = wz)
  obtain ⟨N, HN⟩ : ∃ N, Hid (N = L.length) := ⟨_, Lib.hid rfl⟩
  rw [← HN.out] at hLl
  simp only [← HN.out]
  go_loopw [4, 30] (fun v i wr => ∃ (j : Nat) (a : Option Addr) (c : Nat), j ≤ N ∧ i = .int .i64 (j : Int) ∧ v = .slice a j c ∧ Hid (Tick1 b tb n (now + 1) vs1 en (sunk S (now + 1) fun i => (en i).due) L wz j v wr)) (fun _ i _ => N - (intOf i).toNat)
  case atStart => exact ⟨0, none, 0, by omega, rfl, rfl, Lib.hid ⟨by rw [List.take_zero, freed_nil]; exact HW2.out, own_nil _ _, Keep.refl _ _, by intro g hg; cases hg⟩⟩
  case round =>
    clear hcf hc1 hnow ht
    obtain ⟨j, a3, c3, hj, rfl, rfl, HI⟩ := hrel
    have HSp := Lib.hid (show sunk S (now + 1) (fun i => (en i).due) p = L by rw [HP.out]; exact HL.out.symm)
    by_cases hlt : j < N
    · obtain ⟨i, hi⟩ : ∃ i, L[j]? = some i := ⟨_, List.getElem?_eq_getElem (by rw [← HN.out]; exact hlt)⟩
      have hin : i < n := HLn.out i (List.mem_of_getElem? hi)
      obtain ⟨g, ea, hcell⟩ := HI.out.here hpk HSp.out hi HV.out
      subst ea
      have htims := HI.out.1.tims
      have htag := (HI.out.1.ent i hin).2.1
      rw [freed_not en L j i hi HLd.out] at htag
      have HII := Lib.hid hi
      clear hi
      obtain ⟨tg, HTG⟩ : ∃ tg, Hid (tg = (en i).tag) := ⟨_, Lib.hid rfl⟩
      rw [← HTG.out] at htag
      have HB3 := Lib.hid (below_alloc (Below.refl wr.heap.size wr) (.cells #[.int .i64 tg] 3))
      have HO3 := Lib.hid (show Own (Value.int .i64) (wr.alloc (.cells #[.int .i64 tg] 3)) (.slice a3 j c3) ((L.take j).map fun i => (en i).tag) from HI.out.2.1.keep (Keep.of_below (F := fun _ => False) HB3.out) (fun _ _ h => h))
      have HY := Lib.hid (show (wr.alloc (.cells #[.int .i64 tg] 3)).cell? ⟨wr.heap.size, 0, none⟩ = some (.int .i64 tg) from by rw [cell_of_row _ _ _ _ _ _ (heap_alloc_new _ _)]; rfl)
      have HM := Lib.hid (show ((L.take j).map fun i => (en i).tag).length = j by rw [List.length_map, List.length_take, ← HN.out]; omega)
      go_wp2_with (at_builtin; refine wpList_app1 (f := Value.int .i64) (fun _ => rfl) rfl _ _ rfl (.slice a3 j c3) ((L.take j).map fun i => (en i).tag) rfl HO3.out ⟨wr.heap.size, 0, none⟩ tg rfl HY.out (by rw [HM.out]; omega) ?_; intro g3 cap3 w3 hown hgr hat hlt3; rw [HM.out] at hown; rw [HM.out]; have HO4 := Lib.hid hown; have HG4 := Lib.hid hgr; have HAT := Lib.hid hat; have HW4 := Lib.hid (HI.out.grown HW2.out HB3.out hgr); have ht4 := HW4.out.1.tims; have hf4 := HW4.out.1.frz; obtain ⟨he0, he1, he2⟩ := HW4.out.1.ent i hin; clear hown hgr hat hlt3)
      have HN4 := Lib.hid (HI.out.next HW2.out HB3.out HII.out hin (by rw [← HTG.out]; exact HO4.out) rfl HAT.out HW4.out)
      go_roundw
      case rel => exact ⟨j + 1, _, _, by omega, by go_num, rfl, HN4⟩
      case measure => simp [intOf]; omega
    · obtain rfl : j = N := by omega
      obtain ⟨hst, hsf⟩ := HI.out.1.slot _ hpk
      have HE := Lib.hid ((show Tick1 b tb n (now + 1) vs1 en (sunk S (now + 1) fun i => (en i).due) L wz L.length (.slice a3 j c3) wr by rw [← HN.out]; exact HI.out).done HW2.out HK2.out HF1.out hpk)
      go_wp2_with fail
      go_ret
      obtain ⟨v', vs2, e, r⟩ := HE.out
      cases e
      rw [← HP.out]
      exact ⟨_, rfl, r.1, _, r.2⟩
end Go.Proofs.YtaonnkocopngaaaDoor

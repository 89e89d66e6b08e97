/-
  Cancel: of a timer that is not armed, and of one that is.
-/
import Derived.Test.YtaonnkocopngaaaDoorDel
namespace Go.Proofs.YtaonnkocopngaaaDoor
open Go.RowKit

variable {b n now : Nat} {A : List Tm} {fp : Nat → Prop} {w w' : World}
theorem cancel_out (h : Wl w b n now A fp) (t : Int) (hno : ∀ a ∈ A, (a.num : Int) ≠ t) :
    Calls Tryd.prog 15 #[.pointer (some ⟨b, 0, none⟩), .int .i64 t] w fun e w' => e = .returned (.bool false) ∧ Below w.heap.size w w' := by
  obtain ⟨tb, vs, en, h1, h2, rfl⟩ := h
  have HC := Lib.hid (fun w1 (hb : Below w.heap.size w w1) => armed_no (h1.below hb) h2 t hno)
  clear h1 h2 hno
  go_enter Tryd.func15, Tryd.ntmps15
  go_wp2_with fail
  (with_reducible refine (HC.out _ (below_alloc (Below.refl _ w) _)).mono ?_)
  rintro e w1 ⟨rfl, rfl⟩
  clear HC
  go_wp2_with fail
  go_ret
  exact ⟨rfl, below_alloc (Below.refl _ w) _⟩
theorem slo_del (f : Tm → Nat) (A : List Tm) (a : Tm) (ha : a ∈ A) (hd : (A.map Tm.num).Nodup) : slo f (A.filter fun c => c.num != a.num) = upd (slo f A) (f a) ((slo f A (f a)).filter fun x => x != a.num) := by
  have key : ∀ c ∈ A, c.num = a.num → c = a := by
    intro c hc e
    obtain ⟨i, hi, ei⟩ := List.mem_iff_getElem.1 ha
    obtain ⟨j, hj, ej⟩ := List.mem_iff_getElem.1 hc
    have h3 := List.pairwise_iff_getElem.1 (List.nodup_iff_pairwise_ne.1 hd)
    rcases Nat.lt_trichotomy i j with c1 | c1 | c1
    · have := h3 i j (by simpa using hi) (by simpa using hj) c1
      simp only [List.getElem_map, ei, ej] at this
      exact absurd e.symm this
    · subst c1; rw [← ej, ei]
    · have := h3 j i (by simpa using hj) (by simpa using hi) c1
      simp only [List.getElem_map, ei, ej] at this
      exact absurd e this
  funext j
  unfold slo
  rw [List.filter_filter]
  by_cases e : j = f a
  · subst e
    rw [upd_same, List.filter_map, List.filter_filter]
    congr 1
    apply List.filter_congr
    intro c _
    rw [Bool.and_comm]
    rfl
  · rw [upd_other _ _ _ e]
    congr 1
    apply List.filter_congr
    intro c hc
    by_cases e2 : c.num = a.num
    · rw [key c hc e2]
      have : (f a == j) = false := beq_false_of_ne (fun h => e h.symm)
      simp [this]
    · simp [e2]
theorem Fits.cancel {en : Nat → Ent} (h : Fits n now A en) (i : Nat) : Fits n now (A.filter fun c => c.num != i) (upd en i ⟨false, 0, 0⟩) := by
  refine ⟨List.Nodup.sublist (List.Sublist.map _ List.filter_sublist) h.nod, fun a ha => h.num a (List.mem_filter.1 ha).1, fun a ha => h.due a (List.mem_filter.1 ha).1, fun a ha => ?_, fun k hk => ?_, h.n64⟩
  · obtain ⟨h1, h2⟩ := List.mem_filter.1 ha
    rw [upd_other _ _ _ (by simpa using h2)]
    exact h.ent a h1
  · by_cases e : k = i
    · subst e; exact upd_same _ _ _
    · rw [upd_other _ _ _ e]
      exact h.free k (fun a ha e2 => hk a (List.mem_filter.2 ⟨ha, by simp [e2, e]⟩) e2)

set_option maxHeartbeats 2000000 in
theorem cancel_in (h : Wl w b n now A fp) (hn : now ≤ 100000000) (a : Tm) (ha : a ∈ A) (t : Int) (ht : t = (a.num : Int)) :
    Calls Tryd.prog 15 #[.pointer (some ⟨b, 0, none⟩), .int .i64 t] w fun e w' => e = .returned (.bool true) ∧ After w w' b n now (A.filter fun c => c.num != a.num) fp := by
  subst ht
  obtain ⟨tb, vs, en, h1, h2, rfl⟩ := h
  have hin := h2.num a ha
  obtain ⟨i, hi⟩ : ∃ i, i = a.num := ⟨_, rfl⟩
  obtain ⟨d, hd⟩ : ∃ d, d = a.due := ⟨_, rfl⟩
  have HAI := Lib.hid hi
  have HAD := Lib.hid hd
  have HF := Lib.hid h2
  have HA := Lib.hid ha
  have hdue := (h2.due a ha).2
  rw [← hi] at hin ⊢
  have hB := below_alloc (Below.refl w.heap.size w) (.cells #[.int .i64 (i : Int)] 3)
  have hc := heap_alloc_new w (.cells #[.int .i64 (i : Int)] 3)
  obtain ⟨W1, hW1⟩ : ∃ W1, W1 = w.alloc (.cells #[.int .i64 (i : Int)] 3) := ⟨_, rfl⟩
  rw [← hW1] at hB hc
  have HC := Lib.hid hc
  have HB := Lib.hid hB
  have HW := Lib.hid (h1.below hB)
  have htm := HW.out.tims
  have he := (HW.out.ent _ hin).2.2
  rw [show en i = ⟨true, a.tag, d⟩ by rw [hi, hd]; exact h2.ent a ha] at he
  have HAR := Lib.hid (show true = (en i).armed by rw [show en i = ⟨true, a.tag, d⟩ by rw [hi, hd]; exact h2.ent a ha])
  have HLT := Lib.hid h1.flt
  have HDT := Lib.hid (show Tim d by rw [hd]; show a.due < _; omega)
  have HNT := Lib.hid (show Tim now by show now < _; omega)
  clear h1 h2 hi hd hc hB ha hdue hn
  go_enter Tryd.func15, Tryd.ntmps15
  go_wp2_with fail
  rw [← hW1]
  have HWW := Lib.hid hW1
  clear hW1
  have hcell : W1.cell? ⟨w.heap.size, 0, none⟩ = some (.int .i64 (i : Int)) := by rw [cell_of_row _ _ _ _ _ _ HC.out]; rfl
  (with_reducible refine (isArmed_in HW.out i _ rfl hin _ HAR.out).mono ?_)
  rintro e w1 ⟨rfl, hw1⟩
  cases hw1
  go_wp2_with fail
  obtain ⟨p, HP⟩ : ∃ p, Hid (p = six now d) := ⟨_, Lib.hid rfl⟩
  have hp : p < 256 := by rw [HP.out]; exact six_lt _ _
  have HSL := Lib.hid (fun nd => slotOf_any (HW.out.drewN nd) d HNT.out HDT.out)
  rw [← HP.out] at HSL
  go_quiet (first | (go_at_call 27; refine Calls.quiet_of (HSL.out _)))
  obtain ⟨L, HL⟩ : ∃ L, Hid (L = slo (fun a => six now a.due) A p) := ⟨_, Lib.hid rfl⟩
  have hiL : i ∈ L := by rw [HL.out]; exact List.mem_map.2 ⟨a, List.mem_filter.2 ⟨HA.out, by rw [HP.out, HAD.out]; simp⟩, HAI.out.symm⟩
  have hlenL : L.length ≤ 1000 := by
    have e1 := slo_len (fun a => six now a.due) A p
    have e2 := HF.out.len
    have e3 := HF.out.n64
    rw [HL.out]
    omega
  have HW2 := Lib.hid (HW.out.drewN nq)
  have hcell2 : (W1.drewN nq).cell? ⟨w.heap.size, 0, none⟩ = some (.int .i64 (i : Int)) := hcell
  have htm2 := HW2.out.tims
  have HBK := Lib.hid ((Keep.of_below (F := Fp b tb vs) HB.out).more nq)
  have hbl : w.heap.size < (W1.drewN nq).heap.size := lt_of_cell hcell2
  have hsz : (W1.drewN nq).heap.size = W1.heap.size := rfl
  generalize W1.drewN nq = wz at *
  have hbw : w.heap.size < wz.heap.size := hbl
  obtain ⟨ho, hsl⟩ := (⟨HW2.out.own p hp, HW2.out.slot p hp⟩ : _ ∧ _)
  rw [← HL.out] at ho
  obtain ⟨g, cp, ev⟩ : ∃ g cp, vs p = .slice (some ⟨g, 0, none⟩) L.length cp := by
    rcases ho.form with ⟨_, h0⟩ | ⟨g, cp, h0, _⟩
    · rw [h0] at hiL; simp at hiL
    · exact ⟨g, cp, h0⟩
  rw [ev] at hsl ho
  obtain ⟨hs1, hs2⟩ := hsl
  have hgp : (vs p).ownBlock = some g := by rw [ev]; rfl
  have hgne : w.heap.size ≠ g := by have := HLT.out g (.inr (.inr ⟨p, hp, hgp⟩)); omega
  have HDC := Lib.hid (del_any (i := i) ho hcell2 hgne hlenL)
  have hbne : b ≠ w.heap.size := by have := HLT.out b (.inl rfl); omega
  have htne : tb ≠ w.heap.size := by have := HLT.out tb (.inr (.inl rfl)); omega
  have HHO := Lib.hid ho
  have HEV := Lib.hid ev
  have HGP := Lib.hid hgp
  have HIL := Lib.hid hiL
  clear hcell htm he hgne hgp ev ho hiL
  go_wp2_with fail
  (with_reducible refine HDC.out.mono ?_)
  rintro e w2 ⟨rfl, ho2, hk2⟩
  obtain ⟨F, hF⟩ : ∃ F, F = L.filter fun x => x != i := ⟨_, rfl⟩
  rw [← hF] at ho2 ⊢
  have hcell3 : w2.cell? ⟨w.heap.size, 0, none⟩ = some (.int .i64 (i : Int)) := by
    rw [World.cell?_of_block (w := wz) (a := ⟨w.heap.size, 0, none⟩) (hk2.block _ hbw (fun (e : w.heap.size = g) => by have := HLT.out g (.inr (.inr ⟨p, hp, HGP.out⟩)); omega))]; exact hcell2
  have hg2 : wz.grownBy w2 (vs p).ownBlock := ⟨hk2.os, hk2.tape, hk2.output, hk2.size, fun k hk hne => hk2.block k hk (fun e => hne (by rw [HGP.out, e]))⟩
  obtain ⟨hst, hsf⟩ := HW2.out.still hp (Below.refl _ wz) hg2
  obtain ⟨s1, s2, s3⟩ := HW2.out.setSlot hp (.inr rfl) hg2 ho2 (.inr (.inl (by rw [HGP.out]; rfl)))
  have hcell4 : (w2.setCell ⟨b, 2 + p, none⟩ (.slice (some ⟨g, 0, none⟩) F.length cp)).cell? ⟨w.heap.size, 0, none⟩ = some (.int .i64 (i : Int)) := by
    rw [World.cell?_of_block (w := w2) (a := ⟨w.heap.size, 0, none⟩) (Below.heap_setCell _ _ _ _ (fun e => hbne e.symm))]; exact hcell3
  have htm4 := s1.tims
  obtain ⟨e0, e1, e2⟩ := s1.ent i hin
  have fz := s1.frz
  have HS1 := Lib.hid s1
  have HS2 := Lib.hid s2
  have HS3 := Lib.hid s3
  have HFF := Lib.hid hF
  clear hs1 hs2 HDC hk2 hg2 s1 s2 s3 hF ho2 hcell2 htm2
  go_wp2_with fail
  generalize w2.setCell ⟨b, 2 + p, none⟩ (.slice (some ⟨g, 0, none⟩) F.length cp) = w4 at *
  go_region
  go_wp2_with fail
  go_ret
  refine ⟨rfl, ?_⟩
  obtain ⟨r1, r2⟩ := HS1.out.setEnt hin ⟨false, 0, 0⟩
  have e3 : upd (slo (fun a => six now a.due) A) p F = slo (fun a => six now a.due) (A.filter fun c => c.num != a.num) := by
    rw [slo_del _ A a HA.out HF.out.nod, HFF.out, HL.out, HAI.out]
    rw [show six now a.due = p by rw [HP.out, HAD.out]]
  rw [e3] at r1
  rw [← HAI.out] at r1
  have hz : w.heap.size ≤ wz.heap.size := by omega
  refine ⟨_, ⟨tb, _, _, r1.drewN 1, HF.out.cancel i, rfl⟩, ?_, fun x hx => ?_⟩
  · exact ((HBK.out.trans HS2.out (fun x hx => .inl hx)).trans r2 (fun x hx => .inl (.inr (.inl hx)))).more 1
  · rcases HS3.out x hx with h | h
    · exact .inl h
    · right; omega
end Go.Proofs.YtaonnkocopngaaaDoor

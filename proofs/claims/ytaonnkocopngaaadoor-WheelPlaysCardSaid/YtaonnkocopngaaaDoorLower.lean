/-
  lower, at each level: the timers of the slot that is reached go down, behind those that lie there.
-/
import Derived.Test.YtaonnkocopngaaaDoorCalls
namespace Go.Proofs.YtaonnkocopngaaaDoor
open Go.RowKit

variable {b tb n now : Nat} {vs vs1 : Nat → Value} {en : Nat → Ent} {S : Nat → List Nat} {w wr : World} {k j : Nat} {t : Nat → Nat}
theorem below_drewN (w : World) (m : Nat) : Below w.heap.size w (w.drewN m) := ⟨rfl, rfl, rfl, Nat.le_refl _, fun _ _ => rfl⟩
/-- What a call leaves that changes slots alone. -/
def Lowered (b tb n now : Nat) (vs : Nat → Value) (en : Nat → Ent) (S : Nat → List Nat) (w w' : World) : Prop :=
  ∃ vs', Wh w' b tb n now vs' en S ∧ Keep (Fp b tb vs) w w' ∧ ∀ g, Fp b tb vs' g → Fp b tb vs g ∨ w.heap.size ≤ g
/-- So far: j timers of the slot k went down. -/
def Low1 (b tb n now : Nat) (vs : Nat → Value) (en : Nat → Ent) (S : Nat → List Nat) (k : Nat) (t : Nat → Nat) (w : World) (j : Nat) (vs1 : Nat → Value) (wr : World) : Prop :=
  Wh wr b tb n now vs1 en (fun x => S x ++ ((S k).take j).filter fun u => t u == x) ∧ vs1 k = vs k ∧ Keep (Fp b tb vs) w wr ∧ ∀ g, Fp b tb vs1 g → Fp b tb vs g ∨ w.heap.size ≤ g
theorem low_step (S : Nat → List Nat) (k : Nat) (t : Nat → Nat) (j i : Nat) (h : (S k)[j]? = some i) :
    upd (fun x => S x ++ ((S k).take j).filter fun u => t u == x) (t i) ((S (t i) ++ ((S k).take j).filter fun u => t u == t i) ++ [i]) = fun x => S x ++ ((S k).take (j + 1)).filter fun u => t u == x := by
  funext x
  rw [List.take_add_one, h, List.filter_append]
  by_cases e : x = t i
  · subst e
    rw [upd_same]
    simp
  · rw [upd_other _ _ _ e]
    have : (t i == x) = false := beq_false_of_ne (fun h => e h.symm)
    simp [this]
theorem low_end (S : Nat → List Nat) (k : Nat) (t : Nat → Nat) : upd (fun x => S x ++ ((S k).take (S k).length).filter fun u => t u == x) k [] = low S k t := by
  funext x
  unfold low
  by_cases e : x = k
  · subst e; rw [upd_same, if_pos rfl]
  · rw [upd_other _ _ _ e, if_neg e, List.take_length]
theorem Low1.here (H : Low1 b tb n now vs en S k t w j vs1 wr) (hk : k < 256) (ht : ∀ i, t i ≠ k) {i : Nat} (hi : (S k)[j]? = some i) {a : Option Addr} {N cp : Nat} (ev : vs k = .slice a N cp) :
    ∃ g, a = some ⟨g, 0, none⟩ ∧ wr.cell? ⟨g, j, none⟩ = some (.int .i64 (i : Int)) := by
  obtain ⟨hw1, hvs, hk1, hf1⟩ := H
  have ho := hw1.own _ hk
  simp only [hvs] at ho
  rw [List.filter_eq_nil_iff.2 (fun u _ => by simp only [beq_iff_eq]; exact ht u), List.append_nil] at ho
  obtain ⟨g, cap, e2, hg, hcell, _⟩ := ho.at_ j i hi
  rw [ev] at e2
  simp only [Value.slice.injEq] at e2
  exact ⟨g, e2.1, hcell⟩
theorem Low1.slot (H : Low1 b tb n now vs en S k t w j vs1 wr) {k2 : Nat} (hk2 : k2 < 256) : ∃ a c M, vs1 k2 = .slice a M c ∧ wr.cell? ⟨b, 2 + k2, none⟩ = some (.slice a M c) ∧ Own nc wr (.slice a M c) (S k2 ++ ((S k).take j).filter fun u => t u == k2) ∧ M = (S k2 ++ ((S k).take j).filter fun u => t u == k2).length := by
  obtain ⟨hw1, hvs, hk1, hf1⟩ := H
  obtain ⟨a, c, e⟩ := (hw1.own _ hk2).len
  refine ⟨a, c, _, e, ?_, ?_, rfl⟩
  · rw [← e]; exact (hw1.slot _ hk2).1
  · rw [← e]; exact hw1.own _ hk2
theorem Low1.still (H : Low1 b tb n now vs en S k t w j vs1 wr) {k2 : Nat} (hk2 : k2 < 256) {w2 w3 : World} (hb : Below wr.heap.size wr w2) (hg : w2.grownBy w3 (vs1 k2).ownBlock) : w3.cell? ⟨b, 2 + k2, none⟩ = some (vs1 k2) ∧ w3.frozen? ⟨b, 2 + k2, none⟩ = false := by
  have h2 := H.1.below hb
  have hbl : w3.heap[b]? = w2.heap[b]? := hg.block b h2.blt (fun h => (h2.nb k2 hk2).1 h.symm)
  have h3 := h2.slot k2 hk2
  exact ⟨by rw [World.cell?_of_block (a := ⟨b, 2 + k2, none⟩) hbl]; exact h3.1, by rw [World.frozen?_of_block (a := ⟨b, 2 + k2, none⟩) hbl]; exact h3.2⟩
theorem Low1.next (H : Low1 b tb n now vs en S k t w j vs1 wr) {i : Nat} (hi : (S k)[j]? = some i) (hk2 : t i < 256) (hne : t i ≠ k) {w2 w3 : World} (hb : Below wr.heap.size wr w2) {v' : Value}
    (ho : Own nc w3 v' ((S (t i) ++ ((S k).take j).filter fun u => t u == t i) ++ [i])) (hg : w2.grownBy w3 (vs1 (t i)).ownBlock) {g : Nat} (hv : v'.ownBlock = some g) (hat : (vs1 (t i)).ownBlock = some g ∨ g = w2.heap.size) :
    Low1 b tb n now vs en S k t w (j + 1) (upd vs1 (t i) v') (w3.setCell ⟨b, 2 + t i, none⟩ v') := by
  obtain ⟨hw1, hvs, hk1, hf1⟩ := H
  obtain ⟨h1, h2, h3⟩ := (hw1.below hb).setSlot hk2 (.inr rfl) hg ho (by
    rcases hat with h | h
    · exact .inr (.inl (by rw [hv, h]))
    · exact .inr (.inr ⟨g, hv, by omega⟩))
  refine ⟨?_, ?_, ?_, ?_⟩
  · rw [low_step S k t j i hi] at h1
    exact h1
  · rw [upd_other _ _ _ (fun h => hne h.symm)]; exact hvs
  · exact (hk1.trans (Keep.of_below (F := fun _ => False) hb) (fun _ h => h.elim)).trans h2 hf1
  · intro g' hg'
    rcases h3 g' hg' with h | h
    · exact hf1 g' h
    · right
      have := hk1.size
      have := hb.size
      omega
theorem Low1.done (H : Low1 b tb n now vs en S k t w j vs1 wr) (hj : j = (S k).length) (hk : k < 256) : Lowered b tb n now vs en (low S k t) w (wr.setCell ⟨b, 2 + k, none⟩ (.slice none 0 0)) := by
  subst hj
  obtain ⟨hw1, hvs, hk1, hf1⟩ := H
  obtain ⟨h1, h2, h3⟩ := hw1.setSlot hk (.inl rfl) (World.grownBy.refl wr none) (own_nil nc wr) (.inl rfl)
  refine ⟨upd vs1 k (.slice none 0 0), ?_, hk1.trans h2 hf1, fun g hg => ?_⟩
  · rw [low_end] at h1; exact h1
  · rcases h3 g hg with h | h
    · exact hf1 g h
    · right
      have := hk1.size
      omega


set_option maxHeartbeats 2000000 in
theorem lower_1 (h : Wh w b tb n now vs en S) (ht : Tim now) (hd : ∀ i, Tim (en i).due) (htt : ∀ i, t i = (en i).due % 64) (r : Nat) (hr : r = now / 64 % 64) (hS : ∀ i ∈ S (64 + r), i < n) (hlen : ∀ j, (S j).length ≤ 1000) :
    Calls Tryd.prog 40 #[.pointer (some ⟨b, 0, none⟩), .int .i64 1] w fun e w' => e = .returned (.tuple #[]) ∧ Lowered b tb n now vs en (low S (64 + r) t) w w' := by
  have hr64 : r < 64 := by omega
  have h0 := h.now_.1
  have hk : 64 + r < 256 := by omega
  obtain ⟨a, cp, ev⟩ := (h.own _ hk).len
  have hc := (h.slot _ hk).1
  rw [ev, show 2 + (64 + r) = 66 + r by omega] at hc
  have HW := Lib.hid h
  have HS := Lib.hid hS
  have HL := Lib.hid hlen
  have HT := Lib.hid ht
  have HD := Lib.hid hd
  have HV := Lib.hid ev
  have HR := Lib.hid hr
  have HTT := Lib.hid htt
  clear h hS hlen ht hd ev hr htt
  obtain ⟨N, HN⟩ : ∃ N, Hid (N = (S (64 + r)).length) := ⟨_, Lib.hid rfl⟩
  rw [← HN.out] at hc
  have hN : N ≤ 1000 := by rw [HN.out]; exact HL.out _
  go_enter Tryd.func40, Tryd.ntmps40
  go_wp2_with fail
  go_quiet (first | (go_at_call 34; refine Calls.quiet_of_same (place_any now 1 r _ rfl (by decide) HR.out _ HT.out)))
  have hc1 : (w.drewN nq).cell? ⟨b, 66 + r, none⟩ = some (.slice a N cp) := hc
  have HW1 := Lib.hid (HW.out.keep (Keep.drewN (F := fun _ => False) w nq) (fun _ _ h => h))
  have HK1 := Lib.hid (Keep.drewN (F := Fp b tb vs) w nq)
  generalize w.drewN nq = wz at *
  clear hc h0
  go_wp2_with fail
  go_loopw [24] (fun i wr => ∃ (j : Nat) (vs1 : Nat → Value), j ≤ N ∧ i = .int .i64 (j : Int) ∧ Hid (Low1 b tb n now vs en S (64 + r) t w j vs1 wr)) (fun i _ => N - (intOf i).toNat)
  case atStart => exact ⟨0, vs, by omega, rfl, Lib.hid ⟨by simpa using HW1.out, rfl, HK1.out, fun g h => .inl h⟩⟩
  case round =>
    clear hc1 HW1 HK1 HW
    obtain ⟨j, vs1, hj, rfl, HI⟩ := hrel
    by_cases hlt : j < N
    · obtain ⟨i, hi⟩ : ∃ i, (S (64 + r))[j]? = some i := ⟨_, List.getElem?_eq_getElem (by rw [← HN.out]; exact hlt)⟩
      have hin : i < n := HS.out i (List.mem_of_getElem? hi)
      obtain ⟨g, ea, hcell⟩ := HI.out.here hk (fun i => by have := HTT.out i; omega) hi HV.out
      subst ea
      obtain ⟨q, HQ⟩ : ∃ q, Hid (q = (en i).due % 64) := ⟨_, Lib.hid rfl⟩
      have hq64 : q < 64 := by have := HQ.out; omega
      obtain ⟨d, hD⟩ : ∃ d, d = (en i).due := ⟨_, rfl⟩
      have htims := HI.out.1.tims
      have hdue := (HI.out.1.ent i hin).2.2
      rw [← hD] at hdue
      have HDD := Lib.hid (show Tim d by rw [hD]; exact HD.out i)
      have HQD := Lib.hid (show q = d / 64 ^ 0 % 64 by rw [hD]; simpa using HQ.out)
      have HTI := Lib.hid (show t i = q by rw [HQ.out]; exact HTT.out i)
      obtain ⟨a2, c2, M, hv2, hc2, ho2, hM⟩ := HI.out.slot (k2 := t i) (by rw [HTI.out]; omega)
      have hlenM : M ≤ 1000000 := by
        have h1 := HL.out (t i)
        have h2 := HL.out (64 + r)
        have h3 := List.length_filter_le (fun u => t u == t i) ((S (64 + r)).take j)
        rw [List.length_take] at h3
        rw [hM, List.length_append]
        omega
      rw [HTI.out, show 2 + q = 2 + q from rfl] at hc2
      have HO2 := Lib.hid ho2
      have HM := Lib.hid hM
      have HV2 := Lib.hid hv2
      have HII := Lib.hid hi
      clear hD hi hv2 ho2 hM
      have wz0 : IntKind.i64.wrap 0 = 0 := by decide +kernel
      go_wp2_with fail
      go_quiet (first | (go_at_call 34; refine Calls.quiet_of_same (place_any d 0 q _ rfl (by decide) HQD.out _ HDD.out)))
      have hc3 : (wr.drewN nq).cell? ⟨b, 2 + q, none⟩ = some (.slice a2 M c2) := hc2
      have HB3 := Lib.hid (below_alloc (below_drewN wr nq) (.cells #[.int .i64 (i : Int)] 3))
      have HO3 := Lib.hid (HO2.out.keep (Keep.of_below (F := fun _ => False) HB3.out) (fun _ _ h => h))
      have HY := Lib.hid (show ((wr.drewN nq).alloc (.cells #[.int .i64 (i : Int)] 3)).cell? ⟨(wr.drewN nq).heap.size, 0, none⟩ = some (nc i) from by rw [cell_of_row _ _ _ _ _ _ (heap_alloc_new _ _)]; rfl)
      have HLM := Lib.hid hlenM
      clear hcell htims hdue hc2 HO2 hlenM
      generalize wr.drewN nq = wq at *
      go_wp2_with (at_builtin; refine wpList_app1 (f := nc) (fun _ => rfl) rfl _ _ rfl (.slice a2 M c2) (S (t i) ++ ((S (64 + r)).take j).filter fun u => t u == t i) rfl HO3.out ⟨wq.heap.size, 0, none⟩ i rfl HY.out (by rw [← HM.out]; exact HLM.out) ?_; intro g3 cap3 w3 hown hgr hat hlt3; rw [← HM.out] at hown; rw [← HM.out]; have HO4 := Lib.hid hown; have HG4 := Lib.hid hgr; have HAT := Lib.hid hat; obtain ⟨hst, hsf⟩ := HI.out.still (k2 := t i) (by rw [HTI.out]; omega) HB3.out (by rw [HV2.out]; exact hgr); rw [HV2.out] at hst; rw [HTI.out, show 2 + q = 2 + q from rfl] at hst hsf; clear hown hgr hat hlt3)
      have HN4 := Lib.hid (HI.out.next HII.out (by rw [HTI.out]; omega) (by rw [HTI.out]; omega) HB3.out HO4.out (by rw [HV2.out]; exact HG4.out) rfl (by rw [HV2.out]; exact HAT.out))
      rw [show 2 + t i = 2 + q by have := HTI.out; omega] at HN4
      go_roundw
      case rel => exact ⟨j + 1, _, by omega, by go_num, HN4⟩
      case measure => simp [intOf]; omega
    · obtain rfl : j = N := by omega
      obtain ⟨hst, hsf⟩ := HI.out.1.slot _ hk
      rw [show 2 + (64 + r) = 66 + r by omega] at hst hsf
      have HE := Lib.hid (HI.out.done HN.out hk)
      go_wp2_with fail
      go_end0
      refine ⟨rfl, ?_⟩
      have := HE.out
      rw [show 2 + (64 + r) = 66 + r by omega] at this
      exact this


set_option maxHeartbeats 2000000 in
theorem lower_2 (h : Wh w b tb n now vs en S) (ht : Tim now) (hd : ∀ i, Tim (en i).due) (htt : ∀ i, t i = 64 + (en i).due / 64 % 64) (r : Nat) (hr : r = now / 4096 % 64) (hS : ∀ i ∈ S (128 + r), i < n) (hlen : ∀ j, (S j).length ≤ 1000) :
    Calls Tryd.prog 40 #[.pointer (some ⟨b, 0, none⟩), .int .i64 2] w fun e w' => e = .returned (.tuple #[]) ∧ Lowered b tb n now vs en (low S (128 + r) t) w w' := by
  have hr64 : r < 64 := by omega
  have h0 := h.now_.1
  have hk : 128 + r < 256 := by omega
  obtain ⟨a, cp, ev⟩ := (h.own _ hk).len
  have hc := (h.slot _ hk).1
  rw [ev, show 2 + (128 + r) = 130 + r by omega] at hc
  have HW := Lib.hid h
  have HS := Lib.hid hS
  have HL := Lib.hid hlen
  have HT := Lib.hid ht
  have HD := Lib.hid hd
  have HV := Lib.hid ev
  have HR := Lib.hid hr
  have HTT := Lib.hid htt
  clear h hS hlen ht hd ev hr htt
  obtain ⟨N, HN⟩ : ∃ N, Hid (N = (S (128 + r)).length) := ⟨_, Lib.hid rfl⟩
  rw [← HN.out] at hc
  have hN : N ≤ 1000 := by rw [HN.out]; exact HL.out _
  go_enter Tryd.func40, Tryd.ntmps40
  go_wp2_with fail
  go_quiet (first | (go_at_call 34; refine Calls.quiet_of_same (place_any now 2 r _ rfl (by decide) HR.out _ HT.out)))
  have hc1 : (w.drewN nq).cell? ⟨b, 130 + r, none⟩ = some (.slice a N cp) := hc
  have HW1 := Lib.hid (HW.out.keep (Keep.drewN (F := fun _ => False) w nq) (fun _ _ h => h))
  have HK1 := Lib.hid (Keep.drewN (F := Fp b tb vs) w nq)
  generalize w.drewN nq = wz at *
  clear hc h0
  go_wp2_with fail
  go_loopw [24] (fun i wr => ∃ (j : Nat) (vs1 : Nat → Value), j ≤ N ∧ i = .int .i64 (j : Int) ∧ Hid (Low1 b tb n now vs en S (128 + r) t w j vs1 wr)) (fun i _ => N - (intOf i).toNat)
  case atStart => exact ⟨0, vs, by omega, rfl, Lib.hid ⟨by simpa using HW1.out, rfl, HK1.out, fun g h => .inl h⟩⟩
  case round =>
    clear hc1 HW1 HK1 HW
    obtain ⟨j, vs1, hj, rfl, HI⟩ := hrel
    by_cases hlt : j < N
    · obtain ⟨i, hi⟩ : ∃ i, (S (128 + r))[j]? = some i := ⟨_, List.getElem?_eq_getElem (by rw [← HN.out]; exact hlt)⟩
      have hin : i < n := HS.out i (List.mem_of_getElem? hi)
      obtain ⟨g, ea, hcell⟩ := HI.out.here hk (fun i => by have := HTT.out i; omega) hi HV.out
      subst ea
      obtain ⟨q, HQ⟩ : ∃ q, Hid (q = (en i).due / 64 % 64) := ⟨_, Lib.hid rfl⟩
      have hq64 : q < 64 := by have := HQ.out; omega
      obtain ⟨d, hD⟩ : ∃ d, d = (en i).due := ⟨_, rfl⟩
      have htims := HI.out.1.tims
      have hdue := (HI.out.1.ent i hin).2.2
      rw [← hD] at hdue
      have HDD := Lib.hid (show Tim d by rw [hD]; exact HD.out i)
      have HQD := Lib.hid (show q = d / 64 ^ 1 % 64 by rw [hD]; simpa using HQ.out)
      have HTI := Lib.hid (show t i = 64 + q by rw [HQ.out]; exact HTT.out i)
      obtain ⟨a2, c2, M, hv2, hc2, ho2, hM⟩ := HI.out.slot (k2 := t i) (by rw [HTI.out]; omega)
      have hlenM : M ≤ 1000000 := by
        have h1 := HL.out (t i)
        have h2 := HL.out (128 + r)
        have h3 := List.length_filter_le (fun u => t u == t i) ((S (128 + r)).take j)
        rw [List.length_take] at h3
        rw [hM, List.length_append]
        omega
      rw [HTI.out, show 2 + (64 + q) = 66 + q by omega] at hc2
      have HO2 := Lib.hid ho2
      have HM := Lib.hid hM
      have HV2 := Lib.hid hv2
      have HII := Lib.hid hi
      clear hD hi hv2 ho2 hM
      have wz0 : IntKind.i64.wrap 0 = 0 := by decide +kernel
      go_wp2_with fail
      go_quiet (first | (go_at_call 34; refine Calls.quiet_of_same (place_any d 1 q _ rfl (by decide) HQD.out _ HDD.out)))
      have hc3 : (wr.drewN nq).cell? ⟨b, 66 + q, none⟩ = some (.slice a2 M c2) := hc2
      have HB3 := Lib.hid (below_alloc (below_drewN wr nq) (.cells #[.int .i64 (i : Int)] 3))
      have HO3 := Lib.hid (HO2.out.keep (Keep.of_below (F := fun _ => False) HB3.out) (fun _ _ h => h))
      have HY := Lib.hid (show ((wr.drewN nq).alloc (.cells #[.int .i64 (i : Int)] 3)).cell? ⟨(wr.drewN nq).heap.size, 0, none⟩ = some (nc i) from by rw [cell_of_row _ _ _ _ _ _ (heap_alloc_new _ _)]; rfl)
      have HLM := Lib.hid hlenM
      clear hcell htims hdue hc2 HO2 hlenM
      generalize wr.drewN nq = wq at *
      go_wp2_with (at_builtin; refine wpList_app1 (f := nc) (fun _ => rfl) rfl _ _ rfl (.slice a2 M c2) (S (t i) ++ ((S (128 + r)).take j).filter fun u => t u == t i) rfl HO3.out ⟨wq.heap.size, 0, none⟩ i rfl HY.out (by rw [← HM.out]; exact HLM.out) ?_; intro g3 cap3 w3 hown hgr hat hlt3; rw [← HM.out] at hown; rw [← HM.out]; have HO4 := Lib.hid hown; have HG4 := Lib.hid hgr; have HAT := Lib.hid hat; obtain ⟨hst, hsf⟩ := HI.out.still (k2 := t i) (by rw [HTI.out]; omega) HB3.out (by rw [HV2.out]; exact hgr); rw [HV2.out] at hst; rw [HTI.out, show 2 + (64 + q) = 66 + q by omega] at hst hsf; clear hown hgr hat hlt3)
      have HN4 := Lib.hid (HI.out.next HII.out (by rw [HTI.out]; omega) (by rw [HTI.out]; omega) HB3.out HO4.out (by rw [HV2.out]; exact HG4.out) rfl (by rw [HV2.out]; exact HAT.out))
      rw [show 2 + t i = 66 + q by have := HTI.out; omega] at HN4
      go_roundw
      case rel => exact ⟨j + 1, _, by omega, by go_num, HN4⟩
      case measure => simp [intOf]; omega
    · obtain rfl : j = N := by omega
      obtain ⟨hst, hsf⟩ := HI.out.1.slot _ hk
      rw [show 2 + (128 + r) = 130 + r by omega] at hst hsf
      have HE := Lib.hid (HI.out.done HN.out hk)
      go_wp2_with fail
      go_end0
      refine ⟨rfl, ?_⟩
      have := HE.out
      rw [show 2 + (128 + r) = 130 + r by omega] at this
      exact this


set_option maxHeartbeats 2000000 in
theorem lower_3 (h : Wh w b tb n now vs en S) (ht : Tim now) (hd : ∀ i, Tim (en i).due) (htt : ∀ i, t i = 128 + (en i).due / 4096 % 64) (r : Nat) (hr : r = now / 262144 % 64) (hS : ∀ i ∈ S (192 + r), i < n) (hlen : ∀ j, (S j).length ≤ 1000) :
    Calls Tryd.prog 40 #[.pointer (some ⟨b, 0, none⟩), .int .i64 3] w fun e w' => e = .returned (.tuple #[]) ∧ Lowered b tb n now vs en (low S (192 + r) t) w w' := by
  have hr64 : r < 64 := by omega
  have h0 := h.now_.1
  have hk : 192 + r < 256 := by omega
  obtain ⟨a, cp, ev⟩ := (h.own _ hk).len
  have hc := (h.slot _ hk).1
  rw [ev, show 2 + (192 + r) = 194 + r by omega] at hc
  have HW := Lib.hid h
  have HS := Lib.hid hS
  have HL := Lib.hid hlen
  have HT := Lib.hid ht
  have HD := Lib.hid hd
  have HV := Lib.hid ev
  have HR := Lib.hid hr
  have HTT := Lib.hid htt
  clear h hS hlen ht hd ev hr htt
  obtain ⟨N, HN⟩ : ∃ N, Hid (N = (S (192 + r)).length) := ⟨_, Lib.hid rfl⟩
  rw [← HN.out] at hc
  have hN : N ≤ 1000 := by rw [HN.out]; exact HL.out _
  go_enter Tryd.func40, Tryd.ntmps40
  go_wp2_with fail
  go_quiet (first | (go_at_call 34; refine Calls.quiet_of_same (place_any now 3 r _ rfl (by decide) HR.out _ HT.out)))
  have hc1 : (w.drewN nq).cell? ⟨b, 194 + r, none⟩ = some (.slice a N cp) := hc
  have HW1 := Lib.hid (HW.out.keep (Keep.drewN (F := fun _ => False) w nq) (fun _ _ h => h))
  have HK1 := Lib.hid (Keep.drewN (F := Fp b tb vs) w nq)
  generalize w.drewN nq = wz at *
  clear hc h0
  go_wp2_with fail
  go_loopw [24] (fun i wr => ∃ (j : Nat) (vs1 : Nat → Value), j ≤ N ∧ i = .int .i64 (j : Int) ∧ Hid (Low1 b tb n now vs en S (192 + r) t w j vs1 wr)) (fun i _ => N - (intOf i).toNat)
  case atStart => exact ⟨0, vs, by omega, rfl, Lib.hid ⟨by simpa using HW1.out, rfl, HK1.out, fun g h => .inl h⟩⟩
  case round =>
    clear hc1 HW1 HK1 HW
    obtain ⟨j, vs1, hj, rfl, HI⟩ := hrel
    by_cases hlt : j < N
    · obtain ⟨i, hi⟩ : ∃ i, (S (192 + r))[j]? = some i := ⟨_, List.getElem?_eq_getElem (by rw [← HN.out]; exact hlt)⟩
      have hin : i < n := HS.out i (List.mem_of_getElem? hi)
      obtain ⟨g, ea, hcell⟩ := HI.out.here hk (fun i => by have := HTT.out i; omega) hi HV.out
      subst ea
      obtain ⟨q, HQ⟩ : ∃ q, Hid (q = (en i).due / 4096 % 64) := ⟨_, Lib.hid rfl⟩
      have hq64 : q < 64 := by have := HQ.out; omega
      obtain ⟨d, hD⟩ : ∃ d, d = (en i).due := ⟨_, rfl⟩
      have htims := HI.out.1.tims
      have hdue := (HI.out.1.ent i hin).2.2
      rw [← hD] at hdue
      have HDD := Lib.hid (show Tim d by rw [hD]; exact HD.out i)
      have HQD := Lib.hid (show q = d / 64 ^ 2 % 64 by rw [hD]; simpa using HQ.out)
      have HTI := Lib.hid (show t i = 128 + q by rw [HQ.out]; exact HTT.out i)
      obtain ⟨a2, c2, M, hv2, hc2, ho2, hM⟩ := HI.out.slot (k2 := t i) (by rw [HTI.out]; omega)
      have hlenM : M ≤ 1000000 := by
        have h1 := HL.out (t i)
        have h2 := HL.out (192 + r)
        have h3 := List.length_filter_le (fun u => t u == t i) ((S (192 + r)).take j)
        rw [List.length_take] at h3
        rw [hM, List.length_append]
        omega
      rw [HTI.out, show 2 + (128 + q) = 130 + q by omega] at hc2
      have HO2 := Lib.hid ho2
      have HM := Lib.hid hM
      have HV2 := Lib.hid hv2
      have HII := Lib.hid hi
      clear hD hi hv2 ho2 hM
      have wz0 : IntKind.i64.wrap 0 = 0 := by decide +kernel
      go_wp2_with fail
      go_quiet (first | (go_at_call 34; refine Calls.quiet_of_same (place_any d 2 q _ rfl (by decide) HQD.out _ HDD.out)))
      have hc3 : (wr.drewN nq).cell? ⟨b, 130 + q, none⟩ = some (.slice a2 M c2) := hc2
      have HB3 := Lib.hid (below_alloc (below_drewN wr nq) (.cells #[.int .i64 (i : Int)] 3))
      have HO3 := Lib.hid (HO2.out.keep (Keep.of_below (F := fun _ => False) HB3.out) (fun _ _ h => h))
      have HY := Lib.hid (show ((wr.drewN nq).alloc (.cells #[.int .i64 (i : Int)] 3)).cell? ⟨(wr.drewN nq).heap.size, 0, none⟩ = some (nc i) from by rw [cell_of_row _ _ _ _ _ _ (heap_alloc_new _ _)]; rfl)
      have HLM := Lib.hid hlenM
      clear hcell htims hdue hc2 HO2 hlenM
      generalize wr.drewN nq = wq at *
      go_wp2_with (at_builtin; refine wpList_app1 (f := nc) (fun _ => rfl) rfl _ _ rfl (.slice a2 M c2) (S (t i) ++ ((S (192 + r)).take j).filter fun u => t u == t i) rfl HO3.out ⟨wq.heap.size, 0, none⟩ i rfl HY.out (by rw [← HM.out]; exact HLM.out) ?_; intro g3 cap3 w3 hown hgr hat hlt3; rw [← HM.out] at hown; rw [← HM.out]; have HO4 := Lib.hid hown; have HG4 := Lib.hid hgr; have HAT := Lib.hid hat; obtain ⟨hst, hsf⟩ := HI.out.still (k2 := t i) (by rw [HTI.out]; omega) HB3.out (by rw [HV2.out]; exact hgr); rw [HV2.out] at hst; rw [HTI.out, show 2 + (128 + q) = 130 + q by omega] at hst hsf; clear hown hgr hat hlt3)
      have HN4 := Lib.hid (HI.out.next HII.out (by rw [HTI.out]; omega) (by rw [HTI.out]; omega) HB3.out HO4.out (by rw [HV2.out]; exact HG4.out) rfl (by rw [HV2.out]; exact HAT.out))
      rw [show 2 + t i = 130 + q by have := HTI.out; omega] at HN4
      go_roundw
      case rel => exact ⟨j + 1, _, by omega, by go_num, HN4⟩
      case measure => simp [intOf]; omega
    · obtain rfl : j = N := by omega
      obtain ⟨hst, hsf⟩ := HI.out.1.slot _ hk
      rw [show 2 + (192 + r) = 194 + r by omega] at hst hsf
      have HE := Lib.hid (HI.out.done HN.out hk)
      go_wp2_with fail
      go_end0
      refine ⟨rfl, ?_⟩
      have := HE.out
      rw [show 2 + (192 + r) = 194 + r by omega] at this
      exact this

end Go.Proofs.YtaonnkocopngaaaDoor

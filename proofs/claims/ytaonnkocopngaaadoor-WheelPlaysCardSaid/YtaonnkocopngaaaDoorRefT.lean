/-
  The document's wheel: Tick.
-/
import Derived.Test.YtaonnkocopngaaaDoorRefC
namespace Go.Proofs.YtaonnkocopngaaaDoor
open Go.RowKit

variable {B x pool : Nat} {w w' w1 w2 : World} {v v' : Value} {ts : List Tm}
theorem RWh.setv {ts' : List Tm} (h : RWh w x pool ts v) {F : Nat → Prop} (hk : Keep F w w') (hF : ∀ g, F g → v.ownBlock = some g) (ho : Ts 0 w' v' ts') (hv : ∀ g, v'.ownBlock = some g → v.ownBlock = some g ∨ w.heap.size ≤ g) (hl : ts'.length ≤ pool) :
    RWh (w'.setCell ⟨x, 1, none⟩ v') x pool ts' v' ∧ Keep (Rp x v) w (w'.setCell ⟨x, 1, none⟩ v') := by
  have hxF : ¬ F x := fun hf => h.ne (hF x hf)
  have hrow : w'.heap[x]? = some (.cells #[.int .i64 (pool : Int), v] 56 (0, 0)) := by rw [hk.block x h.xlt hxF]; exact h.row
  have hvx : v'.ownBlock ≠ some x := fun e => by
    rcases hv x e with h1 | h1
    · exact h.ne h1
    · have := h.xlt; omega
  have hk2 : Keep (fun g => g = x) w' (w'.setCell ⟨x, 1, none⟩ v') := Keep.set_ w' x 1 v' rfl
  refine ⟨⟨heap_setCell_same w' x 1 _ _ v' hrow, ho.keep hk2 (fun g hg e => hvx (by rw [hg, e])), hvx, hl, h.small.2⟩, ?_⟩
  exact (hk.mono (G := Rp x v) (fun g hg => .inr (hF g hg))).trans hk2 (fun g hg => .inl (.inl hg))
/-- A timer a tick later. -/
def dec (a : Tm) : Tm := ⟨a.num, a.tag, a.due - 1⟩
/-- So far: j timers were looked at; those that fire, and the others, lie in slices of the call's own. -/
def Tk1 (w : World) (ts : List Tm) (j : Nat) (vf vr : Value) (wr : World) : Prop :=
  Below w.heap.size w wr ∧ Ints wr vf (((ts.take j).filter fun a => a.due == 1).map Tm.tag) ∧ (∀ g, vf.ownBlock = some g → w.heap.size ≤ g) ∧ Ts w.heap.size wr vr (((ts.take j).filter fun a => a.due != 1).map dec) ∧ ∀ g, vf.ownBlock = some g → vr.ownBlock ≠ some g
theorem Tk1.below {j : Nat} {vf vr : Value} {wr : World} (h : Tk1 w ts j vf vr wr) {w2 : World} (hb : Below wr.heap.size wr w2) : Tk1 w ts j vf vr w2 := by
  obtain ⟨h1, h2, h3, h4, h5⟩ := h
  have hk := Keep.of_below (F := fun _ => False) hb
  exact ⟨below_call h1 hb, h2.keep hk (fun _ _ h => h), h3, h4.keep hk (fun _ _ h => h), h5⟩
theorem Tk1.fire {j : Nat} {vf vr : Value} {wr w2 : World} (h : Tk1 w ts j vf vr wr) {a : Tm} (ha : ts[j]? = some a) (hd : a.due = 1) {v' : Value} {g : Nat} (ho : Ints w2 v' (((ts.take j).filter fun a => a.due == 1).map Tm.tag ++ [a.tag])) (hg : wr.grownBy w2 vf.ownBlock) (hv : v'.ownBlock = some g) (hat : vf.ownBlock = some g ∨ g = wr.heap.size) :
    Tk1 w ts (j + 1) v' vr w2 := by
  obtain ⟨h1, h2, h3, h4, h5⟩ := h
  have hk : Keep (fun g => vf.ownBlock = some g) wr w2 := Keep.grown hg (fun _ h => h)
  refine ⟨h1.trans (hk.below h3 h1.size), ?_, fun g' hg' => ?_, ?_, fun g' hg' e => ?_⟩
  · rw [List.take_add_one, ha]
    simpa [List.filter_append, hd] using ho
  · rw [hv] at hg'; cases hg'
    rcases hat with h | h
    · exact h3 g h
    · have := h1.size; omega
  · have := h4.keep hk (fun g hg e => h5 g e hg)
    rw [List.take_add_one, ha]
    simpa [List.filter_append, hd] using this
  · rw [hv] at hg'; cases hg'
    rcases hat with h | h
    · exact h5 g h e
    · have := (h4.lt e).2; omega
theorem Tk1.stay {j : Nat} {vf vr : Value} {wr w2 : World} (h : Tk1 w ts j vf vr wr) {a : Tm} (ha : ts[j]? = some a) (hd : a.due ≠ 1) {v' : Value} {g : Nat} (ho : Ts w.heap.size w2 v' (((ts.take j).filter fun a => a.due != 1).map dec ++ [dec a])) (hg : wr.grownBy w2 vr.ownBlock) (hv : v'.ownBlock = some g) (hat : vr.ownBlock = some g ∨ g = wr.heap.size) :
    Tk1 w ts (j + 1) vf v' w2 := by
  obtain ⟨h1, h2, h3, h4, h5⟩ := h
  have hk : Keep (fun g => vr.ownBlock = some g) wr w2 := Keep.grown hg (fun _ h => h)
  refine ⟨h1.trans (hk.below (fun g hg => (h4.lt hg).1) h1.size), ?_, h3, ?_, fun g' hg' e => ?_⟩
  · have := h2.keep hk (fun g hg e => h5 g hg e)
    rw [List.take_add_one, ha]
    simpa [List.filter_append, hd] using this
  · rw [List.take_add_one, ha]
    simpa [List.filter_append, hd] using ho
  · rw [hv] at e; cases e
    rcases hat with h | h
    · exact h5 _ hg' h
    · have := h2.lt hg'; omega

set_option maxHeartbeats 1000000 in
theorem rtick_any (h : RWh w x pool ts v) (hdue : ∀ a ∈ ts, 1 ≤ a.due ∧ a.due ≤ 16777215) :
    Calls Tryd.prog 19 #[.pointer (some ⟨x, 0, none⟩)] w fun e w' => ∃ va, e = .returned va ∧ Ints w' va ((ts.filter fun a => a.due == 1).map Tm.tag) ∧
      ∃ v', RWh w' x pool ((ts.filter fun a => a.due != 1).map dec) v' ∧ Keep (Rp x v) w w' ∧ (∀ g, v'.ownBlock = some g → v.ownBlock = some g ∨ w.heap.size ≤ g) ∧ ∀ g, va.ownBlock = some g → w.heap.size ≤ g ∧ ¬ Rp x v' g := by
  obtain ⟨a0, c0, ev⟩ := h.own.len
  obtain ⟨n, HN⟩ : ∃ n, Hid (n = ts.length) := ⟨_, Lib.hid rfl⟩
  have hn64 : n ≤ 64 := by rw [HN.out]; have := h.small; omega
  have hv := h.v_.1
  rw [ev, ← HN.out] at hv
  have HV := Lib.hid ev
  have HW := Lib.hid h
  have HD := Lib.hid hdue
  clear h ev hdue
  go_enter Tryd.func19, Tryd.ntmps19
  go_wp2_with fail
  go_loopw [3, 4, 5] (fun u3 u4 u5 wr => ∃ (j p q : Nat) (a3 : Option Addr) (c3 : Nat) (a4 : Option Addr) (c4 : Nat), j ≤ n ∧ p ≤ j ∧ q ≤ j ∧ u3 = .slice a3 p c3 ∧ u4 = .slice a4 q c4 ∧ u5 = .int .i64 (j : Int) ∧ Hid (Tk1 w ts j (.slice a3 p c3) (.slice a4 q c4) wr) ∧ Hid (p = (((ts.take j).filter fun a => a.due == 1).map Tm.tag).length ∧ q = (((ts.take j).filter fun a => a.due != 1).map dec).length)) (fun _ _ u5 _ => n - (intOf u5).toNat)
  case atStart => exact ⟨0, 0, 0, none, 0, none, 0, by omega, by omega, by omega, rfl, rfl, rfl, Lib.hid ⟨Below.refl _ w, own_nil _ _, fun g hg => by simp [Value.ownBlock] at hg, ts_nil _ _, fun g hg => by simp [Value.ownBlock] at hg⟩, Lib.hid ⟨rfl, rfl⟩⟩
  case round =>
    obtain ⟨j, p, q, a3, c3, a4, c4, hj, hp, hq, rfl, rfl, rfl, HT, HL⟩ := hrel
    have hvr := below_cell HT.out.1 hv
    by_cases hlt : j < n
    · have hltz : (j : Int) < (n : Int) := by omega
      obtain ⟨a, ha⟩ : ∃ a, ts[j]? = some a := ⟨_, List.getElem?_eq_getElem (by rw [← HN.out]; exact hlt)⟩
      obtain ⟨d1, d2⟩ := HD.out a (List.mem_of_getElem? ha)
      obtain ⟨g, cap, e1, _, f0, f1, f2⟩ := HW.out.own.at_ j a ha
      rw [HV.out] at e1
      simp only [Value.slice.injEq] at e1
      obtain ⟨rfl, _, _⟩ := e1
      have g0 := below_cell HT.out.1 f0
      have g1 := below_cell HT.out.1 f1
      have g2 := below_cell HT.out.1 f2
      obtain ⟨tg, HTG⟩ : ∃ tg, Hid (tg = a.tag) := ⟨_, Lib.hid rfl⟩
      obtain ⟨d, HDD⟩ : ∃ d, Hid (d = a.due) := ⟨_, Lib.hid rfl⟩
      obtain ⟨nu, HNU⟩ : ∃ nu, Hid (nu = a.num) := ⟨_, Lib.hid rfl⟩
      rw [← HNU.out] at g0
      rw [← HTG.out] at g1
      rw [← HDD.out] at g2 d1 d2
      have HA := Lib.hid ha
      clear f0 f1 f2 ha
      by_cases hd : d = 1
      · subst hd
        have HB2 := Lib.hid (below_alloc (below_alloc (Below.refl wr.heap.size wr) (.cells #[.int .i64 (nu : Int), .int .i64 tg, .int .i64 0] 65)) (.cells #[.int .i64 tg] 3))
        obtain ⟨W2, hW2⟩ : ∃ W2, W2 = (wr.alloc (.cells #[.int .i64 (nu : Int), .int .i64 tg, .int .i64 0] 65)).alloc (.cells #[.int .i64 tg] 3) := ⟨_, rfl⟩
        rw [← hW2] at HB2
        have HT2 := Lib.hid (HT.out.below HB2.out)
        have HY := Lib.hid (show W2.cell? ⟨wr.heap.size + 1, 0, none⟩ = some (.int .i64 tg) by
          have := heap_alloc_new (wr.alloc (.cells #[.int .i64 (nu : Int), .int .i64 tg, .int .i64 0] 65)) (.cells #[.int .i64 tg] 3)
          rw [← hW2, show (wr.alloc (.cells #[.int .i64 (nu : Int), .int .i64 tg, .int .i64 0] 65)).heap.size = wr.heap.size + 1 by simp] at this
          rw [cell_of_row _ _ _ _ _ _ this]; rfl)
        have HW2 := Lib.hid hW2
        clear hW2
        go_wp2_with (at_builtin; rw [← HW2.out]; refine wpList_app1 (f := Value.int .i64) (fun _ => rfl) rfl _ _ rfl (.slice a3 p c3) (((ts.take j).filter fun a => a.due == 1).map Tm.tag) rfl HT2.out.2.1 ⟨wr.heap.size + 1, 0, none⟩ tg rfl HY.out (by rw [← HL.out.1]; omega) ?_; intro g3 cap3 w4 hown hgr hat hlt3; rw [← HL.out.1] at hown; rw [← HL.out.1]; have HO4 := Lib.hid hown; have HG4 := Lib.hid hgr; have HAT := Lib.hid hat; clear hown hgr hat hlt3)
        go_roundw
        case rel => exact ⟨j + 1, p + 1, q, _, _, a4, c4, by omega, by omega, by omega, rfl, rfl, by go_num, Lib.hid (HT2.out.fire HA.out HDD.out.symm (by rw [← HTG.out]; exact HO4.out) HG4.out rfl HAT.out), Lib.hid (by
          have e := HDD.out
          rw [List.take_add_one, HA.out]
          constructor
          · simp [List.filter_append, ← e]; simpa using HL.out.1
          · simp [List.filter_append, ← e]; simpa using HL.out.2)⟩
        case measure => simp [intOf]; omega
      · have q0 : ((d : Int) - 1 == 0) = false := by simp; omega
        have HDN := Lib.hid hd
        clear hd
        have HB2 := Lib.hid (below_alloc (below_alloc (Below.refl wr.heap.size wr) (.cells #[.int .i64 (nu : Int), .int .i64 tg, .int .i64 ((d : Int) - 1)] 65)) (.cells #[.int .i64 (nu : Int), .int .i64 tg, .int .i64 ((d : Int) - 1)] 65))
        obtain ⟨W2, hW2⟩ : ∃ W2, W2 = (wr.alloc (.cells #[.int .i64 (nu : Int), .int .i64 tg, .int .i64 ((d : Int) - 1)] 65)).alloc (.cells #[.int .i64 (nu : Int), .int .i64 tg, .int .i64 ((d : Int) - 1)] 65) := ⟨_, rfl⟩
        rw [← hW2] at HB2
        have HT2 := Lib.hid (HT.out.below HB2.out)
        have HU := Lib.hid (show ∀ i u, (([dec a] : List Tm).flatMap tmc)[i]? = some u → W2.cell? ((⟨wr.heap.size + 1, 0, none⟩ : Addr).add i) = some u by
          have := heap_alloc_new (wr.alloc (.cells #[.int .i64 (nu : Int), .int .i64 tg, .int .i64 ((d : Int) - 1)] 65)) (.cells #[.int .i64 (nu : Int), .int .i64 tg, .int .i64 ((d : Int) - 1)] 65)
          rw [← hW2, show (wr.alloc (.cells #[.int .i64 (nu : Int), .int .i64 tg, .int .i64 ((d : Int) - 1)] 65)).heap.size = wr.heap.size + 1 by simp] at this
          have e1 : ((dec a).num : Int) = (nu : Int) := by show (a.num : Int) = _; rw [HNU.out]
          have e2 : (dec a).tag = tg := by show a.tag = _; rw [HTG.out]
          have e3 : ((dec a).due : Int) = (d : Int) - 1 := by show ((a.due - 1 : Nat) : Int) = _; rw [HDD.out] at d1 ⊢; omega
          refine one_at _ (dec a) ?_ ?_ ?_
          · rw [cell_of_row _ _ _ _ _ _ this, e1]; rfl
          · rw [cell_of_row _ _ _ _ _ _ this, e2]; rfl
          · rw [cell_of_row _ _ _ _ _ _ this, e3]; rfl)
        have HW2 := Lib.hid hW2
        clear hW2
        go_wp2_with (at_builtin; rw [← HW2.out]; refine wpList_appT1 rfl _ _ rfl w.heap.size (.slice a4 q c4) (((ts.take j).filter fun a => a.due != 1).map dec) rfl HT2.out.2.2.2.1 ⟨wr.heap.size + 1, 0, none⟩ (dec a) rfl HU.out (by rw [← HL.out.2]; omega) (by have := HT2.out.1.size; omega) ?_; intro g3 cap3 w4 hown hgr hat hlt3; rw [← HL.out.2] at hown; rw [← HL.out.2]; have HO4 := Lib.hid hown; have HG4 := Lib.hid hgr; have HAT := Lib.hid hat; clear hown hgr hat hlt3)
        go_roundw
        case rel => exact ⟨j + 1, p, q + 1, a3, c3, _, _, by omega, by omega, by omega, rfl, rfl, by go_num, Lib.hid (HT2.out.stay HA.out (by rw [← HDD.out]; exact HDN.out) HO4.out HG4.out rfl HAT.out), Lib.hid (by
          have e := HDD.out
          have e2 := HDN.out
          rw [e] at e2
          rw [List.take_add_one, HA.out]
          constructor
          · simp [List.filter_append, e2]; simpa using HL.out.1
          · simp [List.filter_append, e2]; simpa using HL.out.2)⟩
        case measure => simp [intOf]; omega
    · obtain rfl : j = n := by omega
      obtain ⟨hst, hsf⟩ := (HW.out.below HT.out.1).v_
      have HTT := Lib.hid (show Tk1 w ts ts.length (.slice a3 p c3) (.slice a4 q c4) wr by rw [← HN.out]; exact HT.out)
      go_wp2_with fail
      go_ret
      obtain ⟨h1, h2, h3, h4, h5⟩ := HTT.out
      rw [List.take_length] at h2 h4
      obtain ⟨r1, r2⟩ := HW.out.setv (v' := .slice a4 q c4) (Keep.of_below (F := fun _ => False) h1) (fun _ h => h.elim) (h4.base (B' := 0) (fun _ _ => Nat.zero_le _)) (fun g hg => .inr (h4.lt hg).1) (by
        have := HW.out.small
        rw [List.length_map]
        have := List.length_filter_le (fun a : Tm => a.due != 1) ts
        omega)
      have hx := HW.out.xlt
      refine ⟨_, rfl, ?_, _, r1, r2, fun g hg => .inr (h4.lt hg).1, fun g hg => ⟨h3 g hg, ?_⟩⟩
      · exact h2.keep (Keep.set_ (F := fun g => g = x) wr x 1 _ rfl) (fun g hg e => by have := h3 g hg; omega)
      · rintro (e | e)
        · have := h3 g hg; omega
        · exact h5 g hg e
end Go.Proofs.YtaonnkocopngaaaDoor

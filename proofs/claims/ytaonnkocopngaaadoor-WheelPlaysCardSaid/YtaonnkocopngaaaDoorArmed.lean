/-
  Arm: out of range; with no timer left; and as it should.
-/
import Derived.Test.YtaonnkocopngaaaDoorPick
namespace Go.Proofs.YtaonnkocopngaaaDoor
open Go.RowKit

variable {b tb n now : Nat} {A : List Tm} {fp : Nat → Prop} {w w' : World} {vs : Nat → Value} {en : Nat → Ent} {S : Nat → List Nat}
theorem arm_range (b : Nat) (t tag : Int) (ht : t < 1 ∨ 16777215 < t) (w : World) :
    Calls Tryd.prog 12 #[.pointer (some ⟨b, 0, none⟩), .int .i64 t, .int .i64 tag] w fun e w' => ∃ g, w.heap.size ≤ g ∧ e = .returned (.tuple #[.int .i64 0, .iface 66 (.pointer (some ⟨g, 0, none⟩))]) ∧ w'.cell? ⟨g, 1, none⟩ = some (.int .i64 6) ∧ Below w.heap.size w w' := by
  rcases Decidable.em (t < 1) with h1 | h1
  · have q0 : decide (t < 1) = true := by simp; omega
    clear ht
    go_enter Tryd.func12, Tryd.ntmps12
    go_wp2_with fail
    (with_reducible refine (new_form 6 (by decide) _ _).mono ?_)
    rintro e w1 ⟨g, hg, rfl, hc, hb⟩
    have HC := Lib.hid hc
    have HG := Lib.hid hg
    have HB := Lib.hid hb
    clear hc hg hb
    go_wp2_with fail
    go_ret2
    exact ⟨_, HG.out, rfl, HC.out, HB.out⟩
  · have q0 : decide (t < 1) = false := by simp; omega
    have q1 : decide (16777215 < t) = true := by simp; omega
    clear ht h1
    go_enter Tryd.func12, Tryd.ntmps12
    go_wp2_with fail
    (with_reducible refine (new_form 6 (by decide) _ _).mono ?_)
    rintro e w1 ⟨g, hg, rfl, hc, hb⟩
    have HC := Lib.hid hc
    have HG := Lib.hid hg
    have HB := Lib.hid hb
    clear hc hg hb
    go_wp2_with fail
    go_ret2
    exact ⟨_, HG.out, rfl, HC.out, HB.out⟩
theorem Fits.full {n now : Nat} {A : List Tm} {en : Nat → Ent} (h : Fits n now A en) (hl : A.length = n) (i : Nat) (hi : i < n) : (en i).armed = true := by
  have := h.count
  have h0 : (List.range n).countP (fun i => !(en i).armed) = 0 := by omega
  have := List.countP_eq_zero.1 h0 i (List.mem_range.2 hi)
  simpa using this
set_option maxHeartbeats 1000000 in
theorem arm_full (h : Wl w b n now A fp) (hl : A.length = n) (t tag : Int) (h1 : 1 ≤ t) (h2 : t ≤ 16777215) :
    Calls Tryd.prog 12 #[.pointer (some ⟨b, 0, none⟩), .int .i64 t, .int .i64 tag] w fun e w' => ∃ g, w.heap.size ≤ g ∧ e = .returned (.tuple #[.int .i64 0, .iface 66 (.pointer (some ⟨g, 0, none⟩))]) ∧ w'.cell? ⟨g, 1, none⟩ = some (.int .i64 5) ∧ Below w.heap.size w w' := by
  obtain ⟨tb, vs, en, hw, hf, rfl⟩ := h
  have htm := hw.tims
  have HW := Lib.hid hw
  have HN := Lib.hid hf.n64
  have HF := Lib.hid (hf.full hl)
  have q0 : decide (t < 1) = false := by simp; omega
  have q1 : decide (16777215 < t) = false := by simp; omega
  clear hw hf hl h1 h2
  go_enter Tryd.func12, Tryd.ntmps12
  go_wp2_with fail
  (with_reducible refine (pick_any HW.out HN.out).mono ?_)
  rintro e w1 ⟨r, rfl, hi, hb⟩
  obtain rfl : r = -1 := by
    rcases hi with ⟨h, _⟩ | ⟨m, _, hm, ha, _⟩
    · exact h
    · rw [HF.out m hm] at ha; cases ha
  have HB := Lib.hid hb
  clear hi hb
  go_wp2_with fail
  (with_reducible refine (new_form 5 (by decide) _ _).mono ?_)
  rintro e w2 ⟨g, hg, rfl, hc, hb⟩
  have HC := Lib.hid hc
  have HG := Lib.hid (Nat.le_trans HB.out.size hg)
  have HB2 := Lib.hid (below_call HB.out hb)
  clear hc hg hb
  go_wp2_with fail
  go_ret2
  exact ⟨_, HG.out, rfl, HC.out, HB2.out⟩

theorem slo_app (f : Tm → Nat) (A : List Tm) (a : Tm) : slo f (A ++ [a]) = upd (slo f A) (f a) (slo f A (f a) ++ [a.num]) := by
  funext j
  unfold slo
  rw [List.filter_append, List.map_append]
  by_cases e : j = f a
  · subst e; rw [upd_same]; simp
  · rw [upd_other _ _ _ e]
    have : (f a == j) = false := beq_false_of_ne (fun h => e h.symm)
    simp [this]
theorem Wh.still (H : Wh w b tb n now vs en S) {k2 : Nat} (hk2 : k2 < 256) {w2 w3 : World} (hb : Below w.heap.size w w2) (hg : w2.grownBy w3 (vs k2).ownBlock) : w3.cell? ⟨b, 2 + k2, none⟩ = some (vs k2) ∧ w3.frozen? ⟨b, 2 + k2, none⟩ = false := by
  have h2 := H.below hb
  have hbl : w3.heap[b]? = w2.heap[b]? := hg.block b h2.blt (fun h => (h2.nb k2 hk2).1 h.symm)
  have h3 := h2.slot k2 hk2
  exact ⟨by rw [World.cell?_of_block (a := ⟨b, 2 + k2, none⟩) hbl]; exact h3.1, by rw [World.frozen?_of_block (a := ⟨b, 2 + k2, none⟩) hbl]; exact h3.2⟩
/-- The least number of no timer that is armed. -/
def Least (n : Nat) (A : List Tm) (m : Nat) : Prop := m < n ∧ (∀ a ∈ A, a.num ≠ m) ∧ ∀ i, i < m → ∃ a ∈ A, a.num = i
theorem Fits.pick {n now : Nat} {A : List Tm} {en : Nat → Ent} (h : Fits n now A en) {m : Nat} (hm : Least n A m) {r : Int} (hr : Idle n en r) : r = (m : Int) := by
  obtain ⟨h1, h2, h3⟩ := hm
  have hfree : (en m).armed = false := by rw [h.free m h2]
  rcases hr with ⟨_, ha⟩ | ⟨k, rfl, hk, ha, hb⟩
  · rw [ha m h1] at hfree; cases hfree
  · rcases Nat.lt_trichotomy k m with c | c | c
    · rw [(h.armed k).2 (h3 k c)] at ha; cases ha
    · rw [c]
    · rw [hb m c] at hfree; cases hfree
theorem Fits.arm {n now : Nat} {A : List Tm} {en : Nat → Ent} (h : Fits n now A en) {m : Nat} (hm : m < n) (hno : ∀ a ∈ A, a.num ≠ m) (tag : Int) (k : Nat) (h1 : 1 ≤ k) (h2 : k ≤ 16777215) :
    Fits n now (A ++ [⟨m, tag, now + k⟩]) (upd en m ⟨true, tag, now + k⟩) := by
  refine ⟨?_, fun a ha => ?_, fun a ha => ?_, fun a ha => ?_, fun i hi => ?_, h.n64⟩
  · rw [List.map_append, List.nodup_append]
    refine ⟨h.nod, by simp, fun x hx y hy e => ?_⟩
    obtain ⟨a, ha, rfl⟩ := List.mem_map.1 hx
    simp at hy
    exact hno a ha (by rw [e, hy])
  · rcases List.mem_append.1 ha with h3 | h3
    · exact h.num a h3
    · simp at h3; rw [h3]; exact hm
  · rcases List.mem_append.1 ha with h3 | h3
    · exact h.due a h3
    · simp at h3; subst h3; exact ⟨by show now < now + k; omega, by show now + k ≤ now + 16777215; omega⟩
  · rcases List.mem_append.1 ha with h3 | h3
    · rw [upd_other _ _ _ (hno a h3)]; exact h.ent a h3
    · simp at h3; subst h3; exact upd_same _ _ _
  · have hne : i ≠ m := fun e => hi ⟨m, tag, now + k⟩ (by simp) e.symm
    rw [upd_other _ _ _ hne]
    exact h.free i (fun a ha => hi a (by simp [ha]))

set_option maxHeartbeats 2000000 in
theorem arm_ok (h : Wl w b n now A fp) (hn : now ≤ 100000000) (m k : Nat) (hm : Least n A m) (t tag : Int) (ht : t = (k : Int)) (h1 : 1 ≤ k) (h2 : k ≤ 16777215) :
    Calls Tryd.prog 12 #[.pointer (some ⟨b, 0, none⟩), .int .i64 t, .int .i64 tag] w fun e w' => e = .returned (.tuple #[.int .i64 (m : Int), .nilIface]) ∧ After w w' b n now (A ++ [⟨m, tag, now + k⟩]) fp := by
  subst ht
  obtain ⟨tb, vs, en, hw, hf, rfl⟩ := h
  have htm := hw.tims
  have h0 := hw.now_.1
  have hmn := hm.1
  have HW := Lib.hid hw
  have HF := Lib.hid hf
  have HN := Lib.hid hf.n64
  have HM := Lib.hid hm
  have q0 : decide ((k : Int) < 1) = false := by simp; omega
  have q1 : decide (16777215 < (k : Int)) = false := by simp; omega
  have q2 : decide ((m : Int) < 0) = false := by simp
  clear hw hf hm
  go_enter Tryd.func12, Tryd.ntmps12
  go_wp2_with fail
  (with_reducible refine (pick_any HW.out HN.out).mono ?_)
  rintro e w1 ⟨r, rfl, hi, hb⟩
  obtain rfl := HF.out.pick HM.out hi
  have HB := Lib.hid hb
  have HW1 := Lib.hid (HW.out.below hb)
  have h01 := below_cell hb h0
  have htm1 := below_cell hb htm
  obtain ⟨e0, e1, e2⟩ := HW1.out.ent m hmn
  have fz := HW1.out.frz
  obtain ⟨W2, hW2⟩ : ∃ W2, W2 = (((w1.setCell ⟨tb, m * 3, none⟩ (.bool true)).setCell ⟨tb, m * 3 + 1, none⟩ (.int .i64 tag)).setCell ⟨tb, m * 3 + 2, none⟩ (.int .u64 ((now + k : Nat) : Int))) := ⟨_, rfl⟩
  obtain ⟨se, sk⟩ := HW1.out.setEnt hmn ⟨true, tag, now + k⟩
  have HW2 := Lib.hid (show Wh W2 b tb n now vs (upd en m ⟨true, tag, now + k⟩) (slo (fun a => six now a.due) A) by rw [hW2]; exact se)
  have HK2 := Lib.hid (show Keep (fun g => g = tb) w1 W2 by rw [hW2]; exact sk)
  rw [show ((now + k : Nat) : Int) = (now : Int) + (k : Int) by omega] at hW2
  have HSL := Lib.hid (slotOf_any HW2.out (now + k) (by show now < _; omega) (by show now + k < _; omega))
  rw [show ((now + k : Nat) : Int) = (now : Int) + (k : Int) by omega] at HSL
  clear hi hb h0 htm se sk
  go_wp2_with fail
  rw [← hW2]
  (with_reducible refine HSL.out.mono ?_)
  rintro e w3 ⟨rfl, md, hmd⟩
  obtain ⟨p, HP⟩ : ∃ p, Hid (p = six now (now + k)) := ⟨_, Lib.hid rfl⟩
  have hp : p < 256 := by rw [HP.out]; exact six_lt _ _
  rw [← HP.out]
  have HW3 := Lib.hid (show Wh w3 b tb n now vs (upd en m ⟨true, tag, now + k⟩) (slo (fun a => six now a.due) A) by rw [hmd]; exact HW2.out.drewN md)
  have HK3 := Lib.hid (show Keep (fun g => g = tb) w1 w3 by rw [hmd]; exact HK2.out.more md)
  obtain ⟨a2, c2, ev⟩ := (HW3.out.own p hp).len
  obtain ⟨M, HM3⟩ : ∃ M, Hid (M = (slo (fun a => six now a.due) A p).length) := ⟨_, Lib.hid rfl⟩
  have hlenM : M ≤ 1000000 := by
    have e1 := slo_len (fun a => six now a.due) A p
    have e2 := HF.out.len
    have e3 := HN.out
    rw [HM3.out]
    omega
  have hc3 := (HW3.out.slot p hp).1
  rw [ev, ← HM3.out] at hc3
  have HO := Lib.hid (HW3.out.own p hp)
  rw [ev, ← HM3.out] at HO
  have HV := Lib.hid ev
  have HB3 := Lib.hid (below_alloc (Below.refl w3.heap.size w3) (.cells #[.int .i64 (m : Int)] 3))
  have HO3 := Lib.hid (show Own nc (w3.alloc (.cells #[.int .i64 (m : Int)] 3)) (.slice a2 M c2) (slo (fun a => six now a.due) A p) from HO.out.keep (Keep.of_below (F := fun _ => False) HB3.out) (fun _ _ h => h))
  have HY := Lib.hid (show (w3.alloc (.cells #[.int .i64 (m : Int)] 3)).cell? ⟨w3.heap.size, 0, none⟩ = some (nc m) from by rw [cell_of_row _ _ _ _ _ _ (heap_alloc_new _ _)]; rfl)
  clear hmd hW2 fz e0 e1 e2 ev htm1 h01
  go_wp2_with (at_builtin; refine wpList_app1 (f := nc) (fun _ => rfl) rfl _ _ rfl (.slice a2 M c2) (slo (fun a => six now a.due) A p) rfl HO3.out ⟨w3.heap.size, 0, none⟩ m rfl HY.out (by rw [← HM3.out]; exact hlenM) ?_; intro g3 cap3 w4 hown hgr hat hlt3; rw [← HM3.out] at hown; rw [← HM3.out]; have HO4 := Lib.hid hown; have HG4 := Lib.hid hgr; have HAT := Lib.hid hat; obtain ⟨hst, hsf⟩ := HW3.out.still hp HB3.out (by rw [HV.out, ← HM3.out]; exact hgr); clear hown hgr hat hlt3)
  go_ret2
  refine ⟨rfl, ?_⟩
  obtain ⟨s1, s2, s3⟩ := (HW3.out.below HB3.out).setSlot hp (.inr rfl) (by rw [HV.out, ← HM3.out]; exact HG4.out) HO4.out (by
    rcases HAT.out with h | h
    · exact .inr (.inl (by rw [HV.out, ← HM3.out, h]; rfl))
    · exact .inr (.inr ⟨g3, rfl, by omega⟩))
  have hz : w.heap.size ≤ (w3.alloc (.cells #[.int .i64 (m : Int)] 3)).heap.size := Nat.le_trans HB.out.size (Nat.le_trans HK3.out.size HB3.out.size)
  rw [show upd (slo (fun a => six now a.due) A) p (slo (fun a => six now a.due) A p ++ [m]) = slo (fun a => six now a.due) (A ++ [⟨m, tag, now + k⟩]) by rw [slo_app, show six now (⟨m, tag, now + k⟩ : Tm).due = p from HP.out.symm]] at s1
  refine ⟨_, ⟨tb, _, _, s1, HF.out.arm hmn HM.out.2.1 tag k h1 h2, rfl⟩, ?_, fun g hg => ?_⟩
  · exact (((Keep.of_below (F := Fp b tb vs) HB.out).trans HK3.out (fun g hg => .inl (.inr (.inl hg)))).trans (Keep.of_below (F := fun _ => False) HB3.out) (fun _ h => h.elim)).trans s2 (fun g hg => .inl hg)
  · rcases s3 g hg with h | h
    · exact .inl h
    · right; omega
end Go.Proofs.YtaonnkocopngaaaDoor

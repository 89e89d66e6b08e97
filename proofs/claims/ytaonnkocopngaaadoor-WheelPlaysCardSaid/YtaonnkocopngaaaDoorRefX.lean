/-
  The document's wheel: Cancel.
-/
import Derived.Test.YtaonnkocopngaaaDoorRefT
import Derived.Deep.RegionHeld3
import Derived.Deep.RegionLaw
namespace Go.Proofs.YtaonnkocopngaaaDoor
open Go.RowKit

variable {B x pool : Nat} {w w' w1 w2 : World} {v v' : Value} {ts : List Tm}
theorem rcancel_no (h : RWh w x pool ts v) (num : Int) (hno : ∀ a ∈ ts, (a.num : Int) ≠ num) :
    Calls Tryd.prog 16 #[.pointer (some ⟨x, 0, none⟩), .int .i64 num] w fun e w' => e = .returned (.bool false) ∧ w' = w := by
  have HC := Lib.hid (rat_any h num)
  have HNO := Lib.hid hno
  clear h hno
  go_enter Tryd.func16, Tryd.ntmps16
  go_wp2_with fail
  (with_reducible refine HC.out.mono ?_)
  rintro e w1 ⟨r, rfl, hr, hw⟩
  cases hw
  obtain rfl : r = -1 := by
    rcases hr with ⟨h, _⟩ | ⟨j, a, _, hj, hn⟩
    · exact h
    · exact absurd hn (HNO.out a (List.mem_of_getElem? hj))
  clear hr
  go_wp2_with fail
  go_ret
  exact ⟨rfl, rfl⟩
theorem del_list (ts : List Tm) (j : Nat) (a : Tm) (h : ts[j]? = some a) (hd : (ts.map Tm.num).Nodup) : ts.take j ++ ts.drop (j + 1) = ts.filter fun c => c.num != a.num := by
  obtain ⟨hj, e⟩ := List.getElem?_eq_some_iff.1 h
  have hp := List.pairwise_iff_getElem.1 (List.nodup_iff_pairwise_ne.1 hd)
  have h1 : (ts.take j).filter (fun c => c.num != a.num) = ts.take j := by
    rw [List.filter_eq_self]
    intro c hc
    obtain ⟨i, hi, ei⟩ := List.mem_take_iff_getElem.1 hc
    have := hp i j (by simp; omega) (by simpa using hj) (by omega)
    simp only [List.getElem_map, ei, e] at this
    simpa using this
  have h2 : (ts.drop (j + 1)).filter (fun c => c.num != a.num) = ts.drop (j + 1) := by
    rw [List.filter_eq_self]
    intro c hc
    obtain ⟨i, hi, ei⟩ := List.mem_drop_iff_getElem.1 hc
    have := hp j (j + 1 + i) (by simpa using hj) (by simp; omega) (by omega)
    simp only [List.getElem_map, e] at this
    rw [show ts[j + 1 + i] = c from ei] at this
    simpa using fun hh => this hh.symm
  conv => rhs; rw [← List.take_append_drop j ts, List.drop_eq_getElem_cons hj, e]
  rw [List.filter_append, List.filter_cons_of_neg (by simp), h1, h2]
theorem step_run {ops : Array Oper} {o : Oper} {a : Act} {K : Act → World → Prop} {Q : Exit → Act → World → Prop} {E : Prop} (hgd : o.guard = none) (s y : Operand) (t : TypeId) (ho : o.op = .call { callee := .builtin .append, args := #[s, y], argTypes := #[t, t] })
    {v u v' : Value} {w w' : World} (hs : a.eval s = v) (hx : a.eval y = u) (hrun : (Builtin.append_ #[t, t] o.type #[v, u]).run Tryd.prog w = .ok v' w') (h : K (a.put o.dst v') w') :
    if Region.wanted o (yielded ops a.tmps) = true then Oper.wp Tryd.prog o a w K Q else E := by
  have hw : Region.wanted o (yielded ops a.tmps) = true := by simp [Region.wanted, hgd]
  rw [if_pos hw]
  unfold Oper.wp
  simp [execOp, ho, resolve, invoke, builtin, hs, hx, hrun, Result.andThen]
  exact h
theorem sizeT (w : World) : (sizeOf 65).run Tryd.prog w = .ok 3 w := by kernel_rfl
theorem elemT : Tryd.prog.elem 54 = 65 := by kernel_rfl
theorem cut_low (g n cap j : Nat) (hj : j ≤ n) (hc : n ≤ cap) (w' : World) : (Instr.slice 54 (.slice (some ⟨g, 0, none⟩) n cap) none (some (.int .i64 (j : Int))) none).run Tryd.prog w' = .ok (.slice (some ⟨g, 0, none⟩) j cap) w' := by
  have hu : Tryd.prog.underlying 54 = some (.slice (Tryd.prog.elem 54)) := by rw [elemT]; exact Tryd.underlying54
  rw [run_slice_h _ _ _ _ _ hu _ _ (by omega) (by omega), elemT, sizeT]
  simp [Result.andThen, sliced]
  intro h
  rw [plain_add]
theorem cut_high (g n cap j : Nat) (hj : j < n) (hc : n ≤ cap) : ∃ ad c, (∀ w', (Instr.slice 54 (.slice (some ⟨g, 0, none⟩) n cap) (some (.int .i64 ((j : Int) + 1))) none none).run Tryd.prog w' = .ok (.slice (some ad) (n - (j + 1)) c) w') ∧ (n - (j + 1) = 0 ∨ ad = ⟨g, (j + 1) * 3, none⟩) := by
  have hu : Tryd.prog.underlying 54 = some (.slice (Tryd.prog.elem 54)) := by rw [elemT]; exact Tryd.underlying54
  by_cases hck : cap = j + 1
  · refine ⟨⟨g, 0, none⟩, 0, fun w' => ?_, .inl (by omega)⟩
    rw [run_slice_l _ _ _ _ _ hu _ _ (by omega) (by omega), elemT, sizeT]
    have : ((j : Int) + 1).toNat = j + 1 := by omega
    simp [Result.andThen, sliced, hck, this]
  · refine ⟨⟨g, (j + 1) * 3, none⟩, cap - (j + 1), fun w' => ?_, .inr rfl⟩
    rw [run_slice_l _ _ _ _ _ hu _ _ (by omega) (by omega), elemT, sizeT]
    have : ((j : Int) + 1).toNat = j + 1 := by omega
    simp [Result.andThen, sliced, hck, plain_add, this]

set_option maxRecDepth 10000 in
set_option maxHeartbeats 400000 in
theorem rcancel_yes (h : RWh w x pool ts v) (hd : (ts.map Tm.num).Nodup) (a : Tm) (ha : a ∈ ts) (num : Int) (hn : num = (a.num : Int)) :
    Calls Tryd.prog 16 #[.pointer (some ⟨x, 0, none⟩), .int .i64 num] w fun e w' => e = .returned (.bool true) ∧ RAfter w w' x pool (ts.filter fun c => c.num != a.num) v := by
  have HC := Lib.hid (rat_any h num)
  have HW := Lib.hid h
  have HD := Lib.hid hd
  have HA := Lib.hid ha
  have HNM := Lib.hid hn
  clear h hd ha hn
  go_enter Tryd.func16, Tryd.ntmps16
  go_wp2_with fail
  (with_reducible refine HC.out.mono ?_)
  rintro e w1 ⟨r, rfl, hr, hw⟩
  cases hw
  clear HC
  obtain ⟨j, c, rfl, hj, hc⟩ : ∃ (j : Nat) (c : Tm), r = (j : Int) ∧ ts[j]? = some c ∧ (c.num : Int) = num := by
    rcases hr with ⟨_, hno⟩ | h
    · exact absurd HNM.out.symm (hno a HA.out)
    · exact h
  have hca : c.num = a.num := by have := HNM.out; omega
  have HJ := Lib.hid (show ts.take j ++ ts.drop (j + 1) = ts.filter fun c => c.num != a.num by rw [← hca]; exact del_list ts j c hj HD.out)
  obtain ⟨n, HN⟩ : ∃ n, Hid (n = ts.length) := ⟨_, Lib.hid rfl⟩
  have hjn : j < n := by rw [HN.out]; exact (List.getElem?_eq_some_iff.1 hj).1
  obtain ⟨g, cap, ev, _⟩ := HW.out.own.at_ j c hj
  have hcap : n ≤ cap := by
    rcases HW.out.own.form with ⟨e1, _⟩ | ⟨g2, cap2, e1, _, _, hcc⟩
    · rw [ev] at e1; cases e1
    · rw [ev] at e1
      simp only [Value.slice.injEq] at e1
      rw [HN.out, e1.2.2]; exact hcc
  rw [← HN.out] at ev
  have hn64 : n ≤ 64 := by rw [HN.out]; have := HW.out.small; omega
  have hv := HW.out.v_.1
  rw [ev] at hv
  have q0 : decide ((j : Int) < 0) = false := by simp
  have hj1 : (j : Int) ≤ (n : Int) := by omega
  have hj2 : (j : Int) + 1 ≤ (n : Int) := by omega
  clear hr hj hc hca
  go_wp2_with fail
  have h0 : (w.drew).cell? ⟨x, 1, none⟩ = some (.slice (some ⟨g, 0, none⟩) n cap) := hv
  have hs1 := fun w' => cut_low g n cap j (by omega) hcap w'
  obtain ⟨ad, c2, hs2, had⟩ := cut_high g n cap j hjn hcap
  obtain ⟨W1, hW1⟩ : ∃ W1, W1 = (w.alloc (.cells #[] 65)).drew := ⟨_, rfl⟩
  have hb1 : Below w.heap.size w W1 := by rw [hW1]; exact (below_alloc (Below.refl _ w) _).trans (below_drewN _ 1 |>.mono (by simp))
  have ho1 : Ts w.heap.size W1 (.slice (some ⟨w.heap.size, 0, none⟩) 0 0) [] := by
    rw [hW1]
    have := World.ownsRow_made (base := w.heap.size) (e := 65) (size := 3) w #[] 0 (Nat.le_refl _) (by decide) rfl
    exact this
  have hw1 := HW.out.below hb1
  have hat1 : ∀ i u, ((ts.take j).flatMap tmc)[i]? = some u → W1.cell? ((⟨g, 0, none⟩ : Addr).add i) = some u := some_at g 0 _ (fun i b hb => by
    have hbi : ts[i]? = some b := by rw [List.getElem?_take] at hb; split at hb <;> simp_all
    obtain ⟨g2, cap2, e1, _, r1, r2, r3⟩ := hw1.own.at_ i b hbi
    rw [ev] at e1
    simp only [Value.slice.injEq, Option.some.injEq, Addr.mk.injEq] at e1
    rw [e1.1.1]
    simp only [Nat.zero_add]
    exact ⟨r1, r2, r3⟩)
  have hlen12 : (ts.take j).length + (ts.drop (j + 1)).length ≤ 1000000 := by rw [List.length_take, List.length_drop, ← HN.out]; omega
  have hlen1 : ([] : List Tm).length + (ts.take j).length ≤ 1000000 := by rw [List.length_take]; show 0 + min j ts.length ≤ _; omega
  obtain ⟨v1, W2, hr1, ho2, hg1⟩ := run_appT w.heap.size 54 (.slice (some ⟨w.heap.size, 0, none⟩) 0 0) [] ho1 ⟨g, 0, none⟩ cap (ts.take j) hat1 hlen1 hb1.size
  have hl1 : (ts.take j).length = j := by rw [List.length_take, ← HN.out]; omega
  have hl2 : (ts.drop (j + 1)).length = n - (j + 1) := by rw [List.length_drop, ← HN.out]
  have hb2 : Below w.heap.size w W2 := hb1.trans ((Keep.grown (F := fun y => y = w.heap.size) hg1 (fun y hy => (Option.some.inj (show some w.heap.size = some y from hy)).symm)).below (fun y hy => by omega) hb1.size)
  have hw2 := HW.out.below hb2
  rw [List.nil_append] at ho2
  have hat2 : ∀ i u, ((ts.drop (j + 1)).flatMap tmc)[i]? = some u → W2.cell? (ad.add i) = some u := by
    rcases had with h | h
    · have : ts.drop (j + 1) = [] := List.length_eq_zero_iff.1 (by rw [hl2]; exact h)
      intro i u hu
      rw [this] at hu
      simp at hu
    · subst h
      refine some_at g ((j + 1) * 3) _ (fun i b hb => ?_)
      rw [List.getElem?_drop] at hb
      obtain ⟨g2, cap2, e1, _, r1, r2, r3⟩ := hw2.own.at_ (j + 1 + i) b hb
      rw [ev] at e1
      simp only [Value.slice.injEq, Option.some.injEq, Addr.mk.injEq] at e1
      rw [e1.1.1, show (j + 1) * 3 + i * 3 = (j + 1 + i) * 3 by omega]
      exact ⟨r1, r2, r3⟩
  obtain ⟨v2, W3, hr2, ho3, hg2⟩ := run_appT w.heap.size 54 v1 (ts.take j) ho2 ad c2 (ts.drop (j + 1)) hat2 hlen12 hb2.size
  have hb3 : Below w.heap.size w W3 := hb2.trans ((Keep.grown (F := fun y => v1.ownBlock = some y) hg2 (fun y hy => hy)).below (fun y hy => (ho2.lt hy).1) hb2.size)
  rw [hl1] at hr1
  rw [hl2] at hr2
  have hc1 := below_cell hb1 hv
  have hc2 := below_cell hb2 hv
  have hc3 := below_cell hb3 hv
  obtain ⟨hx3, hf3⟩ := (HW.out.below hb3).v_
  rw [ev] at hx3
  have HB3 := Lib.hid hb3
  have HO3 := Lib.hid ho3
  have HLL := Lib.hid (show (ts.take j ++ ts.drop (j + 1)).length ≤ pool by rw [List.length_append, hl1, hl2]; have := HW.out.small; have := HN.out; omega)
  have hfin : RAfter w (W3.setCell ⟨x, 1, none⟩ v2) x pool (ts.filter fun c => c.num != a.num) v := by
    obtain ⟨r1, r2⟩ := HW.out.setv (v' := v2) (Keep.of_below (F := fun _ => False) hb3) (fun _ h => h.elim) (ho3.base (B' := 0) (fun _ _ => Nat.zero_le _)) (fun y hy => .inr (ho3.lt hy).1) HLL.out
    rw [HJ.out] at r1
    exact ⟨v2, r1, r2, fun y hy => .inr (ho3.lt hy).1⟩
  obtain ⟨a1, cc1, e1⟩ := ho2.len
  obtain ⟨a3, cc3, e3⟩ := ho3.len
  rw [hl1] at e1
  rw [List.length_append, hl1, hl2] at e3
  subst e1 e3
  have HFIN := Lib.hid hfin
  have hwr : IntKind.i64.wrap ((j : Int) + 1) = (j : Int) + 1 := by rw [IntKind.wrap_i64]; omega
  clear hfin hlen1 hlen12 ho1 hw1 hat1 ho2 hw2 hat2 had ho3 hg1 hg2 hl1 hl2 hb1 hb2 hb3
  subst hW1
  go_region_law (first | (refine step_run rfl _ _ _ rfl rfl rfl hr1 ?_; clear hr1) | (refine step_run rfl _ _ _ rfl rfl rfl hr2 ?_))
  all_goals
    go_wp2_with fail
    go_ret
    exact ⟨rfl, HFIN.out⟩
end Go.Proofs.YtaonnkocopngaaaDoor

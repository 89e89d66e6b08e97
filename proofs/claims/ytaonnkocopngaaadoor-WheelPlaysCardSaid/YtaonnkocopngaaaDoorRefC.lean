/-
  The document's wheel: Left, Free, Arm.
-/
import Derived.Test.YtaonnkocopngaaaDoorRefW
namespace Go.Proofs.YtaonnkocopngaaaDoor
open Go.RowKit

variable {B x pool : Nat} {w w' w1 w2 : World} {v v' : Value} {ts : List Tm}
theorem RWh.still {w3 : World} (h : RWh w x pool ts v) (hb : Below w.heap.size w w2) (hg : w2.grownBy w3 v.ownBlock) : w3.cell? ⟨x, 1, none⟩ = some v ∧ w3.frozen? ⟨x, 1, none⟩ = false := by
  have h2 := h.below hb
  have hbl : w3.heap[x]? = w2.heap[x]? := hg.block x h2.xlt (fun e => h2.ne e.symm)
  have h3 := h2.v_
  exact ⟨by rw [World.cell?_of_block (a := ⟨x, 1, none⟩) hbl]; exact h3.1, by rw [World.frozen?_of_block (a := ⟨x, 1, none⟩) hbl]; exact h3.2⟩
theorem RAfter.pre (hb : Below w.heap.size w w1) (h : RAfter w1 w2 x pool ts v) : RAfter w w2 x pool ts v := by
  obtain ⟨v', r1, r2, r3⟩ := h
  refine ⟨v', r1, (Keep.of_below (F := Rp x v) hb).trans r2 (fun g hg => .inl hg), fun g hg => ?_⟩
  rcases r3 g hg with h | h
  · exact .inl h
  · right
    have := hb.size
    omega
/-- What Left tells. -/
def LeftN (ts : List Tm) (num : Int) (r : Int) : Prop := (r = 0 ∧ ∀ a ∈ ts, (a.num : Int) ≠ num) ∨ ∃ a ∈ ts, (a.num : Int) = num ∧ r = (a.due : Int)
theorem rleft_any (h : RWh w x pool ts v) (num : Int) :
    Calls Tryd.prog 23 #[.pointer (some ⟨x, 0, none⟩), .int .i64 num] w fun e w' => ∃ r, e = .returned (.int .i64 r) ∧ LeftN ts num r ∧ w' = w := by
  have HC := Lib.hid (rat_any h num)
  obtain ⟨a0, c0, ev⟩ := h.own.len
  obtain ⟨n, HN⟩ : ∃ n, Hid (n = ts.length) := ⟨_, Lib.hid rfl⟩
  have hv := h.v_.1
  have HO := Lib.hid h.own
  rw [ev, ← HN.out] at hv
  rw [ev] at HO
  clear h ev
  go_enter Tryd.func23, Tryd.ntmps23
  go_wp2_with fail
  (with_reducible refine HC.out.mono ?_)
  rintro e w1 ⟨r, rfl, hr, hw⟩
  cases hw
  rcases hr with ⟨rfl, hno⟩ | ⟨j, a, rfl, hj, hn⟩
  · have HNO := Lib.hid hno
    clear hno
    go_wp2_with fail
    go_ret
    exact ⟨_, rfl, .inl ⟨rfl, HNO.out⟩, rfl⟩
  · have hjn : j < n := by rw [HN.out]; exact (List.getElem?_eq_some_iff.1 hj).1
    have hjz : (j : Int) < (n : Int) := by omega
    have q0 : decide ((j : Int) < 0) = false := by simp
    obtain ⟨g, cap, e1, _, _, _, hc⟩ := HO.out.at_ j a hj
    simp only [Value.slice.injEq] at e1
    obtain ⟨rfl, _, _⟩ := e1
    obtain ⟨d, HD⟩ : ∃ d : Int, Hid (d = (a.due : Int)) := ⟨_, Lib.hid rfl⟩
    rw [← HD.out] at hc
    have HJ := Lib.hid hj
    have HNN := Lib.hid hn
    clear hj hn
    go_wp2_with fail
    go_ret
    exact ⟨_, rfl, .inr ⟨a, List.mem_of_getElem? HJ.out, HNN.out, HD.out⟩, rfl⟩
theorem rfree_any (h : RWh w x pool ts v) (r : Int) (hr : r = ((pool - ts.length : Nat) : Int)) :
    Calls Tryd.prog 21 #[.pointer (some ⟨x, 0, none⟩)] w fun e w' => e = .returned (.int .i64 r) ∧ ∃ m, w' = w.drewN m := by
  obtain ⟨a0, c0, ev⟩ := h.own.len
  obtain ⟨h1, h2⟩ := h.small
  have hv := h.v_.1
  have hp := h.pool_
  rw [ev] at hv
  have HR := Lib.hid (show r = (pool : Int) - (ts.length : Int) by omega)
  generalize ts.length = n at *
  clear h ev hr
  go_enter Tryd.func21, Tryd.ntmps21
  go_wp2_with fail
  go_quiet (fail)
  go_wp2_with fail
  go_ret
  rw [HR.out]
  exact ⟨rfl, _, rfl⟩
theorem rarm_range (x : Nat) (t tag : Int) (ht : t < 1 ∨ 16777215 < t) (w : World) :
    Calls Tryd.prog 13 #[.pointer (some ⟨x, 0, none⟩), .int .i64 t, .int .i64 tag] w fun e w' => e = .returned (.tuple #[.int .i64 0, .int .i64 6]) ∧ w' = w := by
  rcases Decidable.em (t < 1) with h1 | h1
  · have q0 : decide (t < 1) = true := by simp; omega
    clear ht
    go_enter Tryd.func13, Tryd.ntmps13
    go_wp2_with fail
    go_ret2
    exact ⟨rfl, rfl⟩
  · have q0 : decide (t < 1) = false := by simp; omega
    have q1 : decide (16777215 < t) = true := by simp; omega
    clear ht h1
    go_enter Tryd.func13, Tryd.ntmps13
    go_wp2_with fail
    go_ret2
    exact ⟨rfl, rfl⟩
theorem rarm_full (h : RWh w x pool ts v) (hl : ts.length = pool) (t tag : Int) (h1 : 1 ≤ t) (h2 : t ≤ 16777215) :
    Calls Tryd.prog 13 #[.pointer (some ⟨x, 0, none⟩), .int .i64 t, .int .i64 tag] w fun e w' => e = .returned (.tuple #[.int .i64 0, .int .i64 5]) ∧ ∃ m, w' = w.drewN m := by
  obtain ⟨a0, c0, ev⟩ := h.own.len
  have hv := h.v_.1
  have hp := h.pool_
  rw [ev, hl] at hv
  have q0 : decide (t < 1) = false := by simp; omega
  have q1 : decide (16777215 < t) = false := by simp; omega
  clear h ev hl h1 h2
  go_enter Tryd.func13, Tryd.ntmps13
  go_wp2_with fail
  go_quiet (fail)
  go_wp2_with fail
  go_ret2
  exact ⟨rfl, _, rfl⟩
/-- One timer behind the others. -/
theorem wpList_appT1 {ops : Array Oper} {rest : List Oper} {o : Oper} {a : Act} {Q : Exit → Act → World → Prop} (hgd : o.guard = none) (s y : Operand)
    (ho : o.op = .call { callee := .builtin .append, args := #[s, y], argTypes := #[54, 54] })
    (B : Nat) (v : Value) (ts : List Tm) (hs : a.eval s = v) (hown : Ts B w v ts) (ad : Addr) (t : Tm) (hx : a.eval y = .slice (some ad) 1 1) (hu : ∀ j u, (([t] : List Tm).flatMap tmc)[j]? = some u → w.cell? (ad.add j) = some u)
    (hm : ts.length ≤ 1000000) (hb : B ≤ w.heap.size)
    (h : ∀ g cap w', Ts B w' (.slice (some ⟨g, 0, none⟩) (ts.length + 1) cap) (ts ++ [t]) → w.grownBy w' v.ownBlock → (v.ownBlock = some g ∨ g = w.heap.size) → g < w'.heap.size → wpList Tryd.prog ops Q rest (a.put o.dst (.slice (some ⟨g, 0, none⟩) (ts.length + 1) cap)) w') :
    wpList Tryd.prog ops Q (o :: rest) a w := by
  obtain ⟨i0, hi, hz0, hz1, hz2⟩ := info_parts infoT
  refine wpList_append_lies w hgd s y 54 ho B 65 i0 (.agg #[.int .i64 0, .int .i64 0, .int .i64 0]) 3 24 Tryd.underlying54 hi hz0 hz1 hz2 rfl (by decide) v ts.length (ts.flatMap tmc) hs hown ad 1 1 (([t] : List Tm).flatMap tmc) hx rfl hu (tmc_one _)
    (by decide) (by unfold maxLen; omega) (by omega) hb _ rfl (fun g cap w' h1 h2 h3 h4 => h g cap w' ?_ h2 h3 h4)
  unfold Ts
  rw [List.length_append, List.flatMap_append]
  exact h1
theorem atn_least {n m k : Nat} {r : Int} (hm : Least n ts m) (hk : k ≤ m) (h : AtN ts (k : Int) r) : (k < m → 0 ≤ r) ∧ (k = m → r = -1) := by
  rcases h with ⟨rfl, hno⟩ | ⟨j, a, rfl, hj, hn⟩
  · refine ⟨fun hlt => ?_, fun _ => rfl⟩
    obtain ⟨a, ha, e⟩ := hm.2.2 k hlt
    exact absurd (by rw [e]) (hno a ha)
  · refine ⟨fun _ => by omega, fun e => ?_⟩
    have := hm.2.1 a (List.mem_of_getElem? hj)
    omega
set_option maxHeartbeats 1000000 in
theorem rarm_ok (h : RWh w x pool ts v) (n m k : Nat) (hm : Least n ts m) (hlt : ts.length < pool) (t tag : Int) (ht : t = (k : Int)) (h1 : 1 ≤ k) (h2 : k ≤ 16777215) (hm64 : m ≤ 64) :
    Calls Tryd.prog 13 #[.pointer (some ⟨x, 0, none⟩), .int .i64 t, .int .i64 tag] w fun e w' => e = .returned (.tuple #[.int .i64 (m : Int), .int .i64 0]) ∧ RAfter w w' x pool (ts ++ [⟨m, tag, k⟩]) v := by
  subst ht
  obtain ⟨a0, c0, ev⟩ := h.own.len
  obtain ⟨N, HN⟩ : ∃ N, Hid (N = ts.length) := ⟨_, Lib.hid rfl⟩
  have hv := h.v_.1
  have hp := h.pool_
  rw [ev, ← HN.out] at hv
  have HV := Lib.hid ev
  have HW := Lib.hid h
  have HM := Lib.hid hm
  have hNp : N < pool := by rw [HN.out]; exact hlt
  have q0 : decide ((k : Int) < 1) = false := by simp; omega
  have q1 : decide (16777215 < (k : Int)) = false := by simp; omega
  have q2 : decide ((pool : Int) ≤ (N : Int)) = false := by simp; omega
  have q3 : decide (pool ≤ N) = false := by simp; omega
  have HLT := Lib.hid hlt
  have HK1 := Lib.hid h1
  have HK2 := Lib.hid h2
  clear h hm ev hlt h1 h2
  go_enter Tryd.func13, Tryd.ntmps13
  go_wp2_with fail
  go_quiet (fail)
  go_wp2_with fail
  clear q0 q1 q2 q3
  go_loopw [8] (fun u wr => ∃ q : Nat, q ≤ m ∧ u = .int .i64 (q : Int) ∧ Hid (wr = w.drewN nq)) (fun u _ => m - (intOf u).toNat)
  case atStart => exact ⟨0, by omega, rfl, Lib.hid rfl⟩
  case round =>
    obtain ⟨q, hq, rfl, HWR⟩ := hrel
    have HWW := Lib.hid (show RWh wr x pool ts v by rw [HWR.out]; exact HW.out.below (below_drewN w nq))
    go_wp2_with fail
    (with_reducible refine (rat_any HWW.out (q : Int)).mono ?_)
    rintro e w3 ⟨r, rfl, hr, hw⟩
    cases hw
    obtain ⟨r1, r2⟩ := atn_least HM.out hq hr
    by_cases hlt2 : q < m
    · have hr0 : 0 ≤ r := r1 hlt2
      have qr : decide (0 ≤ r) = true := by simp; omega
      clear r1 r2 hr
      go_wp2_with fail
      go_roundw
      case rel => exact ⟨q + 1, by omega, by go_num, HWR⟩
      case measure => simp [intOf]; omega
    · obtain rfl : q = m := by omega
      obtain rfl : r = -1 := r2 rfl
      have hvr := HWW.out.v_.1
      rw [HV.out, ← HN.out] at hvr
      clear r1 r2 hr hv hp
      have hN6 : N ≤ 1000000 := by have := HWW.out.small; rw [HN.out]; omega
      have HB3 := Lib.hid (below_alloc (Below.refl wr.heap.size wr) (.cells #[.int .i64 (q : Int), .int .i64 tag, .int .i64 (k : Int)] 65))
      have HO3 := Lib.hid (show Ts 0 (wr.alloc (.cells #[.int .i64 (q : Int), .int .i64 tag, .int .i64 (k : Int)] 65)) (.slice a0 N c0) ts by
        have := HWW.out.own.keep (Keep.of_below (F := fun _ => False) HB3.out) (fun _ _ h => h)
        rw [HV.out, ← HN.out] at this
        exact this)
      have HU := Lib.hid (one_at (w := wr.alloc (.cells #[.int .i64 (q : Int), .int .i64 tag, .int .i64 (k : Int)] 65)) wr.heap.size ⟨q, tag, k⟩ (by rw [cell_of_row _ _ _ _ _ _ (heap_alloc_new _ _)]; rfl) (by rw [cell_of_row _ _ _ _ _ _ (heap_alloc_new _ _)]; rfl) (by rw [cell_of_row _ _ _ _ _ _ (heap_alloc_new _ _)]; rfl))
      go_wp2_with (at_builtin; refine wpList_appT1 rfl _ _ rfl 0 (.slice a0 N c0) ts rfl HO3.out ⟨wr.heap.size, 0, none⟩ ⟨q, tag, k⟩ rfl HU.out (by rw [← HN.out]; exact hN6) (Nat.zero_le _) ?_; intro g3 cap3 w4 hown hgr hat hlt3; rw [← HN.out] at hown; rw [← HN.out]; have HO4 := Lib.hid hown; have HG4 := Lib.hid hgr; have HAT := Lib.hid hat; obtain ⟨hst, hsf⟩ := HWW.out.still HB3.out (by rw [HV.out, ← HN.out]; exact hgr); clear hown hgr hat hlt3)
      go_ret2
      refine ⟨rfl, ?_⟩
      have hwb : Below w.heap.size w wr := by rw [HWR.out]; exact below_drewN w nq
      have hk : Keep (fun g => v.ownBlock = some g) (wr.alloc (.cells #[.int .i64 (q : Int), .int .i64 tag, .int .i64 (k : Int)] 65)) w4 := Keep.grown HG4.out (fun g hg => by rw [HV.out, ← HN.out]; exact hg)
      refine RAfter.pre hwb (HWW.out.set_ ((Keep.of_below (F := fun g => v.ownBlock = some g) HB3.out).trans hk (fun g hg => .inl hg)) (fun g hg => hg) HO4.out (fun g hg => ?_) (by rw [List.length_append, ← HN.out]; exact hNp))
      have hg3 : g = g3 := by injection hg with hg; exact hg.symm
      subst hg3
      rcases HAT.out with h | h
      · left; rw [HV.out, ← HN.out]; exact h
      · right
        have := HB3.out.size
        omega
end Go.Proofs.YtaonnkocopngaaaDoor

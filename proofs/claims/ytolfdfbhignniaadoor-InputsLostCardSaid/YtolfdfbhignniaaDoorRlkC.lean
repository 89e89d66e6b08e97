/-
  The document's channels: Take by contracts.
-/
import Derived.Deep.RegionHeld3
import Derived.Deep.RegionLaw
import Derived.Test.YtolfdfbhignniaaDoorRlkAll
import Derived.Test.YtolfdfbhignniaaDoorSums

namespace Go.Proofs.YtolfdfbhignniaaDoor
open Go.RowKit

variable {w w' : World} {b F : Nat} {f : Nat → Ch} {v : Nat → Value} {D : Nat → Prop}
theorem step_run {ops : Array Oper} {o : Oper} {a : Act} {K : Act → World → Prop} {Q : Exit → Act → World → Prop} {E : Prop} (hgd : o.guard = none) (s y : Operand) (t : TypeId) (ho : o.op = .call { callee := .builtin .append, args := #[s, y], argTypes := #[t, t] })
    {v u v' : Value} {w w' : World} (hs : a.eval s = v) (hx : a.eval y = u) (hrun : (Builtin.append_ #[t, t] o.type #[v, u]).run Tryd.prog w = .ok v' w') (h : K (a.put o.dst v') w') :
    if Region.wanted o (yielded ops a.tmps) = true then Oper.wp Tryd.prog o a w K Q else E := by
  have hw : Region.wanted o (yielded ops a.tmps) = true := by simp [Region.wanted, hgd]
  rw [if_pos hw]
  unfold Oper.wp
  simp [execOp, ho, resolve, invoke, builtin, hs, hx, hrun, Result.andThen]
  exact h
/-- The document's Encode, as Take meets it. -/
theorem rcode_any (c q : Int) (u : Value) (xs : List (BitVec 8)) (w : World) (hu : Byts w u xs) (k : Int) (hk : k = if Fit c q xs.length then 0 else 1) :
    Calls Tryd.prog 56 #[.agg #[.int .i64 c, .int .i64 q, u]] w fun e w' => ∃ r, e = .returned (.tuple #[r, .int .i64 k]) ∧ Below w.heap.size w w' := by
  by_cases h : Fit c q xs.length
  · rw [hk, if_pos h]
    obtain ⟨x, y, rfl, rfl, hx⟩ := fit_bytes h
    exact (renc_yes x y u xs w hu hx h.2.2.2.2).mono fun e w' ⟨r, h1, h2, h3⟩ => ⟨r, h1, h3⟩
  · rw [hk, if_neg h]
    exact (renc_no c q u xs w hu h).mono fun e w' ⟨h1, h3⟩ => ⟨_, h1, h3⟩
theorem rtake_arg (c q : Int) (u : Value) (xs : List (BitVec 8)) (hu : Byts w u xs) (hn : ¬ Fit c q xs.length) :
    Calls Tryd.prog 50 #[.pointer (some ⟨b, 0, none⟩), .agg #[.int .i64 c, .int .i64 q, u]] w fun e w' => e = .returned (.int .i64 1) ∧ Below w.heap.size w w' := by
  have HB := Lib.hid (below_alloc (Below.refl _ w) (.cells #[.int .i64 c, .int .i64 q, u] 84))
  have HC := Lib.hid (rcode_any c q u xs _ (hu.below HB.out) 1 (by rw [if_neg hn]))
  obtain ⟨ua, uc, eu⟩ := hu.len
  clear hu hn
  subst eu
  go_enter Tryd.func50, Tryd.ntmps50
  go_wp2_with fail
  (with_reducible refine HC.out.mono ?_)
  rintro e w1 ⟨r, rfl, hb⟩
  have HB1 := Lib.hid (below_call HB.out hb)
  clear hb HB HC
  go_wp2_with fail
  go_ret
  exact ⟨rfl, HB1.out⟩
set_option maxHeartbeats 1000000 in
theorem rtake_old (h : Lk false w 100 b F f v D) (k : Nat) (hk : k < 16) (q : Int) (u : Value) (xs : List (BitVec 8)) (hu : Byts w u xs) (hq : 0 ≤ q ∧ q ≤ 255) (hl : xs.length ≤ 16) (hf : isF F (f k) = true) (hn : follows q (f k).seq = false) :
    Calls Tryd.prog 50 #[.pointer (some ⟨b, 0, none⟩), .agg #[.int .i64 (k : Int), .int .i64 q, u]] w fun e w' => e = .returned (.int .i64 4) ∧ Below w.heap.size w w' := by
  have HB := Lib.hid (below_alloc (Below.refl _ w) (.cells #[.int .i64 (k : Int), .int .i64 q, u] 84))
  have HX := Lib.hid (blk_new w #[.int .i64 (k : Int), .int .i64 q, u] 84)
  have HFit := Lib.hid (show Fit (k : Int) q xs.length by unfold Fit; omega)
  have HC := Lib.hid (rcode_any (k : Int) q u xs _ (hu.below HB.out) 0 (by rw [if_pos HFit.out]))
  have HL := Lib.hid h
  have HN := Lib.hid hn
  have HF := Lib.hid hf
  have hp := (h.ok k hk).seq
  obtain ⟨q0, q1⟩ := hq
  obtain ⟨p, HPP⟩ : ∃ p, Hid (p = (f k).seq) := ⟨_, Lib.hid rfl⟩
  rw [← HPP.out] at HN hp
  obtain ⟨p0, p1⟩ := hp
  obtain ⟨ua, uc, eu⟩ := hu.len
  have hk0 : (0 : Int) ≤ (k : Int) := by omega
  have hk1 : (k : Int) < 16 := by omega
  clear hu hn h hf hl
  subst eu
  go_enter Tryd.func50, Tryd.ntmps50
  go_wp2_with fail
  (with_reducible refine HC.out.mono ?_)
  rintro e w1 ⟨r, rfl, hb⟩
  have HB1 := Lib.hid (below_call HB.out hb)
  have HL1 := Lib.hid (HL.out.below HB1.out)
  obtain ⟨x0, x1, x2⟩ := (HX.out.below hb).three
  obtain ⟨c0, c1, c2, c3⟩ := HL1.out.at_ k hk
  rw [← HPP.out] at c1
  have HX1 := Lib.hid (HX.out.below hb)
  clear hb HB HC HX c0 c2 c3
  go_wp2_with fail
  go_quiet (fail)
  have HBd := Lib.hid (below_call HB1.out (bel_drewN w1 nq))
  have HL2 := Lib.hid (HL.out.below HBd.out)
  have HX2 := Lib.hid (HX1.out.below (bel_drewN w1 nq))
  generalize w1.drewN nq = w2 at *
  clear x0 x1 x2 c1
  obtain ⟨x0, x1, x2⟩ := HX2.out.three
  have HC2 := Lib.hid (rfresh_any HL2.out k hk k rfl true HF.out.symm)
  go_wp2_with fail
  (with_reducible refine HC2.out.mono ?_)
  rintro e w3 ⟨rfl, m, hw⟩
  have HB3 := Lib.hid (show Below w.heap.size w w3 by rw [hw]; exact below_call HBd.out (bel_drewN w2 m))
  clear hw HC2
  by_cases hs : (q - p) % 256 < 1
  · have d0 : decide ((q - p) % 256 < 1) = true := decide_eq_true hs
    clear hs
    go_wp2_with fail
    go_ret
    exact ⟨rfl, HB3.out⟩
  · have d0 : decide ((q - p) % 256 < 1) = false := decide_eq_false hs
    have d1 : decide (16 < (q - p) % 256) = true := decide_eq_true (by
      have := HN.out
      unfold follows at this
      simp at this
      omega)
    clear hs
    go_wp2_with fail
    go_ret
    exact ⟨rfl, HB3.out⟩
set_option maxHeartbeats 4000000 in
theorem rtake_main (h : Lk false w 100 b F f v D) (k : Nat) (hk : k < 16) (q : Int) (u : Value) (xs : List (BitVec 8)) (hu : Byts w u xs) (hq : 0 ≤ q ∧ q ≤ 255) (hl : xs.length ≤ 16) (fr : Bool) (hf : fr = isF F (f k)) (hn : fr = true → follows q (f k).seq = true) :
    Calls Tryd.prog 50 #[.pointer (some ⟨b, 0, none⟩), .agg #[.int .i64 (k : Int), .int .i64 q, u]] w fun e w' => e = .returned (.int .i64 0) ∧ RlkAfter w w' b F (upd f k ⟨true, q, 0, xs⟩) D := by
  have HB := Lib.hid (below_alloc (Below.refl _ w) (.cells #[.int .i64 (k : Int), .int .i64 q, u] 84))
  have HX := Lib.hid (blk_new w #[.int .i64 (k : Int), .int .i64 q, u] 84)
  have HFit := Lib.hid (show Fit (k : Int) q xs.length by unfold Fit; omega)
  have HC := Lib.hid (rcode_any (k : Int) q u xs _ (hu.below HB.out) 0 (by rw [if_pos HFit.out]))
  have HL := Lib.hid h
  have HF := Lib.hid hf
  have HU := Lib.hid hu
  have HQ := Lib.hid hq
  have HL16 := Lib.hid hl
  have hblt := h.blt
  have hp := (h.ok k hk).seq
  obtain ⟨q0, q1⟩ := hq
  obtain ⟨p, HPP⟩ : ∃ p, Hid (p = (f k).seq) := ⟨_, Lib.hid rfl⟩
  rw [← HPP.out] at hn hp
  obtain ⟨p0, p1⟩ := hp
  have HN := Lib.hid (show fr = true → decide ((q - p) % 256 < 1) = false ∧ decide (16 < (q - p) % 256) = false by
    intro e
    have := hn e
    unfold follows at this
    simp at this ⊢
    omega)
  obtain ⟨ua, uc, eu⟩ := hu.len
  have hk0 : (0 : Int) ≤ (k : Int) := by omega
  have hk1 : (k : Int) < 16 := by omega
  clear hu hn h hf hl
  subst eu
  go_enter Tryd.func50, Tryd.ntmps50
  go_wp2_with fail
  (with_reducible refine HC.out.mono ?_)
  rintro e w1 ⟨r, rfl, hb⟩
  have HB1 := Lib.hid (below_call HB.out hb)
  have HL1 := Lib.hid (HL.out.below HB1.out)
  obtain ⟨x0, x1, x2⟩ := (HX.out.below hb).three
  obtain ⟨c0, c1, c2, c3⟩ := HL1.out.at_ k hk
  rw [← HPP.out] at c1
  have HX1 := Lib.hid (HX.out.below hb)
  clear hb HB HC HX c0 c2 c3
  go_wp2_with fail
  go_quiet (fail)
  have HBd := Lib.hid (below_call HB1.out (bel_drewN w1 nq))
  have HL2 := Lib.hid (HL.out.below HBd.out)
  have HX2 := Lib.hid (HX1.out.below (bel_drewN w1 nq))
  generalize w1.drewN nq = w2 at *
  clear x0 x1 x2 c1
  obtain ⟨x0, x1, x2⟩ := HX2.out.three
  have HC2 := Lib.hid (rfresh_any HL2.out k hk k rfl fr HF.out)
  go_wp2_with fail
  (with_reducible refine HC2.out.mono ?_)
  rintro e w3 ⟨rfl, m, hw⟩
  have HB3 := Lib.hid (show Below w.heap.size w w3 by rw [hw]; exact below_call HBd.out (bel_drewN w2 m))
  have HX3 := Lib.hid (show Blk w3 w.heap.size #[Value.int .i64 (k : Int), .int .i64 q, .slice ua xs.length uc] 84 by rw [hw]; exact HX2.out.below (bel_drewN w2 m))
  have HL3 := Lib.hid (HL.out.below HB3.out)
  have HU3 := Lib.hid (HU.out.below HB3.out)
  clear hw HC2 x0 x1 x2 HL1 HX1 HB1 HBd HL2 HX2 HU
  obtain ⟨x0, x1, x2⟩ := HX3.out.three
  have hbw : b < w3.heap.size := HL3.out.blt
  have hxw : w.heap.size < w3.heap.size := HX3.out.lt
  -- the append, ahead of the region
  have HA0 := Lib.hid (below_alloc (Below.refl _ w3) (.cells #[] 5))
  have HA := Lib.hid (show Below w3.heap.size w3 (w3.alloc (.cells #[] 5)).drew from below_call HA0.out (bel_drew _))
  have HO := Lib.hid (show Own (w3.alloc (.cells #[] 5)).drew w3.heap.size (.slice (some ⟨w3.heap.size, 0, none⟩) 0 0) [] from (own_lit w3 w3.heap.size [] (Nat.le_refl _) (by unfold maxLen; simp)).below (bel_drew _))
  have HUA := Lib.hid (HU3.out.below HA.out)
  obtain ⟨r2, w4, hrun, ho, hg⟩ := run_app w3.heap.size 44 _ [] HO.out _ xs HUA.out (by have := HL16.out; simp; omega) HA.out.size
  have HRUN := Lib.hid hrun
  have HO4 := Lib.hid (show Own w4 w3.heap.size r2 xs by simpa using ho)
  have HB4 := Lib.hid (HO.out.grown HA.out hg)
  obtain ⟨ra, rc, er⟩ := HO4.out.byts.len
  have HER := Lib.hid er
  clear hrun ho hg
  subst er
  have HK4 := Lib.hid (HX3.out.below HB4.out).three
  have HKA := Lib.hid (HX3.out.below HA.out).three
  have HB5 := Lib.hid (below_call HB3.out HB4.out)
  have HL4 := Lib.hid (HL3.out.below HB4.out)
  obtain ⟨c0, c1, c2, c3⟩ := HL4.out.at_ k hk
  have z0 := HL4.out.frz (1 + k * 4)
  have z1 := HL4.out.frz (1 + k * 4 + 1)
  have z2 := HL4.out.frz (1 + k * 4 + 2)
  have z3 := HL4.out.frz (1 + k * 4 + 3)
  have HKS := Lib.hid ((((((HX3.out.below HB4.out).far b (1 + k * 4) (.bool true) (by omega)).far b (1 + k * 4 + 1) (.int .i64 q) (by omega)).far b (1 + k * 4 + 2) (.int .i64 0) (by omega)).far b (1 + k * 4 + 3) (.slice ra xs.length rc) (by omega)).three)
  have HDD := Lib.hid (show ∀ g, (D g ∨ (Value.slice ra xs.length rc).ownBlock = some g) → D g ∨ w.heap.size ≤ g by
    intro g hg
    rcases hg with hg | hg
    · exact .inl hg
    · right
      have h1 := (World.ownsRow.lt HO4.out g hg).1
      have h3 := HB3.out.size
      omega)
  have HPUT := Lib.hid (show Lk false ((((w4.setCell ⟨b, 1 + k * 4, none⟩ (.bool true)).setCell ⟨b, 1 + k * 4 + 1, none⟩ (.int .i64 q)).setCell ⟨b, 1 + k * 4 + 2, none⟩ (.int .i64 0)).setCell ⟨b, 1 + k * 4 + 3, none⟩ (.slice ra xs.length rc)) 100 b F (upd f k ⟨true, q, 0, xs⟩) (upd v k (.slice ra xs.length rc)) (fun g => D g ∨ (Value.slice ra xs.length rc).ownBlock = some g) by
    have hm := HL4.out.mono (D' := fun g => D g ∨ (Value.slice ra xs.length rc).ownBlock = some g) (fun g hg => .inl hg) (fun g hg => by
      rcases hg with hg | hg
      · exact HL4.out.lt g hg
      · have h1 := World.ownsRow.lt HO4.out g hg
        have h3 := HB3.out.size
        exact ⟨h1.2, by omega⟩)
    exact hm.put k hk ⟨true, q, 0, xs⟩ _ (ok_taken HQ.out.1 HQ.out.2 HL16.out) HO4.out.byts (fun a n cp e => by
      right; right
      rw [e]; rfl))
  have HKP := Lib.hid ((Keep.of_below (F := fun g => g = b) HB5.out).trans (keep_put w4 b (1 + k * 4) (.bool true) (.int .i64 q) (.int .i64 0) (.slice ra xs.length rc)) (fun g h => .inl h))
  cases fr with
  | true =>
    obtain ⟨d0, d1⟩ := HN.out rfl
    go_wp2_with fail
    go_region_held3 (fun w' => w'.cell? ⟨w.heap.size, 0, none⟩ = some (.int .i64 (k : Int)) ∧ w'.cell? ⟨w.heap.size, 1, none⟩ = some (.int .i64 q) ∧ w'.cell? ⟨w.heap.size, 2, none⟩ = some (.slice ua xs.length uc))
      (first | exact ⟨x0, x1, x2⟩ | exact HKA.out | exact HK4.out | exact HKS.out)
      ((refine step_run rfl _ _ _ (by rfl) (by rfl) (by rfl) HRUN.out ?_))
    go_wp2_with fail
    go_ret
    exact ⟨rfl, upd v k (.slice ra xs.length rc), fun g => D g ∨ (Value.slice ra xs.length rc).ownBlock = some g, HPUT.out, HDD.out, HKP.out⟩
  | false =>
    go_wp2_with fail
    go_region_held3 (fun w' => w'.cell? ⟨w.heap.size, 0, none⟩ = some (.int .i64 (k : Int)) ∧ w'.cell? ⟨w.heap.size, 1, none⟩ = some (.int .i64 q) ∧ w'.cell? ⟨w.heap.size, 2, none⟩ = some (.slice ua xs.length uc))
      (first | exact ⟨x0, x1, x2⟩ | exact HKA.out | exact HK4.out | exact HKS.out)
      ((refine step_run rfl _ _ _ (by rfl) (by rfl) (by rfl) HRUN.out ?_))
    go_wp2_with fail
    go_ret
    exact ⟨rfl, upd v k (.slice ra xs.length rc), fun g => D g ∨ (Value.slice ra xs.length rc).ownBlock = some g, HPUT.out, HDD.out, HKP.out⟩
end Go.Proofs.YtolfdfbhignniaaDoor

/-
  RlkA RlkB: merged.
-/
import Derived.StillTailTactics
import Derived.Outline
import Derived.IntWalk
import Derived.Test.YtolfdfbhignniaaDoorLkAll
import Derived.Test.YtolfdfbhignniaaDoorBase
/-
  The document's channels: New, fresh, Fresh, At, Same, Tick by contracts.
-/
namespace Go.Proofs.YtolfdfbhignniaaDoor
open Go.RowKit

variable {w w' : World} {b F : Nat} {f : Nat → Ch} {v : Nat → Value} {D : Nat → Prop}
theorem zero7r : Tryd.zeroCells100 = #[.int .i64 0] ++ (List.replicate 16 [Value.bool false, .int .i64 0, .int .i64 0, .slice none 0 0]).flatten.toArray := by kernel_rfl
theorem rnew_any (fresh : Int) (F : Nat) (hF : (F : Int) = min (max fresh 1) 6000) (w : World) :
    Calls Tryd.prog 25 #[.int .i64 fresh] w fun e w' => ∃ b, e = .returned (.pointer (some ⟨b, 0, none⟩)) ∧ w.heap.size ≤ b ∧ Lk false w' 100 b F (fun _ => noCh) (fun _ => .slice none 0 0) (fun _ => False) ∧ Below w.heap.size w w' := by
  have HF := Lib.hid hF
  have HL := Lib.hid (lk_made false w 100 F (by omega) Tryd.zeroCells100 zero7r)
  clear hF
  go_enter Tryd.func25, Tryd.ntmps25
  go_wp2_with fail
  all_goals
    go_ret
    refine ⟨w.heap.size, rfl, Nat.le_refl _, ?_, below_alloc (Below.refl _ w) _⟩
    have := HL.out
    rw [show (F : Int) = _ from HF.out] at this
    first
      | (rw [show min (max fresh 1) 6000 = 6000 by omega] at this; exact this)
      | (rw [show min (max fresh 1) 6000 = fresh by omega] at this; exact this)
      | (rw [show min (max fresh 1) 6000 = 1 by omega] at this; exact this)
theorem rfresh_any (h : Lk false w 100 b F f v D) (k : Nat) (hk : k < 16) (ch : Int) (hc : ch = (k : Int)) (r : Bool) (hr : r = isF F (f k)) :
    Calls Tryd.prog 61 #[.pointer (some ⟨b, 0, none⟩), .int .i64 ch] w fun e w' => e = .returned (.bool r) ∧ ∃ m, w' = w.drewN m := by
  subst hc
  have h0 := h.F_
  obtain ⟨a0, a1, a2, a3⟩ := h.at_ k hk
  have hk0 : (0 : Int) ≤ (k : Int) := by omega
  have hk1 : (k : Int) < 16 := by omega
  have HR := Lib.hid hr
  clear h hr a1 a3
  obtain ⟨had, HH⟩ : ∃ had, Hid (had = (f k).had) := ⟨_, Lib.hid rfl⟩
  obtain ⟨age, HA⟩ : ∃ age, Hid (age = (f k).age) := ⟨_, Lib.hid rfl⟩
  rw [← HH.out] at a0
  rw [← HA.out] at a2
  cases had with
  | false =>
    go_enter Tryd.func61, Tryd.ntmps61
    go_wp2_with fail
    go_quiet (fail)
    go_wp2_with fail
    go_ret
    exact ⟨show Ending.returned (.bool false) = _ from ret_bool (by rw [HR.out]; unfold isF; rw [← HH.out]; rfl), _, rfl⟩
  | true =>
    have q0 : decide ((age : Int) ≤ (F : Int)) = r := by rw [HR.out]; unfold isF; rw [← HH.out, ← HA.out]; simp
    have q1 : decide (age ≤ F) = r := by rw [HR.out]; unfold isF; rw [← HH.out, ← HA.out]; simp
    go_enter Tryd.func61, Tryd.ntmps61
    go_wp2_with fail
    go_quiet (fail)
    go_wp2_with fail
    go_ret
    exact ⟨rfl, _, rfl⟩
theorem rFresh_out (b : Nat) (ch : Int) (hc : ch < 0 ∨ 15 < ch) (w : World) :
    Calls Tryd.prog 36 #[.pointer (some ⟨b, 0, none⟩), .int .i64 ch] w fun e w' => e = .returned (.tuple #[.slice none 0 0, .bool false]) ∧ Below w.heap.size w w' := by
  rcases hc with hc | hc
  · have q0 : decide (ch < 0) = true := by simp; omega
    go_enter Tryd.func36, Tryd.ntmps36
    go_wp2_with fail
    go_ret2
    exact ⟨rfl, Below.refl _ w⟩
  · have q0 : decide (ch < 0) = false := by simp; omega
    have q1 : decide ((15 : Int) < ch) = true := by simp; omega
    go_enter Tryd.func36, Tryd.ntmps36
    go_wp2_with fail
    go_ret2
    exact ⟨rfl, Below.refl _ w⟩
theorem rFresh_in (h : Lk false w 100 b F f v D) (k : Nat) (hk : k < 16) (ch : Int) (hc : ch = (k : Int)) :
    Calls Tryd.prog 36 #[.pointer (some ⟨b, 0, none⟩), .int .i64 ch] w fun e w' => ∃ r, e = .returned (.tuple #[r, .bool (isF F (f k))]) ∧ Own w' w.heap.size r (f k).xs ∧ Below w.heap.size w w' := by
  subst hc
  have hk0 : (0 : Int) ≤ (k : Int) := by omega
  have hk1 : (k : Int) < 16 := by omega
  have q0 : decide ((k : Int) < 0) = false := by simp
  have q1 : decide ((15 : Int) < (k : Int)) = false := by simp; omega
  cases hf : isF F (f k) with
  | false =>
    have HX := Lib.hid ((h.ok k hk).stale hf)
    have HC := Lib.hid (rfresh_any h k hk k rfl false hf.symm)
    clear h hf
    go_enter Tryd.func36, Tryd.ntmps36
    go_wp2_with fail
    (with_reducible refine HC.out.mono ?_)
    rintro e w1 ⟨rfl, m, hw⟩
    have HW := Lib.hid hw
    clear hw
    go_wp2_with fail
    go_ret2
    exact ⟨_, rfl, by rw [HX.out]; exact World.ownsRow_nil _ _ 5 1, by rw [HW.out]; exact bel_drewN w m⟩
  | true =>
    have HC := Lib.hid (rfresh_any h k hk k rfl true hf.symm)
    obtain ⟨va, vn, vc, ev⟩ := h.sl k hk
    obtain ⟨a0, a1, a2, a3⟩ := h.at_ k hk
    rw [ev] at a3
    have HV := Lib.hid (show Byts w (.slice va vn vc) (f k).xs by rw [← ev]; exact h.dat k hk (.inr hf))
    have HN := Lib.hid (show (f k).xs.length ≤ 16 from (h.ok k hk).len)
    generalize (f k).xs = xs at *
    have hblt := h.blt
    clear h hf ev a0 a1 a2
    go_enter Tryd.func36, Tryd.ntmps36
    go_wp2_with fail
    (with_reducible refine HC.out.mono ?_)
    rintro e w1 ⟨rfl, m, hw⟩
    have HW := Lib.hid (show Below w.heap.size w w1 by rw [hw]; exact bel_drewN w m)
    clear hw HC
    have HB := Lib.hid (below_alloc HW.out (.cells #[] 5))
    have c3 := below_cell HB.out a3
    have HO := Lib.hid (own_lit w1 w1.heap.size [] (Nat.le_refl _) (by unfold maxLen; simp))
    have HB1 := Lib.hid (below_alloc (Below.refl _ w1) (.cells #[] 5))
    have HV1 := Lib.hid (HV.out.below HB.out)
    have hsz := HB1.out.size
    have HLL := Lib.hid (show ([] : List (BitVec 8)).length + xs.length ≤ 140737488355328 by have := HN.out; simp; omega)
    clear a3
    go_wp2_with (at_builtin; refine wpList_app rfl _ _ rfl w1.heap.size _ [] rfl HO.out _ xs rfl HV1.out HLL.out hsz ?_; intro v1 w2 hown1 hg1; have HO1 := Lib.hid hown1; have HB2 := Lib.hid (HO.out.grown HB1.out hg1); clear hown1 hg1 HO HB HV1 hsz)
    go_ret2
    exact ⟨_, rfl, (show Own w2 w1.heap.size v1 xs by simpa using HO1.out).mono HW.out.size, below_call HW.out HB2.out⟩
theorem rFresh_any (h : Lk false w 100 b F f v D) (ch : Int) (c : Ch) (hc : c = peek f ch) :
    Calls Tryd.prog 36 #[.pointer (some ⟨b, 0, none⟩), .int .i64 ch] w fun e w' => ∃ r, e = .returned (.tuple #[r, .bool (isF F c)]) ∧ Own w' w.heap.size r c.xs ∧ Below w.heap.size w w' := by
  by_cases hi : 0 ≤ ch ∧ ch ≤ 15
  · rw [hc, peek_in f (k := ch.toNat) (by omega) (by omega)]
    exact rFresh_in h ch.toNat (by omega) ch (by omega)
  · rw [hc, peek_out f (by omega)]
    exact (rFresh_out b ch (by omega) w).mono fun e w' ⟨he, hb⟩ => ⟨_, he, World.ownsRow_nil w' _ 5 1, hb⟩
theorem rat_out (b : Nat) (ch : Int) (hc : ch < 0 ∨ 15 < ch) (w : World) :
    Calls Tryd.prog 43 #[.pointer (some ⟨b, 0, none⟩), .int .i64 ch] w fun e w' => e = .returned (.agg #[.bool false, .int .i64 0, .int .i64 0, .slice none 0 0]) ∧ Below w.heap.size w w' := by
  rcases hc with hc | hc
  · have q0 : decide (ch < 0) = true := by simp; omega
    go_enter Tryd.func43, Tryd.ntmps43
    go_wp2_with fail
    refine bodyPost_ret (v := .agg #[.bool false, .int .i64 0, .int .i64 0, .slice none 0 0]) ?_ rfl ⟨rfl, below_alloc (Below.refl _ w) _⟩
    rw [results_cell1 rfl]
    go_simp
  · have q0 : decide (ch < 0) = false := by simp; omega
    have q1 : decide ((15 : Int) < ch) = true := by simp; omega
    go_enter Tryd.func43, Tryd.ntmps43
    go_wp2_with fail
    refine bodyPost_ret (v := .agg #[.bool false, .int .i64 0, .int .i64 0, .slice none 0 0]) ?_ rfl ⟨rfl, below_alloc (Below.refl _ w) _⟩
    rw [results_cell1 rfl]
    go_simp
theorem rat_in (h : Lk false w 100 b F f v D) (k : Nat) (hk : k < 16) (ch : Int) (hc : ch = (k : Int)) :
    Calls Tryd.prog 43 #[.pointer (some ⟨b, 0, none⟩), .int .i64 ch] w fun e w' => ∃ r, e = .returned (.agg #[.bool (f k).had, .int .i64 (f k).seq, .int .i64 ((f k).age : Int), r]) ∧ Own w' w.heap.size r (f k).xs ∧ Below w.heap.size w w' := by
  subst hc
  have HB := Lib.hid (below_alloc (Below.refl _ w) (.cells #[.bool false, .int .i64 0, .int .i64 0, .slice none 0 0] 76))
  obtain ⟨a0, a1, a2, a3⟩ := (h.below HB.out).at_ k hk
  obtain ⟨va, vn, vc, ev⟩ := h.sl k hk
  rw [ev] at a3
  have hlt := h.blt
  have hk0 : (0 : Int) ≤ (k : Int) := by omega
  have q0 : decide ((k : Int) < 0) = false := by simp
  have q1 : decide ((15 : Int) < (k : Int)) = false := by simp; omega
  have HB0 := Lib.hid (below_alloc HB.out (.cells #[.bool (f k).had, .int .i64 (f k).seq, .int .i64 ((f k).age : Int), .slice va vn vc] 76))
  have HC := Lib.hid (rFresh_in (h.below HB0.out) k hk k rfl)
  generalize (f k).had = had at *
  generalize (f k).seq = seq at *
  generalize (f k).age = age at *
  generalize (f k).xs = xs at *
  have HY := Lib.hid ((blk_new w #[.bool false, .int .i64 0, .int .i64 0, .slice none 0 0] 76).below (below_alloc (Below.refl _ _) (.cells #[.bool had, .int .i64 seq, .int .i64 (age : Int), .slice va vn vc] 76)))
  have HX := Lib.hid (blk_new (w.alloc (.cells #[.bool false, .int .i64 0, .int .i64 0, .slice none 0 0] 76)) #[.bool had, .int .i64 seq, .int .i64 (age : Int), .slice va vn vc] 76)
  rw [show (w.alloc (.cells #[.bool false, .int .i64 0, .int .i64 0, .slice none 0 0] 76)).heap.size = w.heap.size + 1 by simp] at HX
  clear h ev
  go_enter Tryd.func43, Tryd.ntmps43
  go_wp2_with fail
  (with_reducible refine HC.out.mono ?_)
  rintro e w1 ⟨r, rfl, ho, hb⟩
  clear a0 a1 a2 a3
  obtain ⟨ra, rc, er⟩ := ho.byts.len
  have HO := Lib.hid (ho.mono HB0.out.size)
  have HLR := Lib.hid (show ∀ g, r.ownBlock = some g → w.heap.size + 2 ≤ g by
    intro g hg
    have := (World.ownsRow.lt ho g hg).1
    simpa using this)
  obtain ⟨x0, x1, x2, x3⟩ := (HX.out.below hb).four
  have zx := (HX.out.below hb).frz 3
  obtain ⟨y0, y1, y2, y3⟩ := (HY.out.below hb).four
  obtain ⟨z0, z1, z2, z3⟩ := (HY.out.below hb).frz4
  have HB1 := Lib.hid (below_call HB0.out hb)
  clear hb ho HX HY HB0 HB HC
  have HER := Lib.hid er
  subst er
  go_wp2_with fail
  refine bodyPost_ret (v := .agg #[.bool had, .int .i64 seq, .int .i64 (age : Int), .slice ra xs.length rc]) ?_ rfl ⟨_, rfl, ?_, bel_set4 (bel_set HB1.out (by omega) _ _) (by omega) _ _ _ _⟩
  · rw [results_cell1 rfl]
    go_simp
  · refine HO.out.keepB (G := fun g => g < w.heap.size + 2) (((((((Keep.refl _ w1).store _ _ _ ?_).store _ _ _ ?_).store _ _ _ ?_).store _ _ _ ?_).store _ _ _ ?_)) (fun g hg h => ?_)
    all_goals first | omega | (have := HLR.out g hg; omega)
theorem rat_any (h : Lk false w 100 b F f v D) (ch : Int) (c : Ch) (hc : c = peek f ch) :
    Calls Tryd.prog 43 #[.pointer (some ⟨b, 0, none⟩), .int .i64 ch] w fun e w' => ∃ r, e = .returned (.agg #[.bool c.had, .int .i64 c.seq, .int .i64 (c.age : Int), r]) ∧ Own w' w.heap.size r c.xs ∧ Below w.heap.size w w' := by
  by_cases hi : 0 ≤ ch ∧ ch ≤ 15
  · rw [hc, peek_in f (k := ch.toNat) (by omega) (by omega)]
    exact rat_in h ch.toNat (by omega) ch (by omega)
  · rw [hc, peek_out f (by omega)]
    exact (rat_out b ch (by omega) w).mono fun e w' ⟨he, hb⟩ => ⟨_, he, World.ownsRow_nil w' _ 5 1, hb⟩
end Go.Proofs.YtolfdfbhignniaaDoor
/-
  The document's channels: Tick by contract.
-/
namespace Go.Proofs.YtolfdfbhignniaaDoor
open Go.RowKit

variable {w w' : World} {b F : Nat} {f : Nat → Ch} {v : Nat → Value} {D : Nat → Prop}
/-- The document's channels are f now; nothing older has changed but their block. -/
def RlkAfter (w w' : World) (b F : Nat) (f : Nat → Ch) (D : Nat → Prop) : Prop := ∃ v D', Lk false w' 100 b F f v D' ∧ (∀ g, D' g → D g ∨ w.heap.size ≤ g) ∧ Keep (fun g => g = b) w w'
set_option maxRecDepth 10000 in
set_option maxHeartbeats 2000000 in
theorem rtick_any (h : Lk false w 100 b F f v D) :
    Calls Tryd.prog 26 #[.pointer (some ⟨b, 0, none⟩)] w fun e w' => e = .returned (.tuple #[]) ∧ RlkAfter w w' b F (fun k => older F (f k)) D := by
  have HL := Lib.hid h
  have hblt := h.blt
  have hF6 := h.F1.2
  clear h
  go_enter Tryd.func26, Tryd.ntmps26
  go_wp2_with fail
  go_loopw [2] (fun u2 wr => ∃ (k : Nat), k ≤ 16 ∧ u2 = .int .i64 (k : Int) ∧ Hid (Lk false wr 100 b F (fun j => if j < k then older F (f j) else f j) v D) ∧ Hid (Keep (fun g => g = b) w wr)) (fun u2 _ => 16 - (intOf u2).toNat)
  case atStart => exact ⟨0, by omega, rfl, Lib.hid (by simpa using HL.out), Lib.hid (Keep.refl _ _)⟩
  case round =>
    obtain ⟨k, hk, rfl, HLr, HKr⟩ := hrel
    by_cases hlt : k < 16
    · have hlz : (k : Int) < 16 := by omega
      have hk0 : (0 : Int) ≤ (k : Int) := by omega
      have h0 := HLr.out.F_
      obtain ⟨a0, a1, a2, a3⟩ := HLr.out.at_ k hlt
      rw [if_neg (by omega)] at a0 a2
      have z2 := HLr.out.frz (1 + k * 4 + 2)
      have hage := (HL.out.ok k hlt).age
      obtain ⟨age, HA⟩ : ∃ age, Hid (age = (f k).age) := ⟨_, Lib.hid rfl⟩
      rw [← HA.out] at a2 hage
      clear a1 a3
      cases hh : (f k).had with
      | false =>
        rw [hh] at a0
        have HN := Lib.hid (older_not (F := F) hh)
        clear hh
        go_wp2_with fail
        go_roundw
        case rel =>
          refine ⟨k + 1, by omega, by go_num, Lib.hid (HLr.out.ext fun j hj => ?_), HKr⟩
          by_cases e : j = k
          · subst e; rw [if_neg (by omega), if_pos (by omega), HN.out]
          · by_cases e2 : j < k
            · rw [if_pos e2, if_pos (by omega)]
            · rw [if_neg e2, if_neg (by omega)]
        case measure => simp [intOf]; omega
      | true =>
        rw [hh] at a0
        have HH := Lib.hid hh
        clear hh
        obtain ⟨m, HM⟩ : ∃ m : Nat, Hid (m = min (age + 1) (F + 1)) := ⟨_, Lib.hid rfl⟩
        have hmn : ∀ (ts : Array TypeId) (t : TypeId) (w : World), (Builtin.min_ ts t #[.int .i64 ((age : Int) + 1), .int .i64 ((F : Int) + 1)]).run Tryd.prog w = .ok (.int .i64 (m : Int)) w := by
          intro ts t w
          rw [run_min_int2, show (if ((F : Int) + 1) < ((age : Int) + 1) then ((F : Int) + 1) else ((age : Int) + 1)) = (m : Int) by rw [HM.out]; split <;> omega]
        have hwa : IntKind.i64.wrap ((age : Int) + 1) = (age : Int) + 1 := IntWalk.i64_in _ (by omega)
        have hwb : IntKind.i64.wrap ((F : Int) + 1) = (F : Int) + 1 := IntWalk.i64_in _ (by omega)
        go_wp2_with fail
        go_still_tail 20, (by kernel_rfl)
        have HLd := Lib.hid HLr.out.drw
        have HKd := Lib.hid (HKr.out.trans (Keep.of_below (F := fun _ => False) (bel_drew wr)) (fun _ h => h.elim))
        change wpList _ _ _ _ _ wr.drew
        generalize wr.drew = w2 at *
        clear a0 a2 h0 z2 hwa hwb hmn
        obtain ⟨b0, b1, b2, b3⟩ := HLd.out.at_ k hlt
        have z2 := HLd.out.frz (1 + k * 4 + 2)
        clear b0 b1 b3
        go_wp2_with fail
        go_roundw
        case rel =>
          obtain ⟨o1, o2, o3, o4⟩ := older_had (HL.out.ok k hlt) HH.out
          have hm : (older F (f k)).age = m := by rw [o3, HM.out, ← HA.out]
          refine ⟨k + 1, by omega, by go_num, Lib.hid ?_, Lib.hid (HKd.out.store b _ _ rfl)⟩
          rw [← hm]
          refine (HLd.out.age k hlt (older F (f k)) (ok_older (HL.out.ok k hlt)) (by rw [if_neg (by omega), o1, HH.out]) (by rw [if_neg (by omega), o2]) (fun hf => ?_)).ext fun j hj => ?_
          · have hff : isF F (older F (f k)) = true := by simpa using hf
            rcases o4 with e | e
            · rw [e]
              have hfr : isF F (f k) = true := by
                have h1 := (isF_iff.1 hff).2
                have h2 := (HL.out.ok k hlt).age
                exact isF_iff.2 ⟨HH.out, by omega⟩
              have := HLd.out.dat k hlt (.inr (by rw [if_neg (by omega)]; exact hfr))
              rw [if_neg (by omega)] at this
              exact this
            · rw [e] at hff; cases hff
          · by_cases e : j = k
            · subst e; rw [upd_same, if_pos (by omega)]
            · rw [upd_other _ _ _ e]
              by_cases e2 : j < k
              · rw [if_pos e2, if_pos (by omega)]
              · rw [if_neg e2, if_neg (by omega)]
        case measure => simp [intOf]; omega
    · obtain rfl : k = 16 := by omega
      clear hk hlt
      go_wp2
      go_end0
      refine ⟨rfl, v, D, ?_, fun g hg => .inl hg, HKr.out⟩
      exact HLr.out.ext fun j hj => by rw [if_pos hj]
end Go.Proofs.YtolfdfbhignniaaDoor

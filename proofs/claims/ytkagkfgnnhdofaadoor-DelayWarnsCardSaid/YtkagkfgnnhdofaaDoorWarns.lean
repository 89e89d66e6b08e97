/-
  The walk of crossbucklaw09.DelayWarns: true, whatever it is given.
-/
import Derived.Test.YtkagkfgnnhdofaaDoorSmall
import Derived.BigQuiet
import Derived.Deep.QuietTactic
namespace Go.Proofs.YtkagkfgnnhdofaaDoor
open Go.RowKit

theorem R3.at_ {w : World} {g o : Nat} {f : Nat → Int} (h : R3 w g o f) (j : Nat) (hj : j < 3) : w.cell? ⟨g, o + j, none⟩ = some (.int .i64 (f j)) := by
  match j, hj with
  | 0, _ => exact h.1
  | 1, _ => exact h.2.1
  | 2, _ => exact h.2.2
  | n + 3, h => omega
/-- What a delay is good for. -/
theorem spr_good {k s warn d v : Int} (hk : 0 ≤ k ∧ k ≤ 1000000) (hs : 1 ≤ s ∧ s ≤ 5000) (hw : 1 ≤ warn ∧ warn ≤ 6000) (hv : 0 ≤ v ∧ v ≤ s) (hd : d = spr k s warn) :
    (0 ≤ d ∧ d ≤ 1000000) ∧ (0 ≤ d * v ∧ d * v ≤ 5000000000) ∧ (0 ≤ warn * v ∧ warn * v ≤ 30000000) ∧ (d = 0 ∨ warn * v ≤ k - d * v) ∧ (0 ≤ (d + warn + 1) * s ∧ (d + warn + 1) * s ≤ 6000000000) ∧ k < (d + warn + 1) * s := by
  rw [spr_yes ⟨hk.1, hs.1⟩] at hd
  obtain ⟨q0, q1⟩ := quo_le (far := k) (speed := s) ⟨hk.1, hs.1⟩
  have hm : s * (k / s) ≤ k := Int.mul_ediv_self_le (by omega)
  have hl : k < s * (k / s + 1) := by
    have := Int.lt_ediv_add_one_mul_self k (show 0 < s by omega)
    rw [Int.mul_comm]; exact this
  obtain ⟨q, hq⟩ : ∃ q, q = k / s := ⟨_, rfl⟩
  rw [← hq] at hd hm hl q0 q1
  clear hq
  have hd0 : 0 ≤ d ∧ d ≤ 1000000 := by omega
  have hdq : q ≤ d + warn := by omega
  have e1 : d * v ≤ 1000000 * 5000 := Int.mul_le_mul hd0.2 (by omega) hv.1 (by omega)
  have e2 : warn * v ≤ 6000 * 5000 := Int.mul_le_mul hw.2 (by omega) hv.1 (by omega)
  have e3 : (d + warn + 1) * s ≤ 1006001 * 5000 := Int.mul_le_mul (by omega) hs.2 (by omega) (by omega)
  refine ⟨hd0, ⟨Int.mul_nonneg hd0.1 hv.1, by omega⟩, ⟨Int.mul_nonneg (by omega) hv.1, by omega⟩, ?_, ⟨Int.mul_nonneg (by omega) (by omega), by omega⟩, ?_⟩
  · by_cases h : d = 0
    · exact .inl h
    · right
      have hdq2 : d + warn = q := by omega
      have h1 : (d + warn) * v ≤ (d + warn) * s := Int.mul_le_mul_of_nonneg_left hv.2 (by omega)
      rw [Int.add_mul] at h1
      have h2 : (d + warn) * s = s * q := by rw [hdq2, Int.mul_comm]
      omega
  · have h1 : s * (q + 1) ≤ s * (d + warn + 1) := Int.mul_le_mul_of_nonneg_left (by omega) (by omega)
    rw [Int.mul_comm s (d + warn + 1)] at h1
    omega

set_option maxHeartbeats 2000000 in
theorem warns_no (av : Option Addr) (n cv : Nat) (T : Nat → Int) (ls : List Ln) (track kl speed : Int) (w : World) (hv : Els RLn 5 w (.slice av n cv) ls) (hok : ¬ OkC T ls) :
    Calls Tryd.prog 5 #[.agg (cfc (.slice av n cv) T), .int .i64 track, .int .i64 kl, .int .i64 speed] w fun e w' => e = .returned (.bool true) ∧ Below w.heap.size w w' := by
  have HV := Lib.hid hv
  have HB := Lib.hid (below_alloc (Below.refl _ w) (.cells (cfc (.slice av n cv) T) 39))
  have HX := Lib.hid (blk_new w (cfc (.slice av n cv) T) 39)
  have H1 := Lib.hid (fun w h => table_no (.slice av n cv) T ls hok w h)
  clear hv hok
  unfold cfc at *
  go_enter Tryd.func5, Tryd.ntmps5
  (try dsimp only [List.append])
  go_wp2_with fail
  (with_reducible refine (small_true _).mono ?_)
  rintro e w1 ⟨rfl, hb⟩
  have HX1 := Lib.hid (HX.out.below hb)
  have HB1 := Lib.hid (below_call HB.out hb)
  obtain ⟨c0, c1, c2, c3, c4, c5, c6, c7, c8, c9, c10⟩ := Blk.eleven (v := .slice av n cv) (T := T) HX1.out
  have hv1 := HV.out.below (fun _ _ _ h => h.below HB1.out)
  clear hb HB HX
  go_wp2_with fail
  (with_reducible refine (H1.out _ hv1).mono ?_)
  rintro e w2 ⟨r, rfl, he, hb⟩
  obtain ⟨g, rfl, hg⟩ := he.not (by decide)
  have HB2 := Lib.hid (below_call HB1.out hb)
  clear he hg hb hv1 HB1 HX1 c0 c1 c2 c3 c4 c5 c6 c7 c8 c9 c10 H1
  go_wp2_with fail
  go_ret
  exact ⟨rfl, HB2.out⟩

set_option maxHeartbeats 2000000 in
theorem warns_t0 (av : Option Addr) (n cv : Nat) (T : Nat → Int) (ls : List Ln) (track kl speed : Int) (w : World) (hv : Els RLn 5 w (.slice av n cv) ls) (hln : ls.length = n) (hok : OkC T ls) (hc : track < 0) :
    Calls Tryd.prog 5 #[.agg (cfc (.slice av n cv) T), .int .i64 track, .int .i64 kl, .int .i64 speed] w fun e w' => e = .returned (.bool true) ∧ Below w.heap.size w w' := by
  have HV := Lib.hid hv
  have HB := Lib.hid (below_alloc (Below.refl _ w) (.cells (cfc (.slice av n cv) T) 39))
  have HX := Lib.hid (blk_new w (cfc (.slice av n cv) T) 39)
  have H1 := Lib.hid (fun w h => table_yes (.slice av n cv) T ls hok w h)
  rw [hln] at H1
  have hn8 : n ≤ 8 := by have := hok.1; omega
  have p0 : decide (track < 0) = true := decide_eq_true (by omega)
  clear hv hok hc hln hn8
  unfold cfc at *
  go_enter Tryd.func5, Tryd.ntmps5
  (try dsimp only [List.append])
  go_wp2_with fail
  (with_reducible refine (small_true _).mono ?_)
  rintro e w1 ⟨rfl, hb⟩
  have HX1 := Lib.hid (HX.out.below hb)
  have HB1 := Lib.hid (below_call HB.out hb)
  obtain ⟨c0, c1, c2, c3, c4, c5, c6, c7, c8, c9, c10⟩ := Blk.eleven (v := .slice av n cv) (T := T) HX1.out
  have hv1 := HV.out.below (fun _ _ _ h => h.below HB1.out)
  clear hb HB HX
  go_wp2_with fail
  (with_reducible refine (H1.out _ hv1).mono ?_)
  rintro e w2 ⟨g, rfl, hE, hb⟩
  have HE2 := Lib.hid hE
  have HX2 := Lib.hid (HX1.out.below hb)
  have HB2 := Lib.hid (below_call HB1.out hb)
  clear hE hb hv1 HB1 HX1 c0 c1 c2 c3 c4 c5 c6 c7 c8 c9 c10 H1
  have c0 := HX2.out.cell 0 (u := .slice av n cv) rfl
  go_wp2_with fail
  go_ret
  exact ⟨rfl, HB2.out⟩

set_option maxHeartbeats 2000000 in
theorem warns_tn (av : Option Addr) (n cv : Nat) (T : Nat → Int) (ls : List Ln) (track kl speed : Int) (w : World) (hv : Els RLn 5 w (.slice av n cv) ls) (hln : ls.length = n) (hok : OkC T ls) (hc : 0 ≤ track ∧ (n : Int) ≤ track) :
    Calls Tryd.prog 5 #[.agg (cfc (.slice av n cv) T), .int .i64 track, .int .i64 kl, .int .i64 speed] w fun e w' => e = .returned (.bool true) ∧ Below w.heap.size w w' := by
  have HV := Lib.hid hv
  have HB := Lib.hid (below_alloc (Below.refl _ w) (.cells (cfc (.slice av n cv) T) 39))
  have HX := Lib.hid (blk_new w (cfc (.slice av n cv) T) 39)
  have H1 := Lib.hid (fun w h => table_yes (.slice av n cv) T ls hok w h)
  rw [hln] at H1
  have hn8 : n ≤ 8 := by have := hok.1; omega
  have p0 : decide (track < 0) = false := decide_eq_false (by omega)
  have p1 : decide ((n : Int) ≤ track) = true := decide_eq_true (by omega)
  clear hv hok hc hln hn8
  unfold cfc at *
  go_enter Tryd.func5, Tryd.ntmps5
  (try dsimp only [List.append])
  go_wp2_with fail
  (with_reducible refine (small_true _).mono ?_)
  rintro e w1 ⟨rfl, hb⟩
  have HX1 := Lib.hid (HX.out.below hb)
  have HB1 := Lib.hid (below_call HB.out hb)
  obtain ⟨c0, c1, c2, c3, c4, c5, c6, c7, c8, c9, c10⟩ := Blk.eleven (v := .slice av n cv) (T := T) HX1.out
  have hv1 := HV.out.below (fun _ _ _ h => h.below HB1.out)
  clear hb HB HX
  go_wp2_with fail
  (with_reducible refine (H1.out _ hv1).mono ?_)
  rintro e w2 ⟨g, rfl, hE, hb⟩
  have HE2 := Lib.hid hE
  have HX2 := Lib.hid (HX1.out.below hb)
  have HB2 := Lib.hid (below_call HB1.out hb)
  clear hE hb hv1 HB1 HX1 c0 c1 c2 c3 c4 c5 c6 c7 c8 c9 c10 H1
  have c0 := HX2.out.cell 0 (u := .slice av n cv) rfl
  go_wp2_with fail
  go_ret
  exact ⟨rfl, HB2.out⟩

set_option maxHeartbeats 2000000 in
theorem warns_c0 (av : Option Addr) (n cv : Nat) (T : Nat → Int) (ls : List Ln) (track kl speed : Int) (w : World) (hv : Els RLn 5 w (.slice av n cv) ls) (hln : ls.length = n) (hok : OkC T ls) (hc : 0 ≤ track ∧ track < (n : Int) ∧ kl < 0) :
    Calls Tryd.prog 5 #[.agg (cfc (.slice av n cv) T), .int .i64 track, .int .i64 kl, .int .i64 speed] w fun e w' => e = .returned (.bool true) ∧ Below w.heap.size w w' := by
  have HV := Lib.hid hv
  have HB := Lib.hid (below_alloc (Below.refl _ w) (.cells (cfc (.slice av n cv) T) 39))
  have HX := Lib.hid (blk_new w (cfc (.slice av n cv) T) 39)
  have H1 := Lib.hid (fun w h => table_yes (.slice av n cv) T ls hok w h)
  rw [hln] at H1
  have hn8 : n ≤ 8 := by have := hok.1; omega
  have p0 : decide (track < 0) = false := decide_eq_false (by omega)
  have p1 : decide ((n : Int) ≤ track) = false := decide_eq_false (by omega)
  have p2 : decide ((20 : Int) < (n : Int)) = false := decide_eq_false (by omega)
  have p3 : decide (kl < 0) = true := decide_eq_true (by omega)
  clear hv hok hc hln hn8
  unfold cfc at *
  go_enter Tryd.func5, Tryd.ntmps5
  (try dsimp only [List.append])
  go_wp2_with fail
  (with_reducible refine (small_true _).mono ?_)
  rintro e w1 ⟨rfl, hb⟩
  have HX1 := Lib.hid (HX.out.below hb)
  have HB1 := Lib.hid (below_call HB.out hb)
  obtain ⟨c0, c1, c2, c3, c4, c5, c6, c7, c8, c9, c10⟩ := Blk.eleven (v := .slice av n cv) (T := T) HX1.out
  have hv1 := HV.out.below (fun _ _ _ h => h.below HB1.out)
  clear hb HB HX
  go_wp2_with fail
  (with_reducible refine (H1.out _ hv1).mono ?_)
  rintro e w2 ⟨g, rfl, hE, hb⟩
  have HE2 := Lib.hid hE
  have HX2 := Lib.hid (HX1.out.below hb)
  have HB2 := Lib.hid (below_call HB1.out hb)
  clear hE hb hv1 HB1 HX1 c0 c1 c2 c3 c4 c5 c6 c7 c8 c9 c10 H1
  have c0 := HX2.out.cell 0 (u := .slice av n cv) rfl
  go_wp2_with fail
  go_ret
  exact ⟨rfl, HB2.out⟩

set_option maxHeartbeats 2000000 in
theorem warns_c2 (av : Option Addr) (n cv : Nat) (T : Nat → Int) (ls : List Ln) (track kl speed : Int) (w : World) (hv : Els RLn 5 w (.slice av n cv) ls) (hln : ls.length = n) (hok : OkC T ls) (hc : 0 ≤ track ∧ track < (n : Int) ∧ 2 < kl) :
    Calls Tryd.prog 5 #[.agg (cfc (.slice av n cv) T), .int .i64 track, .int .i64 kl, .int .i64 speed] w fun e w' => e = .returned (.bool true) ∧ Below w.heap.size w w' := by
  have HV := Lib.hid hv
  have HB := Lib.hid (below_alloc (Below.refl _ w) (.cells (cfc (.slice av n cv) T) 39))
  have HX := Lib.hid (blk_new w (cfc (.slice av n cv) T) 39)
  have H1 := Lib.hid (fun w h => table_yes (.slice av n cv) T ls hok w h)
  rw [hln] at H1
  have hn8 : n ≤ 8 := by have := hok.1; omega
  have p0 : decide (track < 0) = false := decide_eq_false (by omega)
  have p1 : decide ((n : Int) ≤ track) = false := decide_eq_false (by omega)
  have p2 : decide ((20 : Int) < (n : Int)) = false := decide_eq_false (by omega)
  have p3 : decide (kl < 0) = false := decide_eq_false (by omega)
  have p4 : decide (2 < kl) = true := decide_eq_true (by omega)
  clear hv hok hc hln hn8
  unfold cfc at *
  go_enter Tryd.func5, Tryd.ntmps5
  (try dsimp only [List.append])
  go_wp2_with fail
  (with_reducible refine (small_true _).mono ?_)
  rintro e w1 ⟨rfl, hb⟩
  have HX1 := Lib.hid (HX.out.below hb)
  have HB1 := Lib.hid (below_call HB.out hb)
  obtain ⟨c0, c1, c2, c3, c4, c5, c6, c7, c8, c9, c10⟩ := Blk.eleven (v := .slice av n cv) (T := T) HX1.out
  have hv1 := HV.out.below (fun _ _ _ h => h.below HB1.out)
  clear hb HB HX
  go_wp2_with fail
  (with_reducible refine (H1.out _ hv1).mono ?_)
  rintro e w2 ⟨g, rfl, hE, hb⟩
  have HE2 := Lib.hid hE
  have HX2 := Lib.hid (HX1.out.below hb)
  have HB2 := Lib.hid (below_call HB1.out hb)
  clear hE hb hv1 HB1 HX1 c0 c1 c2 c3 c4 c5 c6 c7 c8 c9 c10 H1
  have c0 := HX2.out.cell 0 (u := .slice av n cv) rfl
  go_wp2_with fail
  go_ret
  exact ⟨rfl, HB2.out⟩

set_option maxHeartbeats 4000000 in
theorem warns_in (av : Option Addr) (n cv : Nat) (T : Nat → Int) (ls : List Ln) (m j : Nat) (speed : Int) (w : World) (hv : Els RLn 5 w (.slice av n cv) ls) (hln : ls.length = n) (hok : OkC T ls) (hm : m < n) (hj : j < 3) :
    Calls Tryd.prog 5 #[.agg (cfc (.slice av n cv) T), .int .i64 (m : Int), .int .i64 (j : Int), .int .i64 speed] w fun e w' => e = .returned (.bool true) ∧ Below w.heap.size w w' := by
  have HV := Lib.hid hv
  have HB := Lib.hid (below_alloc (Below.refl _ w) (.cells (cfc (.slice av n cv) T) 39))
  have HX := Lib.hid (blk_new w (cfc (.slice av n cv) T) 39)
  have H1 := Lib.hid (fun w h => table_yes (.slice av n cv) T ls hok w h)
  obtain ⟨l, hl⟩ : ∃ l, ls[m]? = some l := ⟨_, List.getElem?_eq_getElem (by omega)⟩
  have HL := Lib.hid hl
  have HOL := Lib.hid (okC_line hok hl)
  have HTL := Lib.hid (tab_at (T := T) hl)
  have HOT := Lib.hid (okC_time hok (i := 9) (by omega))
  rw [hln] at H1
  have hn8 : n ≤ 8 := by have := hok.1; omega
  have p0 : decide ((m : Int) < 0) = false := decide_eq_false (by omega)
  have p1 : decide ((n : Int) ≤ (m : Int)) = false := decide_eq_false (by omega)
  have p2 : decide ((20 : Int) < (n : Int)) = false := decide_eq_false (by omega)
  have p3 : decide ((j : Int) < 0) = false := decide_eq_false (by omega)
  have p4 : decide ((2 : Int) < (j : Int)) = false := decide_eq_false (by omega)
  have hltI : (m : Int) < (n : Int) := by omega
  have hltJ : (j : Int) < 3 := by omega
  clear hv hok hln hn8 hl
  unfold cfc at *
  go_enter Tryd.func5, Tryd.ntmps5
  (try dsimp only [List.append])
  go_wp2_with fail
  (with_reducible refine (small_true _).mono ?_)
  rintro e w1 ⟨rfl, hb⟩
  have HX1 := Lib.hid (HX.out.below hb)
  have HB1 := Lib.hid (below_call HB.out hb)
  obtain ⟨c0, c1, c2, c3, c4, c5, c6, c7, c8, c9, c10⟩ := Blk.eleven (v := .slice av n cv) (T := T) HX1.out
  have hv1 := HV.out.below (fun _ _ _ h => h.below HB1.out)
  clear hb HB HX
  go_wp2_with fail
  (with_reducible refine (H1.out _ hv1).mono ?_)
  rintro e w2 ⟨g, rfl, hE, hb⟩
  have HE2 := Lib.hid hE
  have HX2 := Lib.hid (HX1.out.below hb)
  have HB2 := Lib.hid (below_call HB1.out hb)
  clear hE hb hv1 HB1 HX1 c0 c1 c2 c3 c4 c5 c6 c7 c8 c9 c10 H1
  have c0 := HX2.out.cell 0 (u := .slice av n cv) rfl
  obtain ⟨gl, ol, ea, hr⟩ := HV.out.at_ HL.out
  obtain ⟨e0, e1, e2, e3, e4⟩ := hr.below HB2.out
  subst ea
  obtain ⟨g', o', ea, hr3⟩ := HE2.out.at_ HTL.out
  simp only [Option.some.injEq, Addr.mk.injEq] at ea
  obtain ⟨rfl, rfl, _⟩ := ea
  rw [Nat.zero_add] at hr3
  obtain ⟨lk, lg, la, lb, lc⟩ := l
  dsimp only at e0 e1 e2 e3 e4
  have HK3 := Lib.hid (below_alloc (Below.refl _ w2) (.cells #[.int .i64 lk, .int .i64 lg, .int .i64 la, .int .i64 lb, .int .i64 lc] 34))
  have HD3 := Lib.hid (blk_new w2 #[.int .i64 lk, .int .i64 lg, .int .i64 la, .int .i64 lb, .int .i64 lc] 34)
  have HB3 := Lib.hid (below_alloc HB2.out (.cells #[.int .i64 lk, .int .i64 lg, .int .i64 la, .int .i64 lb, .int .i64 lc] 34))
  have HX3 := Lib.hid (HX2.out.below HK3.out)
  have h10 := HX3.out.cell 10 (u := .int .i64 (T 9)) rfl
  have hd := below_cell HK3.out (hr3.at_ j hj)
  have hk0 := HD3.out.cell 0 (u := .int .i64 lk) rfl
  have hs := HD3.out.cell (2 + j) (spd_at ⟨lk, lg, la, lb, lc⟩ j hj)
  have HS := Lib.hid (((okL_iff _).1 HOL.out).2 j hj)
  have HK := Lib.hid (show 0 ≤ lk ∧ lk ≤ 1000000 by obtain ⟨h1, h2, h3, _⟩ := HOL.out; dsimp only at h1 h2 h3; omega)
  have HD := Lib.hid (show ofs ⟨lk, lg, la, lb, lc⟩ (T 9) j = spr lk (spd ⟨lk, lg, la, lb, lc⟩ j) (T 9) from rfl)
  obtain ⟨d, hd'⟩ : ∃ d, d = ofs ⟨lk, lg, la, lb, lc⟩ (T 9) j := ⟨_, rfl⟩
  obtain ⟨s, hs'⟩ : ∃ s, s = spd ⟨lk, lg, la, lb, lc⟩ j := ⟨_, rfl⟩
  rw [← hd'] at hd HD
  rw [← hs'] at hs HS HD
  clear hd' hs' hr hr3 HOL HK3 HX2 HE2 HTL HL
  obtain ⟨hsr0, hsr1⟩ := HS.out
  by_cases hneg : speed < 0
  · have y0 : decide (speed < 0) = true := decide_eq_true hneg
    have y1 : decide (0 ≤ d) = true := decide_eq_true (spr_good (v := 0) HK.out HS.out HOT.out ⟨by omega, by omega⟩ HD.out).1.1
    clear hneg
    go_wp2_with fail
    go_ret
    exact ⟨rfl, HB3.out⟩
  · have y0 : decide (speed < 0) = false := decide_eq_false hneg
    by_cases hbig : s < speed
    · have y2 : decide (s < speed) = true := decide_eq_true hbig
      have y1 : decide (0 ≤ d) = true := decide_eq_true (spr_good (v := 0) HK.out HS.out HOT.out ⟨by omega, by omega⟩ HD.out).1.1
      clear hneg hbig
      go_wp2_with fail
      go_ret
      exact ⟨rfl, HB3.out⟩
    · have y2 : decide (s < speed) = false := decide_eq_false hbig
      obtain ⟨⟨d0, d1⟩, ⟨b0, b1⟩, ⟨b2, b3⟩, hg, ⟨b4, b5⟩, hf⟩ := spr_good (v := speed) HK.out HS.out HOT.out ⟨by omega, by omega⟩ HD.out
      obtain ⟨k0, k1⟩ := HK.out
      obtain ⟨t0, t1⟩ := HOT.out
      have y1 : decide (0 ≤ d) = true := decide_eq_true d0
      have y4 : decide (lk < (d + T 9 + 1) * s) = true := decide_eq_true hf
      clear hneg hbig hf
      by_cases hz : d = 0
      · have y3 : (d == 0) = true := by simp [hz]
        clear hz hg
        go_wp2_with fail
        go_quiet (fail)
        go_wp2_with fail
        go_ret
        exact ⟨rfl, below_call HB3.out (bel_drewN _ _)⟩
      · have y3 : (d == 0) = false := by simp [hz]
        have y5 : decide (T 9 * speed ≤ lk - d * speed) = true := decide_eq_true (hg.resolve_left hz)
        clear hz hg
        go_wp2_with fail
        go_quiet (fail)
        go_wp2_with fail
        go_ret
        exact ⟨rfl, below_call HB3.out (bel_drewN _ _)⟩

theorem lawWarns_any (u : Value) (T : Nat → Int) (ls : List Ln) (track kl speed : Int) (w : World) (hv : Els RLn 5 w u ls) :
    Calls Tryd.prog 5 #[.agg (cfc u T), .int .i64 track, .int .i64 kl, .int .i64 speed] w fun e w' => e = .returned (.bool true) ∧ Below w.heap.size w w' := by
  obtain ⟨a, c, e⟩ := hv.len
  subst e
  by_cases hok : OkC T ls
  · by_cases h1 : track < 0
    · exact warns_t0 a _ c T ls track kl speed w hv rfl hok h1
    · by_cases h2 : (ls.length : Int) ≤ track
      · exact warns_tn a _ c T ls track kl speed w hv rfl hok ⟨by omega, h2⟩
      · by_cases h3 : kl < 0
        · exact warns_c0 a _ c T ls track kl speed w hv rfl hok ⟨by omega, by omega, h3⟩
        · by_cases h4 : 2 < kl
          · exact warns_c2 a _ c T ls track kl speed w hv rfl hok ⟨by omega, by omega, h4⟩
          · obtain ⟨m, rfl⟩ : ∃ m : Nat, track = (m : Int) := ⟨track.toNat, by omega⟩
            obtain ⟨j, rfl⟩ : ∃ j : Nat, kl = (j : Int) := ⟨kl.toNat, by omega⟩
            exact warns_in a _ c T ls m j speed w hv rfl hok (by omega) (by omega)
  · exact warns_no a _ c T ls track kl speed w hv hok
end Go.Proofs.YtkagkfgnnhdofaaDoor

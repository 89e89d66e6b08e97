/-
  The next phase by a contract, and the small calls behind it.
-/
import Derived.Test.YtbaljmflmkpmjaaPhMath
import Derived.Test.YtbaljmflmkpmjaaBlk
import Derived.BigQuiet
namespace Go.Proofs.Ytbaljmflmkpmjaa
open Go.RowKit

theorem closes_to (p : Int) (q : Bool) (hq : decide (1 ≤ p ∧ p ≤ 5) = q) (w : World) : Calls Try.prog 15 #[.int .i64 p] w fun e w' => e = .returned (.bool q) ∧ w' = w := by
  subst hq
  by_cases h0 : 1 ≤ p <;> by_cases h1 : p ≤ 5
  all_goals
    go_enter Try.func15, Try.ntmps15
    go_wp2_with fail
    go_ret
    exact ⟨by simp [h0, h1], rfl⟩
theorem together_to (a b c : Int) (ha : 0 ≤ a ∧ a ≤ 6000) (hb : 0 ≤ b ∧ b ≤ 6000) (hc : a + b = c) (w : World) : Calls Try.prog 16 #[.int .i64 a, .int .i64 b] w fun e w' => e = .returned (.int .i64 c) ∧ w' = w := by
  have h0 : ¬ b < 0 := by omega
  have hw : wrap64 (9223372036854775807 - b) = 9223372036854775807 - b := IntWalk.wrap64_in _ (by omega)
  have hx : ¬ 9223372036854775807 - b < a := by omega
  have hy : wrap64 (a + b) = c := by rw [hc]; exact IntWalk.wrap64_in _ (by omega)
  have HC := Lib.hid hc
  have HA := Lib.hid ha
  clear hc ha
  by_cases h1 : 0 < b
  all_goals
    go_enter Try.func16, Try.ntmps16
    go_wp2_with fail
    go_ret
    exact ⟨by simp, rfl⟩
theorem box10 {w : World} {g : Nat} {Y : TypeId} {c0 c1 c2 c3 c4 c5 c6 c7 c8 c9 : Value} (h : Blk w g #[c0, c1, c2, c3, c4, c5, c6, c7, c8, c9] Y) : w.cell? ⟨g, 0, none⟩ = some c0 ∧ w.cell? ⟨g, 1, none⟩ = some c1 ∧ w.cell? ⟨g, 2, none⟩ = some c2 ∧ w.cell? ⟨g, 3, none⟩ = some c3 ∧ w.cell? ⟨g, 4, none⟩ = some c4 ∧ w.cell? ⟨g, 5, none⟩ = some c5 ∧ w.cell? ⟨g, 6, none⟩ = some c6 ∧ w.cell? ⟨g, 7, none⟩ = some c7 ∧ w.cell? ⟨g, 8, none⟩ = some c8 ∧ w.cell? ⟨g, 9, none⟩ = some c9 := ⟨h.cell 0 rfl, h.cell 1 rfl, h.cell 2 rfl, h.cell 3 rfl, h.cell 4 rfl, h.cell 5 rfl, h.cell 6 rfl, h.cell 7 rfl, h.cell 8 rfl, h.cell 9 rfl⟩
theorem box2 {w : World} {g : Nat} {Y : TypeId} {c0 c1 : Value} (h : Blk w g #[c0, c1] Y) : w.cell? ⟨g, 0, none⟩ = some c0 ∧ w.cell? ⟨g, 1, none⟩ = some c1 := ⟨h.cell 0 rfl, h.cell 1 rfl⟩
theorem ph_boxes (T : PhT) (p s : Int) (cl ur a b c d : Bool) (w : World) : Blk ((((w.alloc (.cells #[.int .i64 T.am, .int .i64 T.re, .int .i64 T.en, .int .i64 T.tr, .int .i64 T.pr, .int .i64 T.op, .int .i64 T.ov, .int .i64 T.fr, .int .i64 T.ap, .int .i64 T.wa] 23)).alloc (.cells #[.int .i64 p, .int .i64 s] 28)).alloc (.cells #[.bool cl, .bool ur] 32)).alloc (.cells #[.bool a, .bool b, .bool c, .bool d] 34)) w.heap.size #[.int .i64 T.am, .int .i64 T.re, .int .i64 T.en, .int .i64 T.tr, .int .i64 T.pr, .int .i64 T.op, .int .i64 T.ov, .int .i64 T.fr, .int .i64 T.ap, .int .i64 T.wa] 23 ∧ Blk ((((w.alloc (.cells #[.int .i64 T.am, .int .i64 T.re, .int .i64 T.en, .int .i64 T.tr, .int .i64 T.pr, .int .i64 T.op, .int .i64 T.ov, .int .i64 T.fr, .int .i64 T.ap, .int .i64 T.wa] 23)).alloc (.cells #[.int .i64 p, .int .i64 s] 28)).alloc (.cells #[.bool cl, .bool ur] 32)).alloc (.cells #[.bool a, .bool b, .bool c, .bool d] 34)) (w.heap.size + 1) #[.int .i64 p, .int .i64 s] 28 ∧ Blk ((((w.alloc (.cells #[.int .i64 T.am, .int .i64 T.re, .int .i64 T.en, .int .i64 T.tr, .int .i64 T.pr, .int .i64 T.op, .int .i64 T.ov, .int .i64 T.fr, .int .i64 T.ap, .int .i64 T.wa] 23)).alloc (.cells #[.int .i64 p, .int .i64 s] 28)).alloc (.cells #[.bool cl, .bool ur] 32)).alloc (.cells #[.bool a, .bool b, .bool c, .bool d] 34)) (w.heap.size + 1 + 1) #[.bool cl, .bool ur] 32 ∧ Blk ((((w.alloc (.cells #[.int .i64 T.am, .int .i64 T.re, .int .i64 T.en, .int .i64 T.tr, .int .i64 T.pr, .int .i64 T.op, .int .i64 T.ov, .int .i64 T.fr, .int .i64 T.ap, .int .i64 T.wa] 23)).alloc (.cells #[.int .i64 p, .int .i64 s] 28)).alloc (.cells #[.bool cl, .bool ur] 32)).alloc (.cells #[.bool a, .bool b, .bool c, .bool d] 34)) (w.heap.size + 1 + 1 + 1) #[.bool a, .bool b, .bool c, .bool d] 34 ∧ Below w.heap.size w ((((w.alloc (.cells #[.int .i64 T.am, .int .i64 T.re, .int .i64 T.en, .int .i64 T.tr, .int .i64 T.pr, .int .i64 T.op, .int .i64 T.ov, .int .i64 T.fr, .int .i64 T.ap, .int .i64 T.wa] 23)).alloc (.cells #[.int .i64 p, .int .i64 s] 28)).alloc (.cells #[.bool cl, .bool ur] 32)).alloc (.cells #[.bool a, .bool b, .bool c, .bool d] 34)) := by
  have b1 := blk_new w #[.int .i64 T.am, .int .i64 T.re, .int .i64 T.en, .int .i64 T.tr, .int .i64 T.pr, .int .i64 T.op, .int .i64 T.ov, .int .i64 T.fr, .int .i64 T.ap, .int .i64 T.wa] 23
  have b2 := blk_new (w.alloc (.cells #[.int .i64 T.am, .int .i64 T.re, .int .i64 T.en, .int .i64 T.tr, .int .i64 T.pr, .int .i64 T.op, .int .i64 T.ov, .int .i64 T.fr, .int .i64 T.ap, .int .i64 T.wa] 23)) #[.int .i64 p, .int .i64 s] 28
  have b3 := blk_new ((w.alloc (.cells #[.int .i64 T.am, .int .i64 T.re, .int .i64 T.en, .int .i64 T.tr, .int .i64 T.pr, .int .i64 T.op, .int .i64 T.ov, .int .i64 T.fr, .int .i64 T.ap, .int .i64 T.wa] 23)).alloc (.cells #[.int .i64 p, .int .i64 s] 28)) #[.bool cl, .bool ur] 32
  have b4 := blk_new (((w.alloc (.cells #[.int .i64 T.am, .int .i64 T.re, .int .i64 T.en, .int .i64 T.tr, .int .i64 T.pr, .int .i64 T.op, .int .i64 T.ov, .int .i64 T.fr, .int .i64 T.ap, .int .i64 T.wa] 23)).alloc (.cells #[.int .i64 p, .int .i64 s] 28)).alloc (.cells #[.bool cl, .bool ur] 32)) #[.bool a, .bool b, .bool c, .bool d] 34
  have k2 := below_alloc (Below.refl _ (w.alloc (.cells #[.int .i64 T.am, .int .i64 T.re, .int .i64 T.en, .int .i64 T.tr, .int .i64 T.pr, .int .i64 T.op, .int .i64 T.ov, .int .i64 T.fr, .int .i64 T.ap, .int .i64 T.wa] 23))) (.cells #[.int .i64 p, .int .i64 s] 28)
  have k3 := below_alloc (Below.refl _ ((w.alloc (.cells #[.int .i64 T.am, .int .i64 T.re, .int .i64 T.en, .int .i64 T.tr, .int .i64 T.pr, .int .i64 T.op, .int .i64 T.ov, .int .i64 T.fr, .int .i64 T.ap, .int .i64 T.wa] 23)).alloc (.cells #[.int .i64 p, .int .i64 s] 28))) (.cells #[.bool cl, .bool ur] 32)
  have k4 := below_alloc (Below.refl _ (((w.alloc (.cells #[.int .i64 T.am, .int .i64 T.re, .int .i64 T.en, .int .i64 T.tr, .int .i64 T.pr, .int .i64 T.op, .int .i64 T.ov, .int .i64 T.fr, .int .i64 T.ap, .int .i64 T.wa] 23)).alloc (.cells #[.int .i64 p, .int .i64 s] 28)).alloc (.cells #[.bool cl, .bool ur] 32))) (.cells #[.bool a, .bool b, .bool c, .bool d] 34)
  simp only [World.size_alloc] at b2 b3 b4
  exact ⟨((b1.below k2).below k3).below k4, (b2.below k3).below k4, b3.below k4, b4, below_alloc (below_alloc (below_alloc (below_alloc (Below.refl _ w) _) _) _) _⟩
set_option maxHeartbeats 4000000 in
theorem phnext_some (T : PhT) (p s : Int) (cl ur a b c d ob : Bool) (ht : PhOk T) (q : Int) (h : phn T p s ⟨cl, ur, a, b, c, d, ob⟩ = some q) (w : World) : Calls Try.prog 14 #[.agg #[.int .i64 T.am, .int .i64 T.re, .int .i64 T.en, .int .i64 T.tr, .int .i64 T.pr, .int .i64 T.op, .int .i64 T.ov, .int .i64 T.fr, .int .i64 T.ap, .int .i64 T.wa], .agg #[.int .i64 p, .int .i64 s], .agg #[.bool cl, .bool ur], .agg #[.bool a, .bool b, .bool c, .bool d], .bool ob] w fun e w' => e = .returned (.tuple #[.int .i64 q, .bool true]) ∧ Below w.heap.size w w' := by
  have hcs := phn_some ht h
  clear h
  obtain ⟨X0, X1, X2, X3, HB⟩ := ph_boxes T p s cl ur a b c d w
  replace HB := Lib.hid HB
  obtain ⟨t0, t1, t2, t3, t4, t5, t6, t7, t8, t9⟩ := box10 X0
  obtain ⟨r0, r1⟩ := box2 X1
  obtain ⟨d0, d1⟩ := box2 X2
  obtain ⟨b0, b1, b2, b3⟩ := X3.four
  have HS := Lib.hid (fun c hc => together_to T.en T.ov c ⟨ht.1, ht.2.1⟩ ⟨ht.2.2.1, ht.2.2.2⟩ hc)
  have HC := Lib.hid (closes_to p)
  clear X0 X1 X2 X3
  clear ht
  rcases hcs with ⟨h1, h2, rfl, rfl⟩ | ⟨rfl, rfl, rfl⟩ | ⟨rfl, rfl, rfl, h1, rfl⟩ | ⟨rfl, rfl, h1, rfl⟩ | ⟨rfl, rfl, h1, rfl⟩ | ⟨rfl, rfl, h1, rfl, rfl⟩ | ⟨rfl, rfl, h1, rfl, h2, rfl⟩ | ⟨rfl, rfl, rfl, rfl, rfl⟩ | ⟨rfl, rfl, rfl⟩ | ⟨rfl, rfl, rfl, rfl, rfl⟩ | ⟨h1, rfl⟩ | ⟨h1, h2, rfl⟩
  · go_enter Try.func14, Try.ntmps14
    go_wp2_with fail
    (with_reducible refine (HC.out true (by simp; omega) _).mono ?_)
    rintro e w1 ⟨rfl, rfl⟩
    go_wp2_with fail
    go_ret2
    exact ⟨rfl, HB.out⟩
  · go_enter Try.func14, Try.ntmps14
    go_wp2_with fail
    (with_reducible refine (HC.out false (by simp) _).mono ?_)
    rintro e w1 ⟨rfl, rfl⟩
    go_wp2_with fail
    go_quiet (fail)
    go_wp2_with fail
    go_ret2
    exact ⟨rfl, HB.out.trans ((bel_drewN _ _).mono HB.out.size)⟩
  · go_enter Try.func14, Try.ntmps14
    go_wp2_with fail
    (with_reducible refine (HC.out false (by simp) _).mono ?_)
    rintro e w1 ⟨rfl, rfl⟩
    go_wp2_with fail
    go_quiet (fail)
    go_wp2_with fail
    go_ret2
    exact ⟨rfl, HB.out.trans ((bel_drewN _ _).mono HB.out.size)⟩
  · go_enter Try.func14, Try.ntmps14
    go_wp2_with fail
    (with_reducible refine (HC.out true (by simp) _).mono ?_)
    rintro e w1 ⟨rfl, rfl⟩
    go_wp2_with fail
    go_quiet (fail)
    go_wp2_with fail
    go_ret2
    exact ⟨rfl, HB.out.trans ((bel_drewN _ _).mono HB.out.size)⟩
  · go_enter Try.func14, Try.ntmps14
    go_wp2_with fail
    (with_reducible refine (HC.out true (by simp) _).mono ?_)
    rintro e w1 ⟨rfl, rfl⟩
    go_wp2_with fail
    go_quiet (fail)
    go_wp2_with fail
    go_ret2
    exact ⟨rfl, HB.out.trans ((bel_drewN _ _).mono HB.out.size)⟩
  · go_enter Try.func14, Try.ntmps14
    go_wp2_with fail
    (with_reducible refine (HC.out true (by simp) _).mono ?_)
    rintro e w1 ⟨rfl, rfl⟩
    go_wp2_with fail
    go_quiet (fail)
    go_wp2_with fail
    go_ret2
    exact ⟨rfl, HB.out.trans ((bel_drewN _ _).mono HB.out.size)⟩
  · go_enter Try.func14, Try.ntmps14
    go_wp2_with fail
    (with_reducible refine (HC.out true (by simp) _).mono ?_)
    rintro e w1 ⟨rfl, rfl⟩
    go_wp2_with fail
    go_quiet (((with_reducible refine Calls.quiet_of_same (HS.out _ rfl _))))
    go_wp2_with fail
    go_ret2
    exact ⟨rfl, HB.out.trans ((bel_drewN _ _).mono HB.out.size)⟩
  · go_enter Try.func14, Try.ntmps14
    go_wp2_with fail
    (with_reducible refine (HC.out true (by simp) _).mono ?_)
    rintro e w1 ⟨rfl, rfl⟩
    go_wp2_with fail
    go_quiet (fail)
    go_wp2_with fail
    go_ret2
    exact ⟨rfl, HB.out.trans ((bel_drewN _ _).mono HB.out.size)⟩
  · go_enter Try.func14, Try.ntmps14
    go_wp2_with fail
    (with_reducible refine (HC.out false (by simp) _).mono ?_)
    rintro e w1 ⟨rfl, rfl⟩
    go_wp2_with fail
    go_ret2
    exact ⟨rfl, HB.out⟩
  · go_enter Try.func14, Try.ntmps14
    go_wp2_with fail
    (with_reducible refine (HC.out false (by simp) _).mono ?_)
    rintro e w1 ⟨rfl, rfl⟩
    go_wp2_with fail
    go_quiet (fail)
    go_wp2_with fail
    go_ret2
    exact ⟨rfl, HB.out.trans ((bel_drewN _ _).mono HB.out.size)⟩
  · have e0 : (p == 0) = false := by simpa using (show p ≠ 0 by omega)
    have e1 : (p == 1) = false := by simpa using (show p ≠ 1 by omega)
    have e2 : (p == 2) = false := by simpa using (show p ≠ 2 by omega)
    have e3 : (p == 3) = false := by simpa using (show p ≠ 3 by omega)
    have e4 : (p == 4) = false := by simpa using (show p ≠ 4 by omega)
    have e5 : (p == 5) = false := by simpa using (show p ≠ 5 by omega)
    have e6 : (p == 6) = false := by simpa using (show p ≠ 6 by omega)
    have e7 : (p == 7) = false := by simpa using (show p ≠ 7 by omega)
    go_enter Try.func14, Try.ntmps14
    go_wp2_with fail
    (with_reducible refine (HC.out false (by simp; omega) _).mono ?_)
    rintro e w1 ⟨rfl, rfl⟩
    go_wp2_with fail
    go_ret2
    exact ⟨rfl, HB.out⟩
  · have e0 : (p == 0) = false := by simpa using (show p ≠ 0 by omega)
    have e1 : (p == 1) = false := by simpa using (show p ≠ 1 by omega)
    have e2 : (p == 2) = false := by simpa using (show p ≠ 2 by omega)
    have e3 : (p == 3) = false := by simpa using (show p ≠ 3 by omega)
    have e4 : (p == 4) = false := by simpa using (show p ≠ 4 by omega)
    have e5 : (p == 5) = false := by simpa using (show p ≠ 5 by omega)
    have e6 : (p == 6) = false := by simpa using (show p ≠ 6 by omega)
    have e7 : (p == 7) = false := by simpa using (show p ≠ 7 by omega)
    go_enter Try.func14, Try.ntmps14
    go_wp2_with fail
    (with_reducible refine (HC.out false (by simp; omega) _).mono ?_)
    rintro e w1 ⟨rfl, rfl⟩
    go_wp2_with fail
    go_ret2
    exact ⟨rfl, HB.out⟩
set_option maxHeartbeats 4000000 in
theorem phnext_none (T : PhT) (p s : Int) (cl ur a b c d ob : Bool) (ht : PhOk T) (h : phn T p s ⟨cl, ur, a, b, c, d, ob⟩ = none) (w : World) : Calls Try.prog 14 #[.agg #[.int .i64 T.am, .int .i64 T.re, .int .i64 T.en, .int .i64 T.tr, .int .i64 T.pr, .int .i64 T.op, .int .i64 T.ov, .int .i64 T.fr, .int .i64 T.ap, .int .i64 T.wa], .agg #[.int .i64 p, .int .i64 s], .agg #[.bool cl, .bool ur], .agg #[.bool a, .bool b, .bool c, .bool d], .bool ob] w fun e w' => ∃ q, e = .returned (.tuple #[.int .i64 q, .bool false]) ∧ Below w.heap.size w w' := by
  have hcs := phn_none ht h
  clear h
  obtain ⟨X0, X1, X2, X3, HB⟩ := ph_boxes T p s cl ur a b c d w
  replace HB := Lib.hid HB
  obtain ⟨t0, t1, t2, t3, t4, t5, t6, t7, t8, t9⟩ := box10 X0
  obtain ⟨r0, r1⟩ := box2 X1
  obtain ⟨d0, d1⟩ := box2 X2
  obtain ⟨b0, b1, b2, b3⟩ := X3.four
  have HS := Lib.hid (fun c hc => together_to T.en T.ov c ⟨ht.1, ht.2.1⟩ ⟨ht.2.2.1, ht.2.2.2⟩ hc)
  have HC := Lib.hid (closes_to p)
  clear X0 X1 X2 X3
  clear ht
  rcases hcs with ⟨rfl, rfl, rfl⟩ | ⟨rfl, rfl, rfl, h1⟩ | ⟨rfl, rfl, h1⟩ | ⟨rfl, rfl, h1⟩ | ⟨rfl, rfl, h1, h2⟩ | ⟨rfl, rfl, h1, rfl, h2⟩ | ⟨rfl, rfl, rfl⟩ | ⟨rfl, rfl, rfl, rfl⟩ | ⟨rfl, rfl, rfl⟩ | ⟨rfl, rfl, rfl, rfl⟩ | ⟨rfl, rfl⟩ | rfl
  · go_enter Try.func14, Try.ntmps14
    go_wp2_with fail
    (with_reducible refine (HC.out false (by simp) _).mono ?_)
    rintro e w1 ⟨rfl, rfl⟩
    go_wp2_with fail
    go_quiet (fail)
    go_wp2_with fail
    go_ret2
    exact ⟨_, rfl, HB.out.trans ((bel_drewN _ _).mono HB.out.size)⟩
  · have fh1 : decide (T.op ≤ s) = false := by simpa using h1
    go_enter Try.func14, Try.ntmps14
    go_wp2_with fail
    (with_reducible refine (HC.out false (by simp) _).mono ?_)
    rintro e w1 ⟨rfl, rfl⟩
    go_wp2_with fail
    go_quiet (fail)
    go_wp2_with fail
    go_ret2
    exact ⟨_, rfl, HB.out.trans ((bel_drewN _ _).mono HB.out.size)⟩
  · have fh1 : decide (T.am ≤ s) = false := by simpa using h1
    go_enter Try.func14, Try.ntmps14
    go_wp2_with fail
    (with_reducible refine (HC.out true (by simp) _).mono ?_)
    rintro e w1 ⟨rfl, rfl⟩
    go_wp2_with fail
    go_quiet (fail)
    go_wp2_with fail
    go_ret2
    exact ⟨_, rfl, HB.out.trans ((bel_drewN _ _).mono HB.out.size)⟩
  · have fh1 : decide (T.re ≤ s) = false := by simpa using h1
    go_enter Try.func14, Try.ntmps14
    go_wp2_with fail
    (with_reducible refine (HC.out true (by simp) _).mono ?_)
    rintro e w1 ⟨rfl, rfl⟩
    go_wp2_with fail
    go_quiet (fail)
    go_wp2_with fail
    go_ret2
    exact ⟨_, rfl, HB.out.trans ((bel_drewN _ _).mono HB.out.size)⟩
  · have fh1 : decide (T.en ≤ s) = false := by simpa using h1
    go_enter Try.func14, Try.ntmps14
    go_wp2_with fail
    (with_reducible refine (HC.out true (by simp) _).mono ?_)
    rintro e w1 ⟨rfl, rfl⟩
    go_wp2_with fail
    go_quiet (fail)
    go_wp2_with fail
    go_ret2
    exact ⟨_, rfl, HB.out.trans ((bel_drewN _ _).mono HB.out.size)⟩
  · have fh2 : decide (T.en + T.ov ≤ s) = false := by simpa using h2
    go_enter Try.func14, Try.ntmps14
    go_wp2_with fail
    (with_reducible refine (HC.out true (by simp) _).mono ?_)
    rintro e w1 ⟨rfl, rfl⟩
    go_wp2_with fail
    go_quiet (((with_reducible refine Calls.quiet_of_same (HS.out _ rfl _))))
    go_wp2_with fail
    go_ret2
    exact ⟨_, rfl, HB.out.trans ((bel_drewN _ _).mono HB.out.size)⟩
  · go_enter Try.func14, Try.ntmps14
    go_wp2_with fail
    (with_reducible refine (HC.out true (by simp) _).mono ?_)
    rintro e w1 ⟨rfl, rfl⟩
    go_wp2_with fail
    go_quiet (fail)
    go_wp2_with fail
    go_ret2
    exact ⟨_, rfl, HB.out.trans ((bel_drewN _ _).mono HB.out.size)⟩
  · go_enter Try.func14, Try.ntmps14
    go_wp2_with fail
    (with_reducible refine (HC.out true (by simp) _).mono ?_)
    rintro e w1 ⟨rfl, rfl⟩
    go_wp2_with fail
    go_quiet (fail)
    go_wp2_with fail
    go_ret2
    exact ⟨_, rfl, HB.out.trans ((bel_drewN _ _).mono HB.out.size)⟩
  · go_enter Try.func14, Try.ntmps14
    go_wp2_with fail
    (with_reducible refine (HC.out false (by simp) _).mono ?_)
    rintro e w1 ⟨rfl, rfl⟩
    go_wp2_with fail
    go_quiet (fail)
    go_wp2_with fail
    go_ret2
    exact ⟨_, rfl, HB.out.trans ((bel_drewN _ _).mono HB.out.size)⟩
  · go_enter Try.func14, Try.ntmps14
    go_wp2_with fail
    (with_reducible refine (HC.out false (by simp) _).mono ?_)
    rintro e w1 ⟨rfl, rfl⟩
    go_wp2_with fail
    go_quiet (fail)
    go_wp2_with fail
    go_ret2
    exact ⟨_, rfl, HB.out.trans ((bel_drewN _ _).mono HB.out.size)⟩
  · go_enter Try.func14, Try.ntmps14
    go_wp2_with fail
    (with_reducible refine (HC.out true (by simp) _).mono ?_)
    rintro e w1 ⟨rfl, rfl⟩
    go_wp2_with fail
    go_ret2
    exact ⟨_, rfl, HB.out⟩
  · go_enter Try.func14, Try.ntmps14
    go_wp2_with fail
    (with_reducible refine (HC.out false (by simp) _).mono ?_)
    rintro e w1 ⟨rfl, rfl⟩
    go_wp2_with fail
    go_ret2
    exact ⟨_, rfl, HB.out⟩
end Go.Proofs.Ytbaljmflmkpmjaa

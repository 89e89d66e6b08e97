/-
  Enter, Step and Lights by contracts; roads and lights compared.
-/
import Derived.Test.YtbaljmflmkpmjaaPhNext
import Derived.Test.YtbaljmflmkpmjaaEqF
namespace Go.Proofs.Ytbaljmflmkpmjaa
open Go.RowKit

theorem enter_to (p q : Int) (hq : q = if 0 ≤ p ∧ p ≤ 7 then p else 7) (w : World) : Calls Try.prog 11 #[.int .i64 p] w fun e w' => e = .returned (.agg #[.int .i64 q, .int .i64 1]) ∧ Below w.heap.size w w' := by
  have HB := Lib.hid (fun u : Value => below_alloc (Below.refl _ w) (.cells #[u, .int .i64 1] 28))
  have HZ := blk_new w #[.int .i64 0, .int .i64 0] 28
  obtain ⟨z0, z1⟩ := box2 HZ
  have z2 := HZ.frz 0
  have z3 := HZ.frz 1
  clear HZ
  rcases (show (p < 0 ∧ q = 7) ∨ (¬ p < 0 ∧ 7 < p ∧ q = 7) ∨ (¬ p < 0 ∧ ¬ 7 < p ∧ q = p) by split at hq <;> omega) with ⟨h1, rfl⟩ | ⟨h1, h2, rfl⟩ | ⟨h1, h2, rfl⟩
  all_goals
    clear hq
    go_enter Try.func11, Try.ntmps11
    go_wp2_with fail
    (try simp only [Exit.inBlock, Exit.then])
    refine bodyPost_ret ?_ rfl ⟨rfl, HB.out _⟩
    rw [results_cell1 rfl]
    go_simp
theorem ph_boxes5 (T : PhT) (p s : Int) (cl ur a b c d : Bool) (w : World) : Blk (((((w.alloc (.cells #[.int .i64 T.am, .int .i64 T.re, .int .i64 T.en, .int .i64 T.tr, .int .i64 T.pr, .int .i64 T.op, .int .i64 T.ov, .int .i64 T.fr, .int .i64 T.ap, .int .i64 T.wa] 23)).alloc (.cells #[.int .i64 p, .int .i64 s] 28)).alloc (.cells #[.bool cl, .bool ur] 32)).alloc (.cells #[.bool a, .bool b, .bool c, .bool d] 34)).alloc (.cells #[.int .i64 0, .int .i64 0] 28)) w.heap.size #[.int .i64 T.am, .int .i64 T.re, .int .i64 T.en, .int .i64 T.tr, .int .i64 T.pr, .int .i64 T.op, .int .i64 T.ov, .int .i64 T.fr, .int .i64 T.ap, .int .i64 T.wa] 23 ∧ Blk (((((w.alloc (.cells #[.int .i64 T.am, .int .i64 T.re, .int .i64 T.en, .int .i64 T.tr, .int .i64 T.pr, .int .i64 T.op, .int .i64 T.ov, .int .i64 T.fr, .int .i64 T.ap, .int .i64 T.wa] 23)).alloc (.cells #[.int .i64 p, .int .i64 s] 28)).alloc (.cells #[.bool cl, .bool ur] 32)).alloc (.cells #[.bool a, .bool b, .bool c, .bool d] 34)).alloc (.cells #[.int .i64 0, .int .i64 0] 28)) (w.heap.size + 1) #[.int .i64 p, .int .i64 s] 28 ∧ Blk (((((w.alloc (.cells #[.int .i64 T.am, .int .i64 T.re, .int .i64 T.en, .int .i64 T.tr, .int .i64 T.pr, .int .i64 T.op, .int .i64 T.ov, .int .i64 T.fr, .int .i64 T.ap, .int .i64 T.wa] 23)).alloc (.cells #[.int .i64 p, .int .i64 s] 28)).alloc (.cells #[.bool cl, .bool ur] 32)).alloc (.cells #[.bool a, .bool b, .bool c, .bool d] 34)).alloc (.cells #[.int .i64 0, .int .i64 0] 28)) (w.heap.size + 1 + 1) #[.bool cl, .bool ur] 32 ∧ Blk (((((w.alloc (.cells #[.int .i64 T.am, .int .i64 T.re, .int .i64 T.en, .int .i64 T.tr, .int .i64 T.pr, .int .i64 T.op, .int .i64 T.ov, .int .i64 T.fr, .int .i64 T.ap, .int .i64 T.wa] 23)).alloc (.cells #[.int .i64 p, .int .i64 s] 28)).alloc (.cells #[.bool cl, .bool ur] 32)).alloc (.cells #[.bool a, .bool b, .bool c, .bool d] 34)).alloc (.cells #[.int .i64 0, .int .i64 0] 28)) (w.heap.size + 1 + 1 + 1) #[.bool a, .bool b, .bool c, .bool d] 34 ∧ Blk (((((w.alloc (.cells #[.int .i64 T.am, .int .i64 T.re, .int .i64 T.en, .int .i64 T.tr, .int .i64 T.pr, .int .i64 T.op, .int .i64 T.ov, .int .i64 T.fr, .int .i64 T.ap, .int .i64 T.wa] 23)).alloc (.cells #[.int .i64 p, .int .i64 s] 28)).alloc (.cells #[.bool cl, .bool ur] 32)).alloc (.cells #[.bool a, .bool b, .bool c, .bool d] 34)).alloc (.cells #[.int .i64 0, .int .i64 0] 28)) (w.heap.size + 1 + 1 + 1 + 1) #[.int .i64 0, .int .i64 0] 28 ∧ Below w.heap.size w (((((w.alloc (.cells #[.int .i64 T.am, .int .i64 T.re, .int .i64 T.en, .int .i64 T.tr, .int .i64 T.pr, .int .i64 T.op, .int .i64 T.ov, .int .i64 T.fr, .int .i64 T.ap, .int .i64 T.wa] 23)).alloc (.cells #[.int .i64 p, .int .i64 s] 28)).alloc (.cells #[.bool cl, .bool ur] 32)).alloc (.cells #[.bool a, .bool b, .bool c, .bool d] 34)).alloc (.cells #[.int .i64 0, .int .i64 0] 28)) := by
  obtain ⟨X0, X1, X2, X3, HB⟩ := ph_boxes T p s cl ur a b c d w
  have k := below_alloc (Below.refl _ ((((w.alloc (.cells #[.int .i64 T.am, .int .i64 T.re, .int .i64 T.en, .int .i64 T.tr, .int .i64 T.pr, .int .i64 T.op, .int .i64 T.ov, .int .i64 T.fr, .int .i64 T.ap, .int .i64 T.wa] 23)).alloc (.cells #[.int .i64 p, .int .i64 s] 28)).alloc (.cells #[.bool cl, .bool ur] 32)).alloc (.cells #[.bool a, .bool b, .bool c, .bool d] 34))) (.cells #[.int .i64 0, .int .i64 0] 28)
  have b := blk_new ((((w.alloc (.cells #[.int .i64 T.am, .int .i64 T.re, .int .i64 T.en, .int .i64 T.tr, .int .i64 T.pr, .int .i64 T.op, .int .i64 T.ov, .int .i64 T.fr, .int .i64 T.ap, .int .i64 T.wa] 23)).alloc (.cells #[.int .i64 p, .int .i64 s] 28)).alloc (.cells #[.bool cl, .bool ur] 32)).alloc (.cells #[.bool a, .bool b, .bool c, .bool d] 34)) #[.int .i64 0, .int .i64 0] 28
  simp only [World.size_alloc] at b
  exact ⟨X0.below k, X1.below k, X2.below k, X3.below k, b, below_alloc HB _⟩
theorem bel_set2 {w0 w1 : World} (h : Below w0.heap.size w0 w1) {g : Nat} (hg : w0.heap.size ≤ g) (u0 u1 : Value) : Below w0.heap.size w0 ((w1.setCell ⟨g, 0, none⟩ u0).setCell ⟨g, 1, none⟩ u1) := bel_set (bel_set h hg 0 u0) hg 1 u1
set_option maxHeartbeats 4000000 in
theorem phstep_to (T : PhT) (p s : Int) (cl ur a b c d ob : Bool) (ht : PhOk T) (p' s' : Int) (hs : phs T p s ⟨cl, ur, a, b, c, d, ob⟩ = (p', s')) (w : World) : Calls Try.prog 12 #[.agg #[.int .i64 T.am, .int .i64 T.re, .int .i64 T.en, .int .i64 T.tr, .int .i64 T.pr, .int .i64 T.op, .int .i64 T.ov, .int .i64 T.fr, .int .i64 T.ap, .int .i64 T.wa], .agg #[.int .i64 p, .int .i64 s], .agg #[.bool cl, .bool ur], .agg #[.bool a, .bool b, .bool c, .bool d], .bool ob] w fun e w' => e = .returned (.agg #[.int .i64 p', .int .i64 s']) ∧ Below w.heap.size w w' := by
  obtain ⟨X0, X1, X2, X3, X4, HB⟩ := ph_boxes5 T p s cl ur a b c d w
  replace HB := Lib.hid HB
  replace X1 := Lib.hid X1
  replace X4 := Lib.hid X4
  obtain ⟨t0, t1, t2, t3, t4, t5, t6, t7, t8, t9⟩ := box10 X0
  obtain ⟨r0, r1⟩ := box2 X1.out
  obtain ⟨d0, d1⟩ := box2 X2
  obtain ⟨b0, b1, b2, b3⟩ := X3.four
  clear X0 X2 X3
  unfold phs at hs
  rcases ho : phn T p s ⟨cl, ur, a, b, c, d, ob⟩ with _ | q
  · rw [ho, phgo_none] at hs
    injection hs with hs1 hs2
    subst hs1
    have HN := Lib.hid (phnext_none T p s cl ur a b c d ob ht ho)
    have hcs : (s < 0 ∧ s' = 1) ∨ (¬ s < 0 ∧ s ≤ 1073741823 ∧ s' = s + 1) ∨ (¬ s < 0 ∧ ¬ s ≤ 1073741823 ∧ s' = 1073741824) := by
      unfold phl at hs2
      split at hs2
      · omega
      · split at hs2 <;> omega
    clear hs2 ho ht
    rcases hcs with ⟨h1, rfl⟩ | ⟨h1, h2, rfl⟩ | ⟨h1, h2, rfl⟩
    all_goals
      try have hv : wrap64 (s + 1) = s + 1 := IntWalk.wrap64_in _ (by omega)
      go_enter Try.func12, Try.ntmps12
      go_wp2_with fail
      (with_reducible refine (HN.out _).mono ?_)
      rintro e w1 ⟨q, rfl, hb⟩
      have HB1 := Lib.hid (below_call HB.out hb)
      obtain ⟨y0, y1⟩ := box2 (X1.out.below hb)
      have y2 := (X1.out.below hb).frz 1
      obtain ⟨z0, z1⟩ := box2 (X4.out.below hb)
      have z2 := (X4.out.below hb).frz 0
      have z3 := (X4.out.below hb).frz 1
      clear hb r0 r1 X1 X4 HB t0 t1 t2 t3 t4 t5 t6 t7 t8 t9 d0 d1 b0 b1 b2 b3
      go_wp2_with fail
      (try simp only [Exit.inBlock, Exit.then])
      refine bodyPost_ret ?_ rfl ⟨rfl, bel_set2 (bel_set HB1.out (by omega) 1 _) (by omega) _ _⟩
      rw [results_cell1 rfl]
      go_simp
  · rw [ho, phgo_some] at hs
    injection hs with hs1 hs2
    subst hs1 hs2
    have HN := Lib.hid (phnext_some T p s cl ur a b c d ob ht q ho)
    have hq := phn_range ho
    have HE := Lib.hid (enter_to q q (by rw [if_pos hq]))
    clear ho ht hq
    go_enter Try.func12, Try.ntmps12
    go_wp2_with fail
    (with_reducible refine (HN.out _).mono ?_)
    rintro e w1 ⟨rfl, hb⟩
    have HB1 := Lib.hid (below_call HB.out hb)
    have X5 := Lib.hid (X4.out.below hb)
    clear hb r0 r1 X1 X4 HB t0 t1 t2 t3 t4 t5 t6 t7 t8 t9 d0 d1 b0 b1 b2 b3
    go_wp2_with fail
    (with_reducible refine (HE.out _).mono ?_)
    rintro e w2 ⟨rfl, hb⟩
    have HB2 := Lib.hid (below_call HB1.out hb)
    obtain ⟨z0, z1⟩ := box2 (X5.out.below hb)
    have z2 := (X5.out.below hb).frz 0
    have z3 := (X5.out.below hb).frz 1
    clear hb HB1 X5
    go_wp2_with fail
    (try simp only [Exit.inBlock, Exit.then])
    refine bodyPost_ret ?_ rfl ⟨rfl, bel_set2 HB2.out (by omega) _ _⟩
    rw [results_cell1 rfl]
    go_simp
/-- What the road is shown in a phase. -/
def phAm (p : Int) : Bool := decide (p = 1)
def phRed (p : Int) : Bool := decide (¬ p = 0 ∧ ¬ p = 1)
def phBell (p : Int) : Bool := decide (¬ p = 0 ∧ ¬ p = 5 ∧ ¬ p = 6)
def phEn (p : Int) : Bool := decide (¬ p = 0 ∧ ¬ p = 1 ∧ ¬ p = 2 ∧ ¬ p = 6)
def phEx (p : Int) : Bool := decide (¬ p = 0 ∧ ¬ p = 1 ∧ ¬ p = 2 ∧ ¬ p = 3 ∧ ¬ p = 6)
set_option maxHeartbeats 4000000 in
theorem lights_to (p s : Int) (am re be en ex : Bool) (h0 : phAm p = am) (h1 : phRed p = re) (h2 : phBell p = be) (h3 : phEn p = en) (h4 : phEx p = ex) (w : World) : Calls Try.prog 13 #[.agg #[.int .i64 p, .int .i64 s]] w fun e w' => e = .returned (.agg #[.bool am, .bool re, .bool be, .bool en, .bool ex]) ∧ Below w.heap.size w w' := by
  have HB := Lib.hid (fun u : Array Value => below_alloc (below_alloc (Below.refl _ w) (.cells #[.int .i64 p, .int .i64 s] 28)) (.cells u 38))
  have b1 := (blk_new w #[.int .i64 p, .int .i64 s] 28).below (below_alloc (Below.refl _ (w.alloc (.cells #[.int .i64 p, .int .i64 s] 28))) (.cells #[.bool false, .bool false, .bool false, .bool false, .bool false] 38))
  obtain ⟨x0, x1⟩ := box2 b1
  clear b1
  have hcs : p = 0 ∨ p = 1 ∨ p = 2 ∨ p = 3 ∨ p = 5 ∨ p = 6 ∨ (¬ p = 0 ∧ ¬ p = 1 ∧ ¬ p = 2 ∧ ¬ p = 3 ∧ ¬ p = 5 ∧ ¬ p = 6) := by omega
  rcases hcs with rfl | rfl | rfl | rfl | rfl | rfl | ⟨g0, g1, g2, g3, g5, g6⟩
  all_goals
    try have e0 : (p == 0) = false := by simpa using g0
    try have e1 : (p == 1) = false := by simpa using g1
    try have e2 : (p == 2) = false := by simpa using g2
    try have e3 : (p == 3) = false := by simpa using g3
    try have e5 : (p == 5) = false := by simpa using g5
    try have e6 : (p == 6) = false := by simpa using g6
    unfold phAm at h0
    unfold phRed at h1
    unfold phBell at h2
    unfold phEn at h3
    unfold phEx at h4
    simp [*] at h0 h1 h2 h3 h4
    subst h0 h1 h2 h3 h4
    go_enter Try.func13, Try.ntmps13
    go_wp2_with fail
    (try simp only [Exit.inBlock, Exit.then])
    refine bodyPost_ret ?_ rfl ⟨rfl, HB.out _⟩
    rw [results_cell1 rfl]
    go_simp
theorem noholdRoad : Try.prog.stoodInHeld 28 = false := by kernel_rfl
theorem eq_rd (n : Nat) (a b a' b' : Int) (w : World) : (Op.equalIn (n + 2) 28 (.agg #[.int .i64 a, .int .i64 b]) (.agg #[.int .i64 a', .int .i64 b'])).run Try.prog w = .ok (decide (a = a' ∧ b = b')) w := by
  have hf : Try.prog.underlying 28 = some (.struct (Try.prog.fieldsOf 28)) := by unfold Program.fieldsOf; rw [Try.underlying28]
  rw [run_equalIn_agg w (n + 1) 28 _ _ hf noholdRoad]
  unfold Program.fieldsOf
  rw [Try.underlying28]
  dsimp only
  rw [eqF_int (by decide) rfl rfl rfl, eqF_int (by decide) rfl rfl rfl]
  simp only [Op.eqFields]
  by_cases h0 : a = a'
  · rw [if_pos h0]
    by_cases h1 : b = b'
    · rw [if_pos h1, decide_eq_true ⟨h0, h1⟩]; rfl
    · rw [if_neg h1, decide_eq_false (fun h => h1 h.2)]
  · rw [if_neg h0, decide_eq_false (fun h => h0 h.1)]
theorem eql_rd (a b a' b' : Int) (r : Bool) (hr : r = decide (a = a' ∧ b = b')) (w : World) : (binOp .eql 28 (.agg #[.int .i64 a, .int .i64 b]) (.agg #[.int .i64 a', .int .i64 b'])).run Try.prog w = .ok (.bool r) w := by
  rw [run_eql_struct, eq_rd 9998, hr]
  simp [Result.andThen]
theorem noholdLights : Try.prog.stoodInHeld 38 = false := by kernel_rfl
theorem eq_lt (n : Nat) (a b c d e a' b' c' d' e' : Bool) (w : World) : (Op.equalIn (n + 2) 38 (.agg #[.bool a, .bool b, .bool c, .bool d, .bool e]) (.agg #[.bool a', .bool b', .bool c', .bool d', .bool e'])).run Try.prog w = .ok (decide (a = a' ∧ b = b' ∧ c = c' ∧ d = d' ∧ e = e')) w := by
  have hf : Try.prog.underlying 38 = some (.struct (Try.prog.fieldsOf 38)) := by unfold Program.fieldsOf; rw [Try.underlying38]
  rw [run_equalIn_agg w (n + 1) 38 _ _ hf noholdLights]
  unfold Program.fieldsOf
  rw [Try.underlying38]
  dsimp only
  rw [eqF_bool (by decide) rfl rfl rfl, eqF_bool (by decide) rfl rfl rfl, eqF_bool (by decide) rfl rfl rfl, eqF_bool (by decide) rfl rfl rfl, eqF_bool (by decide) rfl rfl rfl]
  simp only [Op.eqFields]
  by_cases h0 : a = a'
  · rw [if_pos h0]
    by_cases h1 : b = b'
    · rw [if_pos h1]
      by_cases h2 : c = c'
      · rw [if_pos h2]
        by_cases h3 : d = d'
        · rw [if_pos h3]
          by_cases h4 : e = e'
          · rw [if_pos h4, decide_eq_true ⟨h0, h1, h2, h3, h4⟩]; rfl
          · rw [if_neg h4, decide_eq_false (fun h => h4 h.2.2.2.2)]
        · rw [if_neg h3, decide_eq_false (fun h => h3 h.2.2.2.1)]
      · rw [if_neg h2, decide_eq_false (fun h => h2 h.2.2.1)]
    · rw [if_neg h1, decide_eq_false (fun h => h1 h.2.1)]
  · rw [if_neg h0, decide_eq_false (fun h => h0 h.1)]
theorem eql_lt (a b c d e a' b' c' d' e' r : Bool) (hr : r = decide (a = a' ∧ b = b' ∧ c = c' ∧ d = d' ∧ e = e')) (w : World) : (binOp .eql 38 (.agg #[.bool a, .bool b, .bool c, .bool d, .bool e]) (.agg #[.bool a', .bool b', .bool c', .bool d', .bool e'])).run Try.prog w = .ok (.bool r) w := by
  rw [run_eql_struct, eq_lt 9998, hr]
  simp [Result.andThen]
end Go.Proofs.Ytbaljmflmkpmjaa

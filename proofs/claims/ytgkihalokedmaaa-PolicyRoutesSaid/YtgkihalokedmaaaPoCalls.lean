/-
  Policy's calls by contracts: Stop, has, begin, Signals.
-/
import Derived.Test.YtgkihalokedmaaaPoBits
import Derived.Test.YtgkihalokedmaaaDmGood
import Derived.Test.YtgkihalokedmaaaPhShow
import Derived.BigQuiet
namespace Go.Proofs.Ytgkihalokedmaaa
open Go.RowKit

theorem box8 {w : World} {g : Nat} {Y : TypeId} {c0 c1 c2 c3 c4 c5 c6 c7 : Value} (h : Blk w g #[c0, c1, c2, c3, c4, c5, c6, c7] Y) : w.cell? ⟨g, 0, none⟩ = some c0 ∧ w.cell? ⟨g, 1, none⟩ = some c1 ∧ w.cell? ⟨g, 2, none⟩ = some c2 ∧ w.cell? ⟨g, 3, none⟩ = some c3 ∧ w.cell? ⟨g, 4, none⟩ = some c4 ∧ w.cell? ⟨g, 5, none⟩ = some c5 ∧ w.cell? ⟨g, 6, none⟩ = some c6 ∧ w.cell? ⟨g, 7, none⟩ = some c7 := ⟨h.cell 0 rfl, h.cell 1 rfl, h.cell 2 rfl, h.cell 3 rfl, h.cell 4 rfl, h.cell 5 rfl, h.cell 6 rfl, h.cell 7 rfl⟩
theorem frz8 {w : World} {g : Nat} {Y : TypeId} {C : Array Value} (h : Blk w g C Y) : w.frozen? ⟨g, 0, none⟩ = false ∧ w.frozen? ⟨g, 1, none⟩ = false ∧ w.frozen? ⟨g, 2, none⟩ = false ∧ w.frozen? ⟨g, 3, none⟩ = false ∧ w.frozen? ⟨g, 4, none⟩ = false ∧ w.frozen? ⟨g, 5, none⟩ = false ∧ w.frozen? ⟨g, 6, none⟩ = false ∧ w.frozen? ⟨g, 7, none⟩ = false := ⟨h.frz 0, h.frz 1, h.frz 2, h.frz 3, h.frz 4, h.frz 5, h.frz 6, h.frz 7⟩
theorem bel_set8 {w0 w1 : World} (h : Below w0.heap.size w0 w1) {g : Nat} (hg : w0.heap.size ≤ g) (u0 u1 u2 u3 u4 u5 u6 u7 : Value) :
    Below w0.heap.size w0 ((((((((w1.setCell ⟨g, 0, none⟩ u0).setCell ⟨g, 1, none⟩ u1).setCell ⟨g, 2, none⟩ u2).setCell ⟨g, 3, none⟩ u3).setCell ⟨g, 4, none⟩ u4).setCell ⟨g, 5, none⟩ u5).setCell ⟨g, 6, none⟩ u6).setCell ⟨g, 7, none⟩ u7) :=
  bel_set (bel_set (bel_set (bel_set (bel_set4 h hg u0 u1 u2 u3) hg 4 u4) hg 5 u5) hg 6 u6) hg 7 u7
theorem stop_to (w : World) : Calls Try.prog 15 #[] w fun e w' => e = .returned (.agg #[.int .i64 0, .bool false, .bool true, .bool true, .bool true, .bool true, .bool false, .bool true]) ∧ Below w.heap.size w w' := by
  have HB := Lib.hid (below_alloc (Below.refl _ w) (.cells #[.int .i64 0, .bool false, .bool false, .bool false, .bool false, .bool false, .bool false, .bool false] 51))
  have HZ := Lib.hid (blk_new w #[.int .i64 0, .bool false, .bool false, .bool false, .bool false, .bool false, .bool false, .bool false] 51)
  go_enter Try.func15, Try.ntmps15
  go_wp2_with fail
  (with_reducible refine (enter_to 7 7 rfl _).mono ?_)
  rintro e w1 ⟨rfl, hb⟩
  replace HB := Lib.hid (below_call HB.out hb)
  replace HZ := Lib.hid (HZ.out.below hb)
  clear hb
  go_wp2_with fail
  (with_reducible refine (lights_to 7 1 false true true true true rfl rfl rfl rfl rfl _).mono ?_)
  rintro e w2 ⟨rfl, hb⟩
  replace HB := Lib.hid (below_call HB.out hb)
  replace HZ := Lib.hid (HZ.out.below hb)
  clear hb
  obtain ⟨z0, z1, z2, z3, z4, z5, z6, z7⟩ := box8 HZ.out
  obtain ⟨f0, f1, f2, f3, f4, f5, f6, f7⟩ := frz8 HZ.out
  go_wp2_with fail
  (try simp only [Exit.inBlock, Exit.then])
  refine bodyPost_ret ?_ rfl ⟨rfl, bel_set8 HB.out (by omega) _ _ _ _ _ _ _ _⟩
  rw [results_cell1 rfl]
  go_simp
theorem has_to (x : Int) (k : Nat) (hk : k ≤ 64) (q : Bool) (hq : pobit x k = q) (w : World) : Calls Try.prog 17 #[.int .i64 x, .int .i64 (k : Int)] w fun e w' => e = .returned (.bool q) ∧ w' = w := by
  have hs := po_shr x k hk .i64
  obtain ⟨y, hy⟩ : ∃ y, x / 2 ^ k = y := ⟨_, rfl⟩
  have ha := po_one y
  unfold pobit at hq
  rw [hy] at hs hq
  subst hq
  clear hy hk
  go_enter Try.func17, Try.ntmps17
  go_wp2_with fail
  go_ret
  exact ⟨rfl, rfl⟩
/-- The phase that begins again behind p. -/
def pobeg (p : Int) : Int := if 0 ≤ p ∧ p ≤ 6 then (if p = 0 then 6 else p) else 3
theorem begin_to (p q : Int) (hq : pobeg p = q) (w : World) : Calls Try.prog 18 #[.int .i64 p] w fun e w' => e = .returned (.int .i64 q) ∧ w' = w := by
  unfold pobeg at hq
  rcases (show (p < 0 ∧ q = 3) ∨ (¬ p < 0 ∧ 6 < p ∧ q = 3) ∨ (p = 0 ∧ q = 6) ∨ (¬ p < 0 ∧ ¬ 6 < p ∧ ¬ p = 0 ∧ q = p) by split at hq <;> (try split at hq) <;> omega) with ⟨h1, rfl⟩ | ⟨h1, h2, rfl⟩ | ⟨rfl, rfl⟩ | ⟨h1, h2, h3, rfl⟩
  all_goals
    try have e0 : (q == 0) = false := by simpa using h3
    clear hq
    go_enter Try.func18, Try.ntmps18
    go_wp2_with fail
    go_ret
    exact ⟨rfl, rfl⟩
set_option maxHeartbeats 4000000 in
theorem posig_to (a b c d s l o : Bool) (m : Int) (mn ba : Bool) (r : Int) (tv v : Value) (ls : List Tk) (p sn : Int) (pv : Bool) (w : World) (hv : Els RTk 11 w v ls) (hm : ls.length ≤ maxLen) (hr : r ≤ 9223372036854775807) (q : Int) (hq : posig p pv m (dgood m mn l ls) r ls.length = q) : Calls Try.prog 11 #[.agg #[.bool a, .bool b, .bool c, .bool d, .bool s, .bool l, .bool o, .int .i64 m, .bool mn, .bool ba, .int .i64 r, tv], v, .agg #[.int .i64 p, .int .i64 sn], .bool pv] w fun e w' => e = .returned (.int .i64 q) ∧ Below w.heap.size w w' := by
  have HX := Lib.hid ((box12 a b c d s l o m mn ba r tv w).below (below_alloc (Below.refl _ (w.alloc (.cells #[.bool a, .bool b, .bool c, .bool d, .bool s, .bool l, .bool o, .int .i64 m, .bool mn, .bool ba, .int .i64 r, tv] 26))) (.cells #[.int .i64 p, .int .i64 sn] 29)))
  have hR := blk_new (w.alloc (.cells #[.bool a, .bool b, .bool c, .bool d, .bool s, .bool l, .bool o, .int .i64 m, .bool mn, .bool ba, .int .i64 r, tv] 26)) #[.int .i64 p, .int .i64 sn] 29
  simp only [World.size_alloc] at hR
  have HB := Lib.hid (below_alloc (below_alloc (Below.refl _ w) (.cells #[.bool a, .bool b, .bool c, .bool d, .bool s, .bool l, .bool o, .int .i64 m, .bool mn, .bool ba, .int .i64 r, tv] 26)) (.cells #[.int .i64 p, .int .i64 sn] 29))
  obtain ⟨x0, x1, x2, x3, x4, x5, x6, x7, x8, x9, x10, x11⟩ := cells12 HX.out
  obtain ⟨y0, y1⟩ := box2 hR
  clear hR
  obtain ⟨g, hg⟩ : ∃ g, dgood m mn l ls = g := ⟨_, rfl⟩
  have HG := Lib.hid (good_to a b c d s l o m mn ba r tv v ls ((w.alloc (.cells #[.bool a, .bool b, .bool c, .bool d, .bool s, .bool l, .bool o, .int .i64 m, .bool mn, .bool ba, .int .i64 r, tv] 26)).alloc (.cells #[.int .i64 p, .int .i64 sn] 29)) (hv.below (fun g o y h => h.below HB.out)) hm g hg)
  rw [hg] at hq
  obtain ⟨n, cc, ev⟩ := hv.len
  obtain ⟨K, hK⟩ : ∃ K, K = ls.length := ⟨_, rfl⟩
  rw [← hK] at ev hq
  subst ev
  clear hv hm hg hK
  unfold posig at hq
  rcases (show m = 0 ∨ (m == 0) = false by by_cases h : m = 0 <;> simp [h]) with rfl | hm0
  · cases g
    · obtain rfl : q = 0 := by rw [← hq, if_neg (fun h => absurd h.2.2.2.1 (by decide))]
      clear hq
      rcases (show p = 5 ∨ (p == 5) = false by by_cases h : p = 5 <;> simp [h]) with rfl | hp
      · cases pv
        all_goals
          go_enter Try.func11, Try.ntmps11
          go_wp2_with fail
          (with_reducible refine (HG.out).mono ?_)
          rintro e w1 ⟨rfl, hb⟩
          replace HB := Lib.hid (below_call HB.out hb)
          replace HX := Lib.hid (HX.out.below hb)
          clear x0 x1 x2 x3 x4 x5 x6 x7 x8 x9 x10 x11 hb
          obtain ⟨_, _, _, _, _, _, _, z7, _, _, z10, _⟩ := cells12 HX.out
          go_wp2_with fail
          go_ret
          exact ⟨rfl, HB.out⟩
      · go_enter Try.func11, Try.ntmps11
        go_wp2_with fail
        (with_reducible refine (HG.out).mono ?_)
        rintro e w1 ⟨rfl, hb⟩
        replace HB := Lib.hid (below_call HB.out hb)
        replace HX := Lib.hid (HX.out.below hb)
        clear x0 x1 x2 x3 x4 x5 x6 x7 x8 x9 x10 x11 hb
        obtain ⟨_, _, _, _, _, _, _, z7, _, _, z10, _⟩ := cells12 HX.out
        go_wp2_with fail
        go_ret
        exact ⟨rfl, HB.out⟩
    · by_cases h5 : p = 5 ∧ pv = true
      · obtain ⟨rfl, rfl⟩ := h5
        by_cases h0 : r < 0
        · obtain rfl : q = 0 := by rw [← hq, if_neg (by omega)]
          clear hq
          go_enter Try.func11, Try.ntmps11
          go_wp2_with fail
          (with_reducible refine (HG.out).mono ?_)
          rintro e w1 ⟨rfl, hb⟩
          replace HB := Lib.hid (below_call HB.out hb)
          replace HX := Lib.hid (HX.out.below hb)
          clear x0 x1 x2 x3 x4 x5 x6 x7 x8 x9 x10 x11 hb
          obtain ⟨_, _, _, _, _, _, _, z7, _, _, z10, _⟩ := cells12 HX.out
          go_wp2_with fail
          go_ret
          exact ⟨rfl, HB.out⟩
        · rw [if_pos ⟨rfl, rfl, rfl, rfl, by omega⟩] at hq
          obtain ⟨M, hM⟩ : ∃ M, min K 62 = M := ⟨_, rfl⟩
          rw [hM] at hq
          have m1 : ∀ (ts : Array TypeId) (t : TypeId) (w : World), (Builtin.min_ ts t #[.int .i64 (K : Int), .int .i64 62]).run Try.prog w = .ok (.int .i64 (M : Int)) w := fun ts t w => by
            rw [run_min_int2, show (if (62 : Int) < (K : Int) then (62 : Int) else (K : Int)) = (M : Int) by split <;> omega]
          have m2 := po_shl M (by omega) .i64
          have m3 := po_mask r M (by omega) hr (by omega)
          have m5 : wrap64 ((2 : Int) ^ M - 1) = (2 : Int) ^ M - 1 := by
            have h1 : (2 : Nat) ^ M < 2 ^ 63 := Nat.pow_lt_pow_right (by decide) (by omega)
            have h2 : (2 : Int) ^ M = ((2 ^ M : Nat) : Int) := by rw [Int.natCast_pow]; rfl
            have h3 : 0 < (2 : Nat) ^ M := Nat.pow_pos (by decide)
            rw [h2]
            exact IntWalk.wrap64_in _ (by omega)
          obtain ⟨B, hB⟩ : ∃ B : Int, (2 : Int) ^ M = B := ⟨_, rfl⟩
          rw [hB] at m2 m3 m5 hq
          rw [hq] at m3
          clear hq hB hM hr
          go_enter Try.func11, Try.ntmps11
          go_wp2_with fail
          (with_reducible refine (HG.out).mono ?_)
          rintro e w1 ⟨rfl, hb⟩
          replace HB := Lib.hid (below_call HB.out hb)
          replace HX := Lib.hid (HX.out.below hb)
          clear x0 x1 x2 x3 x4 x5 x6 x7 x8 x9 x10 x11 hb
          obtain ⟨_, _, _, _, _, _, _, z7, _, _, z10, _⟩ := cells12 HX.out
          go_wp2_with fail
          go_quiet (fail)
          go_wp2_with fail
          go_ret
          exact ⟨rfl, below_call HB.out (bel_drewN _ _)⟩
      · obtain rfl : q = 0 := by rw [← hq, if_neg (fun h => h5 ⟨h.1, h.2.1⟩)]
        clear hq
        rcases (show p = 5 ∨ (p == 5) = false by by_cases h : p = 5 <;> simp [h]) with rfl | hp
        · cases pv
          · clear h5
            go_enter Try.func11, Try.ntmps11
            go_wp2_with fail
            (with_reducible refine (HG.out).mono ?_)
            rintro e w1 ⟨rfl, hb⟩
            replace HB := Lib.hid (below_call HB.out hb)
            replace HX := Lib.hid (HX.out.below hb)
            clear x0 x1 x2 x3 x4 x5 x6 x7 x8 x9 x10 x11 hb
            obtain ⟨_, _, _, _, _, _, _, z7, _, _, z10, _⟩ := cells12 HX.out
            go_wp2_with fail
            go_ret
            exact ⟨rfl, HB.out⟩
          · exact absurd ⟨rfl, rfl⟩ h5
        · clear h5
          go_enter Try.func11, Try.ntmps11
          go_wp2_with fail
          (with_reducible refine (HG.out).mono ?_)
          rintro e w1 ⟨rfl, hb⟩
          replace HB := Lib.hid (below_call HB.out hb)
          replace HX := Lib.hid (HX.out.below hb)
          clear x0 x1 x2 x3 x4 x5 x6 x7 x8 x9 x10 x11 hb
          obtain ⟨_, _, _, _, _, _, _, z7, _, _, z10, _⟩ := cells12 HX.out
          go_wp2_with fail
          go_ret
          exact ⟨rfl, HB.out⟩
  · obtain rfl : q = 0 := by rw [← hq, if_neg (fun h => by rw [h.2.2.1] at hm0; exact absurd hm0 (by decide))]
    clear hq
    rcases (show p = 5 ∨ (p == 5) = false by by_cases h : p = 5 <;> simp [h]) with rfl | hp
    · cases pv
      all_goals
        go_enter Try.func11, Try.ntmps11
        go_wp2_with fail
        go_ret
        exact ⟨rfl, HB.out⟩
    · go_enter Try.func11, Try.ntmps11
      go_wp2_with fail
      go_ret
      exact ⟨rfl, HB.out⟩
/-! Fields of what is told, and of lights. -/
theorem field_outSig (n : Int) (a b c d e f g : Bool) (w : World) : (Instr.field 51 (.agg #[.int .i64 n, .bool a, .bool b, .bool c, .bool d, .bool e, .bool f, .bool g]) 0).run Try.prog w = .ok (.int .i64 n) w := by kernel_rfl
theorem field_outLights (n : Int) (a b c d e f g : Bool) (w : World) : (Instr.field 51 (.agg #[.int .i64 n, .bool a, .bool b, .bool c, .bool d, .bool e, .bool f, .bool g]) 1).run Try.prog w = .ok (.agg #[.bool a, .bool b, .bool c, .bool d, .bool e]) w := by kernel_rfl
theorem field_outDead (n : Int) (a b c d e f g : Bool) (w : World) : (Instr.field 51 (.agg #[.int .i64 n, .bool a, .bool b, .bool c, .bool d, .bool e, .bool f, .bool g]) 3).run Try.prog w = .ok (.bool g) w := by kernel_rfl
theorem field_ltEn (a b c d e : Bool) (w : World) : (Instr.field 46 (.agg #[.bool a, .bool b, .bool c, .bool d, .bool e]) 3).run Try.prog w = .ok (.bool d) w := by kernel_rfl
theorem field_ltEx (a b c d e : Bool) (w : World) : (Instr.field 46 (.agg #[.bool a, .bool b, .bool c, .bool d, .bool e]) 4).run Try.prog w = .ok (.bool e) w := by kernel_rfl
end Go.Proofs.Ytgkihalokedmaaa

/-
  The walk of crossbucklaw11.AxleClears: true, whatever it is given.
-/
import Derived.Test.YtkgloniffmfpjaaSmall
namespace Go.Proofs.Ytkgloniffmfpjaa
open Go.RowKit

theorem Blk.put4 {w : World} {g : Nat} {c0 c1 c2 c3 : Value} {T : TypeId} (h : Blk w g #[c0, c1, c2, c3] T) (u0 u1 u2 u3 : Value) : Blk ((((w.setCell ⟨g, 0, none⟩ u0).setCell ⟨g, 1, none⟩ u1).setCell ⟨g, 2, none⟩ u2).setCell ⟨g, 3, none⟩ u3) g #[u0, u1, u2, u3] T := (((h.set_ 0 u0).set_ 1 u1).set_ 2 u2).set_ 3 u3
set_option maxHeartbeats 4000000 in
theorem clears_out (s n p k : Int) (w : World) (h : ¬ (1 ≤ n ∧ n ≤ 64 ∧ 0 ≤ p ∧ p < n ∧ 1 ≤ k ∧ k ≤ 50)) : Calls Try.prog 4 #[.int .i64 s, .int .i64 n, .int .i64 p, .int .i64 k] w fun e w' => e = .returned (.bool true) ∧ Below w.heap.size w w' := by
  rcases (show n < 1 ∨ (¬ n < 1 ∧ 64 < n) ∨ (¬ n < 1 ∧ ¬ 64 < n ∧ p < 0) ∨ (¬ n < 1 ∧ ¬ 64 < n ∧ ¬ p < 0 ∧ n ≤ p) ∨ (¬ n < 1 ∧ ¬ 64 < n ∧ ¬ p < 0 ∧ ¬ n ≤ p ∧ k < 1) ∨ (¬ n < 1 ∧ ¬ 64 < n ∧ ¬ p < 0 ∧ ¬ n ≤ p ∧ ¬ k < 1 ∧ 50 < k) by omega) with h1 | ⟨h1, h2⟩ | ⟨h1, h2, h3⟩ | ⟨h1, h2, h3, h4⟩ | ⟨h1, h2, h3, h4, h5⟩ | ⟨h1, h2, h3, h4, h5, h6⟩
  all_goals
    clear h
    go_enter Try.func4, Try.ntmps4
    go_wp2_with fail
    (with_reducible refine (small_true _).mono ?_)
    rintro e w1 ⟨rfl, hb⟩
    have HB1 := Lib.hid hb
    clear hb
    go_wp2_with fail
    go_ret
    exact ⟨rfl, HB1.out⟩
/-- What comes of the steps. -/
theorem clears_facts (s n p : Int) (hn : 1 ≤ n ∧ n ≤ 64) (hp : 0 ≤ p ∧ p < n) : ∃ u v s' u' v', IntKind.i64.wrap (s + n) = u ∧ IntKind.i64.wrap (s + p) = v ∧ s % 256 = s' ∧ u % 256 = u' ∧ v % 256 = v'
    ∧ wrg false 0 0 false s s = false ∧ clr true s' s' false = true
    ∧ (∀ i, ahd u i ≤ 64 → wrg true i s' false u s = false) ∧ clr true u' s' false = false ∧ ahd u' s' = n
    ∧ (∀ i o, ahd u i ≤ 64 → ahd v o ≤ 64 → wrg true i o false u v = false) ∧ clr true u' v' false = false ∧ ahd u' v' = n - p
    ∧ (∀ i o, ahd u i ≤ 64 → ahd u o ≤ 64 → wrg true i o false u u = false) ∧ clr true u' u' false = true
    ∧ ahd u s' ≤ 64 ∧ ahd u u' ≤ 64 ∧ ahd v s' ≤ 64 ∧ ahd v v' ≤ 64 ∧ ahd u v' ≤ 64 := by
  refine ⟨_, _, _, _, _, rfl, rfl, rfl, rfl, rfl, ?_⟩
  have e1 := wrap_256 (s + n)
  have e2 := wrap_256 (s + p)
  generalize IntKind.i64.wrap (s + n) = u at *
  generalize IntKind.i64.wrap (s + p) = v at *
  have a1 : ahd u s = n := by unfold ahd; omega
  have a2 : ahd u v = n - p := by unfold ahd; omega
  have a3 : ahd v s = p := by unfold ahd; omega
  have a4 : ahd s s = 0 := ahd_self s
  have a5 : ahd u u = 0 := ahd_self u
  have a6 : ahd v v = 0 := ahd_self v
  have b1 : ahd u (s % 256) = n := by rw [ahd_mod_right, a1]
  have b2 : ahd s (s % 256) = 0 := by rw [ahd_mod_right, a4]
  have b3 : ahd v (s % 256) = p := by rw [ahd_mod_right, a3]
  have c1 : ahd (s % 256) (s % 256) = 0 := ahd_self _
  have c2 : ahd (u % 256) (s % 256) = n := by rw [ahd_mod_left, b1]
  have c3 : ahd (u % 256) (v % 256) = n - p := by rw [ahd_mod_left, ahd_mod_right, a2]
  have c4 : ahd (u % 256) (u % 256) = 0 := ahd_self _
  refine ⟨?_, ?_, ?_, ?_, c2, ?_, ?_, c3, ?_, ?_, ?_, ?_, ?_, ?_, ?_⟩
  · unfold wrg; simp [a4]
  · unfold clr; simp [c1]
  · intro i h; unfold wrg; rw [a1, b2]; simp; omega
  · unfold clr; rw [c2]; simp; omega
  · intro i o h1 h2; unfold wrg; rw [a2]; simp; omega
  · unfold clr; rw [c3]; simp; omega
  · intro i o h1 h2; unfold wrg; rw [a5]; simp; omega
  · unfold clr; simp [c4]
  · omega
  · rw [ahd_mod_right, a5]; omega
  · omega
  · rw [ahd_mod_right, a6]; omega
  · rw [ahd_mod_right, a2]; omega
set_option maxHeartbeats 8000000 in
set_option maxRecDepth 10000 in
theorem clears_main (s n p : Int) (k : Nat) (w : World) (hn : 1 ≤ n ∧ n ≤ 64) (hp : 0 ≤ p ∧ p < n) (hk : 1 ≤ k ∧ k ≤ 50) : Calls Try.prog 4 #[.int .i64 s, .int .i64 n, .int .i64 p, .int .i64 (k : Int)] w fun e w' => e = .returned (.bool true) ∧ Below w.heap.size w w' := by
  obtain ⟨u, v, s', u', v', hu, hv, hs', hu', hv', f1, f2, f3, f4, f5, f6, f7, f8, f9, f10, g1, g2, g3, g4, g5⟩ := clears_facts s n p hn hp
  have H1 := Lib.hid (step_ax false 0 0 false s s s' s' false hs' hs' f1)
  have C1 := Lib.hid (clear_to true s' s' false true f2)
  have H2 := Lib.hid (fun i h => step_ax true i s' false u s u' s' false hu' hs' (f3 i h))
  have C2 := Lib.hid (clear_to true u' s' false false f4)
  have O2 := Lib.hid (on_to true u' s' false n f5)
  have H3 := Lib.hid (fun i o h h' => step_ax true i o false u v u' v' false hu' hv' (f6 i o h h'))
  have C3 := Lib.hid (clear_to true u' v' false false f7)
  have O3 := Lib.hid (on_to true u' v' false (n - p) f8)
  have H4 := Lib.hid (fun i o h h' => step_ax true i o false u u u' u' false hu' hu' (f9 i o h h'))
  have C4 := Lib.hid (clear_to true u' u' false true f10)
  have G := Lib.hid (And.intro g1 (And.intro g2 (And.intro g3 (And.intro g4 g5))))
  have p1 : ¬ n < 1 := by omega
  have p2 : ¬ 64 < n := by omega
  have p3 : ¬ p < 0 := by omega
  have p4 : ¬ n ≤ p := by omega
  have p5 : ¬ (k : Int) < 1 := by omega
  have p6 : ¬ 50 < (k : Int) := by omega
  have q1 : (n != n) = false := by simp
  have q2 : (n - p != n - p) = false := by simp
  have q3 : IntKind.i64.wrap (n - p) = n - p := by rw [IntWalk.i64_left]; exact IntWalk.wrap64_in _ ⟨by omega, by omega⟩
  clear hs' hu' hv' f1 f2 f3 f4 f5 f6 f7 f8 f9 f10 g1 g2 g3 g4 g5 hn hp hk
  go_enter Try.func4, Try.ntmps4
  go_wp2_with fail
  (with_reducible refine (small_true _).mono ?_)
  rintro e w1 ⟨rfl, hb⟩
  have HB := Lib.hid hb
  clear hb
  go_wp2_with fail
  (with_reducible refine (H1.out _).mono ?_)
  rintro e w2 ⟨rfl, hb⟩
  replace HB := Lib.hid (below_call HB.out hb)
  have HG := Lib.hid HB.out.size
  replace HB := Lib.hid (below_alloc HB.out (.cells #[.bool true, .int .i64 s', .int .i64 s', .bool false] 23))
  have HX := Lib.hid (box4 w2 true s' s' false)
  obtain ⟨g, hg⟩ : ∃ g, g = w2.heap.size := ⟨_, rfl⟩
  rw [← hg] at HX HG
  clear hb
  obtain ⟨c0, c1, c2, c3⟩ := HX.out.four
  go_wp2_with fail
  rw [← hg]
  generalize w2.alloc (.cells #[.bool true, .int .i64 s', .int .i64 s', .bool false] 23) = w3 at *
  clear hg
  (with_reducible refine (C1.out _).mono ?_)
  rintro e w4 ⟨rfl, hb⟩
  replace HB := Lib.hid (below_call HB.out hb)
  replace HX := Lib.hid (HX.out.below hb)
  clear hb c0 c1 c2 c3
  go_wp2_with fail
  go_loopw [11] (fun i wr => ∃ (j : Nat) (a : Int), j ≤ k ∧ i = .int .i64 (j : Int) ∧ Hid (ahd u a ≤ 64) ∧ Hid (Below w.heap.size w wr) ∧ Hid (Blk wr g #[.bool true, .int .i64 a, .int .i64 s', .bool false] 23)) (fun i _ => k - (intOf i).toNat)
  case atStart => exact ⟨0, s', by omega, rfl, Lib.hid G.out.1, HB, HX⟩
  case round =>
    obtain ⟨j, a, hj, rfl, HA, HBr, HXr⟩ := hrel
    clear HB HX
    obtain ⟨c0, c1, c2, c3⟩ := HXr.out.four
    by_cases hlt : j < k
    · have hltI : (j : Int) < (k : Int) := by omega
      go_wp2_with fail
      (with_reducible refine (H2.out _ HA.out _).mono ?_)
      rintro e w5 ⟨rfl, hb⟩
      replace HBr := Lib.hid (below_call HBr.out hb)
      replace HXr := Lib.hid (HXr.out.below hb)
      clear hb c0 c1 c2 c3
      obtain ⟨c0, c1, c2, c3⟩ := HXr.out.four
      obtain ⟨d0, d1, d2, d3⟩ := HXr.out.frz4
      go_wp2_with fail
      replace HBr := Lib.hid (bel_set4 HBr.out HG.out (.bool true) (.int .i64 u') (.int .i64 s') (.bool false))
      replace HXr := Lib.hid (HXr.out.put4 (.bool true) (.int .i64 u') (.int .i64 s') (.bool false))
      clear c0 c1 c2 c3 d0 d1 d2 d3
      generalize (((w5.setCell ⟨g, 0, none⟩ (.bool true)).setCell ⟨g, 1, none⟩ (.int .i64 u')).setCell ⟨g, 2, none⟩ (.int .i64 s')).setCell ⟨g, 3, none⟩ (.bool false) = w6 at *
      (with_reducible refine (C2.out _).mono ?_)
      rintro e w7 ⟨rfl, hb⟩
      replace HBr := Lib.hid (below_call HBr.out hb)
      replace HXr := Lib.hid (HXr.out.below hb)
      clear hb
      obtain ⟨c0, c1, c2, c3⟩ := HXr.out.four
      go_wp2_with fail
      (with_reducible refine (O2.out _).mono ?_)
      rintro e w8 ⟨rfl, hb⟩
      replace HBr := Lib.hid (below_call HBr.out hb)
      replace HXr := Lib.hid (HXr.out.below hb)
      clear hb c0 c1 c2 c3
      go_wp2_with fail
      go_roundw
      case rel => exact ⟨j + 1, u', by omega, by go_num, Lib.hid G.out.2.1, HBr, HXr⟩
      case measure => simp [intOf]; omega
    · have hltI : ¬ (j : Int) < (k : Int) := by omega
      clear c0 c1 c2 c3
      go_wp2_with fail
      go_loopw [12] (fun i wq => ∃ (j : Nat) (a b : Int), j ≤ k ∧ i = .int .i64 (j : Int) ∧ Hid (ahd u a ≤ 64 ∧ ahd v b ≤ 64 ∧ ahd u b ≤ 64) ∧ Hid (Below w.heap.size w wq) ∧ Hid (Blk wq g #[.bool true, .int .i64 a, .int .i64 b, .bool false] 23)) (fun i _ => k - (intOf i).toNat)
      case atStart => exact ⟨0, a, s', by omega, rfl, Lib.hid ⟨HA.out, G.out.2.2.1, G.out.1⟩, HBr, HXr⟩
      case round =>
        clear hlt hltI hj HA HBr HXr
        obtain ⟨j, a, b, hj, rfl, HA, HBr, HXr⟩ := hrel
        obtain ⟨c0, c1, c2, c3⟩ := HXr.out.four
        by_cases hlt : j < k
        · have hltI : (j : Int) < (k : Int) := by omega
          go_wp2_with fail
          (with_reducible refine (H3.out _ _ HA.out.1 HA.out.2.1 _).mono ?_)
          rintro e w5 ⟨rfl, hb⟩
          replace HBr := Lib.hid (below_call HBr.out hb)
          replace HXr := Lib.hid (HXr.out.below hb)
          clear hb c0 c1 c2 c3
          obtain ⟨c0, c1, c2, c3⟩ := HXr.out.four
          obtain ⟨d0, d1, d2, d3⟩ := HXr.out.frz4
          go_wp2_with fail
          replace HBr := Lib.hid (bel_set4 HBr.out HG.out (.bool true) (.int .i64 u') (.int .i64 v') (.bool false))
          replace HXr := Lib.hid (HXr.out.put4 (.bool true) (.int .i64 u') (.int .i64 v') (.bool false))
          clear c0 c1 c2 c3 d0 d1 d2 d3
          generalize (((w5.setCell ⟨g, 0, none⟩ (.bool true)).setCell ⟨g, 1, none⟩ (.int .i64 u')).setCell ⟨g, 2, none⟩ (.int .i64 v')).setCell ⟨g, 3, none⟩ (.bool false) = w6 at *
          (with_reducible refine (C3.out _).mono ?_)
          rintro e w7 ⟨rfl, hb⟩
          replace HBr := Lib.hid (below_call HBr.out hb)
          replace HXr := Lib.hid (HXr.out.below hb)
          clear hb
          obtain ⟨c0, c1, c2, c3⟩ := HXr.out.four
          go_wp2_with fail
          (with_reducible refine (O3.out _).mono ?_)
          rintro e w8 ⟨rfl, hb⟩
          replace HBr := Lib.hid (below_call HBr.out hb)
          replace HXr := Lib.hid (HXr.out.below hb)
          clear hb c0 c1 c2 c3
          go_wp2_with fail
          go_roundw
          case rel => exact ⟨j + 1, u', v', by omega, by go_num, Lib.hid ⟨G.out.2.1, G.out.2.2.2.1, G.out.2.2.2.2⟩, HBr, HXr⟩
          case measure => simp [intOf]; omega
        · have hltI : ¬ (j : Int) < (k : Int) := by omega
          go_wp2_with fail
          (with_reducible refine (H4.out _ _ HA.out.1 HA.out.2.2 _).mono ?_)
          rintro e w5 ⟨rfl, hb⟩
          replace HBr := Lib.hid (below_call HBr.out hb)
          replace HXr := Lib.hid (HXr.out.below hb)
          clear hb c0 c1 c2 c3
          obtain ⟨c0, c1, c2, c3⟩ := HXr.out.four
          obtain ⟨d0, d1, d2, d3⟩ := HXr.out.frz4
          go_wp2_with fail
          replace HBr := Lib.hid (bel_set4 HBr.out HG.out (.bool true) (.int .i64 u') (.int .i64 u') (.bool false))
          replace HXr := Lib.hid (HXr.out.put4 (.bool true) (.int .i64 u') (.int .i64 u') (.bool false))
          clear c0 c1 c2 c3 d0 d1 d2 d3
          generalize (((w5.setCell ⟨g, 0, none⟩ (.bool true)).setCell ⟨g, 1, none⟩ (.int .i64 u')).setCell ⟨g, 2, none⟩ (.int .i64 u')).setCell ⟨g, 3, none⟩ (.bool false) = w6 at *
          (with_reducible refine (C4.out _).mono ?_)
          rintro e w7 ⟨rfl, hb⟩
          replace HBr := Lib.hid (below_call HBr.out hb)
          clear hb
          go_wp2_with fail
          go_ret
          exact ⟨rfl, HBr.out⟩
theorem clears_any (s n p k : Int) (w : World) : Calls Try.prog 4 #[.int .i64 s, .int .i64 n, .int .i64 p, .int .i64 k] w fun e w' => e = .returned (.bool true) ∧ Below w.heap.size w w' := by
  by_cases h : 1 ≤ n ∧ n ≤ 64 ∧ 0 ≤ p ∧ p < n ∧ 1 ≤ k ∧ k ≤ 50
  · obtain ⟨k', rfl⟩ : ∃ m : Nat, k = (m : Int) := ⟨k.toNat, by omega⟩
    exact clears_main s n p k' w ⟨h.1, h.2.1⟩ ⟨h.2.2.1, h.2.2.2.1⟩ (by omega)
  · exact clears_out s n p k w h
end Go.Proofs.Ytkgloniffmfpjaa

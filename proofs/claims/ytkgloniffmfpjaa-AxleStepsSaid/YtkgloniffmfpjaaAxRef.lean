/-
  The document's Step, On, Clear and Reset of axle by contracts.
-/
import Derived.Test.YtkgloniffmfpjaaAxStep
import Derived.Deep.RegionWith
import Derived.Deep.CutRange
import Derived.Deep.DeepCutAuto
namespace Go.Proofs.Ytkgloniffmfpjaa
open Go.RowKit

theorem rmod_to (x n : Int) (h : x % 256 = n) (w : World) : Calls Try.prog 19 #[.int .i64 x] w fun e w' => e = .returned (.int .i64 n) ∧ w' = w := by
  have ha := and255 x
  rw [h] at ha
  clear h
  go_enter Try.func19, Try.ntmps19
  go_wp2_with fail
  go_ret
  exact ⟨rfl, rfl⟩
theorem ron_to (h : Bool) (i o : Int) (g : Bool) (n : Int) (hn : ahd i o = n) (w : World) : Calls Try.prog 13 #[.agg #[.bool h, .int .i64 i, .int .i64 o, .bool g]] w fun e w' => e = .returned (.int .i64 n) ∧ Below w.heap.size w w' := by
  have HB := Lib.hid (below_alloc (Below.refl _ w) (.cells #[.bool h, .int .i64 i, .int .i64 o, .bool g] 23))
  obtain ⟨x0, x1, x2, x3⟩ := (box4 w h i o g).four
  obtain ⟨z, hz⟩ : ∃ z, IntKind.i64.wrap (i - o) = z := ⟨_, rfl⟩
  have HA := Lib.hid (rmod_to z n (by rw [← hz, wrap_256]; exact hn))
  clear hn
  go_enter Try.func13, Try.ntmps13
  go_wp2_with fail
  (with_reducible refine (HA.out _).mono ?_)
  rintro e w1 ⟨rfl, rfl⟩
  go_wp2_with fail
  go_ret
  exact ⟨rfl, HB.out⟩
theorem rclear_to (h : Bool) (i o : Int) (g : Bool) (r : Bool) (hr : clr h i o g = r) (w : World) : Calls Try.prog 15 #[.agg #[.bool h, .int .i64 i, .int .i64 o, .bool g]] w fun e w' => e = .returned (.bool r) ∧ Below w.heap.size w w' := by
  have HB := Lib.hid (below_alloc (Below.refl _ w) (.cells #[.bool h, .int .i64 i, .int .i64 o, .bool g] 23))
  obtain ⟨x0, x1, x2, x3⟩ := (box4 w h i o g).four
  obtain ⟨n, hn⟩ : ∃ n, ahd i o = n := ⟨_, rfl⟩
  have HA := Lib.hid (ron_to h i o g n hn)
  rw [← hr]
  unfold clr
  rw [hn]
  clear hn hr
  cases h
  · go_enter Try.func15, Try.ntmps15
    go_wp2_with fail
    go_ret
    exact ⟨by simp, HB.out⟩
  · cases g
    · obtain ⟨b, hb⟩ : ∃ b, (n == 0) = b := ⟨_, rfl⟩
      rw [show decide (n = 0) = b by rw [← hb]; rfl]
      go_enter Try.func15, Try.ntmps15
      go_wp2_with fail
      (with_reducible refine (HA.out _).mono ?_)
      rintro e w1 ⟨rfl, hb1⟩
      have HB1 := Lib.hid (below_call HB.out hb1)
      clear hb1
      go_wp2_with fail
      go_ret
      exact ⟨by simp, HB1.out⟩
    · go_enter Try.func15, Try.ntmps15
      go_wp2_with fail
      go_ret
      exact ⟨by simp, HB.out⟩
abbrev bx0 : Array Value := #[.bool false, .int .i64 0, .int .i64 0, .bool false]
set_option maxHeartbeats 8000000 in
theorem rstep_to (h : Bool) (i o : Int) (g : Bool) (x y x' y' : Int) (r : Bool) (hx : x % 256 = x') (hy : y % 256 = y') (hr : wrg h i o g x y = r) (w : World) : Calls Try.prog 11 #[.agg #[.bool h, .int .i64 i, .int .i64 o, .bool g], .int .i64 x, .int .i64 y] w fun e w' => e = .returned (.agg #[.bool true, .int .i64 x', .int .i64 y', .bool r]) ∧ Below w.heap.size w w' := by
  have e1 : (w.alloc (.cells #[.bool h, .int .i64 i, .int .i64 o, .bool g] 23)).heap.size = w.heap.size + 1 := by simp
  have e2 : ((w.alloc (.cells #[.bool h, .int .i64 i, .int .i64 o, .bool g] 23)).alloc (.cells bx0 23)).heap.size = w.heap.size + 2 := by simp
  have k1 := below_alloc (Below.refl _ (w.alloc (.cells #[.bool h, .int .i64 i, .int .i64 o, .bool g] 23))) (.cells bx0 23)
  have HB := Lib.hid (below_alloc (below_alloc (Below.refl _ w) (.cells #[.bool h, .int .i64 i, .int .i64 o, .bool g] 23)) (.cells bx0 23))
  have HX := Lib.hid ((box4 w h i o g).below k1)
  have HR := Lib.hid (blk_new (w.alloc (.cells #[.bool h, .int .i64 i, .int .i64 o, .bool g] 23)) bx0 23)
  rw [e1] at HR
  have M1 := Lib.hid (rmod_to x x' hx)
  have M2 := Lib.hid (rmod_to y y' hy)
  unfold wrg at hr
  obtain ⟨n1, h1⟩ : ∃ n, ahd x i = n := ⟨_, rfl⟩
  obtain ⟨n2, h2⟩ : ∃ n, ahd y o = n := ⟨_, rfl⟩
  obtain ⟨n3, h3⟩ : ∃ n, ahd x y = n := ⟨_, rfl⟩
  rw [h1, h2, h3] at hr
  obtain ⟨z1, hz1⟩ : ∃ z, IntKind.i64.wrap (x' - i) = z := ⟨_, rfl⟩
  obtain ⟨z2, hz2⟩ : ∃ z, IntKind.i64.wrap (y' - o) = z := ⟨_, rfl⟩
  obtain ⟨z3, hz3⟩ : ∃ z, IntKind.i64.wrap (x' - y') = z := ⟨_, rfl⟩
  have H1 := Lib.hid (rmod_to z1 n1 (by rw [← hz1, wrap_256, ← h1, ← hx]; exact ahd_mod_left x i))
  have H2 := Lib.hid (rmod_to z2 n2 (by rw [← hz2, wrap_256, ← h2, ← hy]; exact ahd_mod_left y o))
  have H3 := Lib.hid (rmod_to z3 n3 (by rw [← hz3, wrap_256, ← h3, ← hx, ← hy]; unfold ahd; omega))
  have HW := Lib.hid hr
  have k2 := below_call (below_alloc (Below.refl _ ((w.alloc (.cells #[.bool h, .int .i64 i, .int .i64 o, .bool g] 23)).alloc (.cells bx0 23))) (.cells #[.bool true, .int .i64 x', .int .i64 y', .bool g] 23)) (bel_drew (((w.alloc (.cells #[.bool h, .int .i64 i, .int .i64 o, .bool g] 23)).alloc (.cells bx0 23)).alloc (.cells #[.bool true, .int .i64 x', .int .i64 y', .bool g] 23)))
  have HB2 := Lib.hid (below_call HB.out k2)
  have HX2 := Lib.hid (HX.out.below k2)
  have HR2 := Lib.hid (HR.out.below k2)
  have HQ2 := Lib.hid ((blk_new ((w.alloc (.cells #[.bool h, .int .i64 i, .int .i64 o, .bool g] 23)).alloc (.cells bx0 23)) #[.bool true, .int .i64 x', .int .i64 y', .bool g] 23).below (bel_drew _))
  rw [e2] at HQ2
  obtain ⟨c0, c1, c2, c3⟩ := (HX.out.below (bel_drew _)).four
  obtain ⟨q0, q1, q2, q3⟩ := HX.out.four
  clear h1 h2 h3 hx hy hr e1 k1 e2 k2 HB HX HR
  go_enter Try.func11, Try.ntmps11
  go_upto_region 1 with fail
  go_cut [7] (fun s7 wx => s7 = .pointer (some ⟨w.heap.size + 2, 0, none⟩) ∧ wx = (((w.alloc (.cells #[.bool h, .int .i64 i, .int .i64 o, .bool g] 23)).alloc (.cells bx0 23)).alloc (.cells #[.bool true, .int .i64 x', .int .i64 y', .bool g] 23)).drew)
  case first =>
    go_region_with (first
      | (go_at_call 19; (with_reducible refine (M1.out _).mono ?_); rintro e w1 ⟨rfl, rfl⟩)
      | (go_at_call 19; (with_reducible refine (M2.out _).mono ?_); rintro e w1 ⟨rfl, rfl⟩))
    all_goals (go_wp2_with fail; go_meet; exact ⟨rfl, rfl⟩)
  case rest =>
    obtain ⟨rfl, rfl⟩ := hcut
    clear c0 c1 c2 c3 q0 q1 q2 q3 M1 M2
    generalize (((w.alloc (.cells #[.bool h, .int .i64 i, .int .i64 o, .bool g] 23)).alloc (.cells bx0 23)).alloc (.cells #[.bool true, .int .i64 x', .int .i64 y', .bool g] 23)).drew = W2 at *
    obtain ⟨q0, q1, q2, q3⟩ := HX2.out.four
    obtain ⟨c0, c1, c2, c3⟩ := HQ2.out.four
    have c4 := HQ2.out.frz 3
    obtain ⟨d0, d1, d2, d3⟩ := HR2.out.four
    obtain ⟨f0, f1, f2, f3⟩ := HR2.out.frz4
    clear HX2 HQ2 HR2
    cases h
    · by_cases p3 : 128 ≤ n3
      · obtain rfl : r = true := by rw [← HW.out]; simp [(show 127 < n3 by omega)]
        clear HW
        go_wp2_with fail
        (with_reducible refine (H3.out _).mono ?_)
        rintro e w1 ⟨rfl, rfl⟩
        go_wp2_with fail
        (try simp only [Exit.inBlock, Exit.then])
        refine bodyPost_ret (v := .agg #[.bool true, .int .i64 x', .int .i64 y', .bool true]) ?_ rfl ⟨rfl, ?_⟩
        · rw [results_cell1 rfl]
          go_simp
        · exact bel_set4 (bel_set HB2.out (by omega) _ _) (by omega) _ _ _ _
      · obtain rfl : g = r := by rw [← HW.out]; simp [(show ¬ 127 < n3 by omega)]
        clear HW
        go_wp2_with fail
        (with_reducible refine (H3.out _).mono ?_)
        rintro e w1 ⟨rfl, rfl⟩
        go_wp2_with fail
        (try simp only [Exit.inBlock, Exit.then])
        refine bodyPost_ret (v := .agg #[.bool true, .int .i64 x', .int .i64 y', .bool g]) ?_ rfl ⟨rfl, ?_⟩
        · rw [results_cell1 rfl]
          go_simp
        · exact bel_set4 HB2.out (by omega) _ _ _ _
    · by_cases p1 : 64 < n1
      · obtain rfl : r = true := by rw [← HW.out]; simp [p1]
        clear HW
        go_wp2_with fail
        (with_reducible refine (H1.out _).mono ?_)
        rintro e w1 ⟨rfl, rfl⟩
        go_wp2_with fail
        (try simp only [Exit.inBlock, Exit.then])
        refine bodyPost_ret (v := .agg #[.bool true, .int .i64 x', .int .i64 y', .bool true]) ?_ rfl ⟨rfl, ?_⟩
        · rw [results_cell1 rfl]
          go_simp
        · exact bel_set4 (bel_set HB2.out (by omega) _ _) (by omega) _ _ _ _
      · by_cases p2 : 64 < n2
        · obtain rfl : r = true := by rw [← HW.out]; simp [p2]
          clear HW
          go_wp2_with fail
          (with_reducible refine (H1.out _).mono ?_)
          rintro e w1 ⟨rfl, rfl⟩
          go_wp2_with fail
          (with_reducible refine (H2.out _).mono ?_)
          rintro e w1 ⟨rfl, rfl⟩
          go_wp2_with fail
          (try simp only [Exit.inBlock, Exit.then])
          refine bodyPost_ret (v := .agg #[.bool true, .int .i64 x', .int .i64 y', .bool true]) ?_ rfl ⟨rfl, ?_⟩
          · rw [results_cell1 rfl]
            go_simp
          · exact bel_set4 (bel_set HB2.out (by omega) _ _) (by omega) _ _ _ _
        · by_cases p3 : 128 ≤ n3
          · obtain rfl : r = true := by rw [← HW.out]; simp [(show 127 < n3 by omega)]
            clear HW
            go_wp2_with fail
            (with_reducible refine (H1.out _).mono ?_)
            rintro e w1 ⟨rfl, rfl⟩
            go_wp2_with fail
            (with_reducible refine (H2.out _).mono ?_)
            rintro e w1 ⟨rfl, rfl⟩
            go_wp2_with fail
            (with_reducible refine (H3.out _).mono ?_)
            rintro e w1 ⟨rfl, rfl⟩
            go_wp2_with fail
            (try simp only [Exit.inBlock, Exit.then])
            refine bodyPost_ret (v := .agg #[.bool true, .int .i64 x', .int .i64 y', .bool true]) ?_ rfl ⟨rfl, ?_⟩
            · rw [results_cell1 rfl]
              go_simp
            · exact bel_set4 (bel_set HB2.out (by omega) _ _) (by omega) _ _ _ _
          · obtain rfl : g = r := by rw [← HW.out]; simp [p1, p2, (show ¬ 127 < n3 by omega)]
            clear HW
            go_wp2_with fail
            (with_reducible refine (H1.out _).mono ?_)
            rintro e w1 ⟨rfl, rfl⟩
            go_wp2_with fail
            (with_reducible refine (H2.out _).mono ?_)
            rintro e w1 ⟨rfl, rfl⟩
            go_wp2_with fail
            (with_reducible refine (H3.out _).mono ?_)
            rintro e w1 ⟨rfl, rfl⟩
            go_wp2_with fail
            (try simp only [Exit.inBlock, Exit.then])
            refine bodyPost_ret (v := .agg #[.bool true, .int .i64 x', .int .i64 y', .bool g]) ?_ rfl ⟨rfl, ?_⟩
            · rw [results_cell1 rfl]
              go_simp
            · exact bel_set4 HB2.out (by omega) _ _ _ _
set_option maxHeartbeats 1000000 in
theorem rreset_to (h : Bool) (i o : Int) (g : Bool) (r : Bool) (hr : rst i o g = r) (w : World) : Calls Try.prog 17 #[.agg #[.bool h, .int .i64 i, .int .i64 o, .bool g]] w fun e w' => e = .returned (.agg #[.bool h, .int .i64 i, .int .i64 o, .bool r]) ∧ Below w.heap.size w w' := by
  have hX := blk_new (w.alloc (.cells #[.bool h, .int .i64 i, .int .i64 o, .bool g] 23)) bx0 23
  rw [show (w.alloc (.cells #[.bool h, .int .i64 i, .int .i64 o, .bool g] 23)).heap.size = w.heap.size + 1 by simp] at hX
  have hL := (blk_new w #[.bool h, .int .i64 i, .int .i64 o, .bool g] 23).below (below_alloc (Below.refl _ (w.alloc (.cells #[.bool h, .int .i64 i, .int .i64 o, .bool g] 23))) (.cells bx0 23))
  have HB := Lib.hid (below_alloc (below_alloc (Below.refl _ w) (.cells #[.bool h, .int .i64 i, .int .i64 o, .bool g] 23)) (.cells bx0 23))
  have HX := Lib.hid hX
  have HL := Lib.hid hL
  obtain ⟨y0, y1, y2, y3⟩ := hL.four
  clear hX hL
  unfold rst at hr
  obtain ⟨n, hn⟩ : ∃ n, ahd i o = n := ⟨_, rfl⟩
  rw [hn] at hr
  have HA := Lib.hid (ron_to h i o g n hn)
  clear hn
  by_cases p : n = 0
  · obtain rfl : r = false := by rw [← hr]; simp [p]
    subst p
    clear hr
    go_enter Try.func17, Try.ntmps17
    go_wp2_with fail
    (with_reducible refine (HA.out _).mono ?_)
    rintro e w1 ⟨rfl, hb⟩
    have HB1 := Lib.hid (below_call HB.out hb)
    have HX1 := HX.out.below hb
    have HL1 := HL.out.below hb
    obtain ⟨x0, x1, x2, x3⟩ := HX1.four
    obtain ⟨f0, f1, f2, f3⟩ := HX1.frz4
    obtain ⟨z0, z1, z2, z3⟩ := HL1.four
    have e3 := HL1.frz 3
    clear hb HX1 HL1 HX HL HB y0 y1 y2 y3
    go_wp2_with fail
    (try simp only [Exit.inBlock, Exit.then])
    refine bodyPost_ret (v := .agg #[.bool h, .int .i64 i, .int .i64 o, .bool false]) ?_ rfl ⟨rfl, ?_⟩
    · rw [results_cell1 rfl]
      go_simp
    · exact bel_set4 (bel_set HB1.out (by omega) _ _) (by omega) _ _ _ _
  · obtain rfl : g = r := by rw [← hr]; simp [p]
    have q : (n == 0) = false := by simp [p]
    clear hr p
    go_enter Try.func17, Try.ntmps17
    go_wp2_with fail
    (with_reducible refine (HA.out _).mono ?_)
    rintro e w1 ⟨rfl, hb⟩
    have HB1 := Lib.hid (below_call HB.out hb)
    have HX1 := HX.out.below hb
    have HL1 := HL.out.below hb
    obtain ⟨x0, x1, x2, x3⟩ := HX1.four
    obtain ⟨f0, f1, f2, f3⟩ := HX1.frz4
    obtain ⟨z0, z1, z2, z3⟩ := HL1.four
    clear hb HX1 HL1 HX HL HB y0 y1 y2 y3
    go_wp2_with fail
    (try simp only [Exit.inBlock, Exit.then])
    refine bodyPost_ret (v := .agg #[.bool h, .int .i64 i, .int .i64 o, .bool g]) ?_ rfl ⟨rfl, ?_⟩
    · rw [results_cell1 rfl]
      go_simp
    · exact bel_set4 HB1.out (by omega) _ _ _ _
end Go.Proofs.Ytkgloniffmfpjaa

/-
  Step and Reset of axle by contracts.
-/
import Derived.Test.YteknfjnfaedebaaAxStep
namespace Go.Proofs.Yteknfjnfaedebaa
open Go.RowKit

abbrev ax0 : Array Value := #[.bool false, .int .i64 0, .int .i64 0, .bool false]
set_option maxHeartbeats 8000000 in
theorem step_ax (h : Bool) (i o : Int) (g : Bool) (x y x' y' : Int) (r : Bool) (hx : x % 256 = x') (hy : y % 256 = y') (hr : wrg h i o g x y = r) (w : World) : Calls Try.prog 10 #[.agg #[.bool h, .int .i64 i, .int .i64 o, .bool g], .int .i64 x, .int .i64 y] w fun e w' => e = .returned (.agg #[.bool true, .int .i64 x', .int .i64 y', .bool r]) ∧ Below w.heap.size w w' := by
  have hX := blk_new (w.alloc (.cells #[.bool h, .int .i64 i, .int .i64 o, .bool g] 27)) ax0 27
  rw [show (w.alloc (.cells #[.bool h, .int .i64 i, .int .i64 o, .bool g] 27)).heap.size = w.heap.size + 1 by simp] at hX
  have hL := (blk_new w #[.bool h, .int .i64 i, .int .i64 o, .bool g] 27).below (below_alloc (Below.refl _ (w.alloc (.cells #[.bool h, .int .i64 i, .int .i64 o, .bool g] 27))) (.cells ax0 27))
  have HB := Lib.hid (below_alloc (below_alloc (Below.refl _ w) (.cells #[.bool h, .int .i64 i, .int .i64 o, .bool g] 27)) (.cells ax0 27))
  obtain ⟨x0, x1, x2, x3⟩ := hX.four
  obtain ⟨f0, f1, f2, f3⟩ := hX.frz4
  obtain ⟨y0, y1, y2, y3⟩ := hL.four
  clear hX hL
  have a1 := and255 x
  have a2 := and255 y
  rw [hx] at a1
  rw [hy] at a2
  unfold wrg at hr
  obtain ⟨n1, h1⟩ : ∃ n, ahd x i = n := ⟨_, rfl⟩
  obtain ⟨n2, h2⟩ : ∃ n, ahd y o = n := ⟨_, rfl⟩
  obtain ⟨n3, h3⟩ : ∃ n, ahd x y = n := ⟨_, rfl⟩
  rw [h1, h2, h3] at hr
  have H1 := Lib.hid (ahead_to x i n1 h1)
  have H2 := Lib.hid (ahead_to y o n2 h2)
  have H3 := Lib.hid (ahead_to x y n3 h3)
  have HR := Lib.hid hr
  clear h1 h2 h3 hx hy hr
  cases h
  · cases g
    · by_cases p3 : 127 < n3
      · go_enter Try.func10, Try.ntmps10
        obtain rfl : r = true := by rw [← HR.out]; simp [p3]
        clear HR
        go_wp2_with fail
        (with_reducible refine (H3.out _).mono ?_)
        rintro e w1 ⟨rfl, rfl⟩
        go_wp2_with fail
        (try simp only [Exit.inBlock, Exit.then])
        refine bodyPost_ret (v := .agg #[.bool true, .int .i64 x', .int .i64 y', .bool true]) ?_ rfl ⟨rfl, ?_⟩
        · rw [results_cell1 rfl]
          go_simp
        · exact below_alloc (below_alloc (Below.refl _ w) _) _
      · go_enter Try.func10, Try.ntmps10
        obtain rfl : r = false := by rw [← HR.out]; simp [p3]
        clear HR
        go_wp2_with fail
        (with_reducible refine (H3.out _).mono ?_)
        rintro e w1 ⟨rfl, rfl⟩
        go_wp2_with fail
        (try simp only [Exit.inBlock, Exit.then])
        refine bodyPost_ret (v := .agg #[.bool true, .int .i64 x', .int .i64 y', .bool false]) ?_ rfl ⟨rfl, ?_⟩
        · rw [results_cell1 rfl]
          go_simp
        · exact below_alloc (below_alloc (Below.refl _ w) _) _
    · go_enter Try.func10, Try.ntmps10
      obtain rfl : r = true := by rw [← HR.out]; simp
      clear HR
      go_wp2_with fail
      (try simp only [Exit.inBlock, Exit.then])
      refine bodyPost_ret (v := .agg #[.bool true, .int .i64 x', .int .i64 y', .bool true]) ?_ rfl ⟨rfl, ?_⟩
      · rw [results_cell1 rfl]
        go_simp
      · exact below_alloc (below_alloc (Below.refl _ w) _) _
  · by_cases p1 : 64 < n1
    · cases g
      · go_enter Try.func10, Try.ntmps10
        obtain rfl : r = true := by rw [← HR.out]; simp [p1]
        clear HR
        go_wp2_with fail
        (with_reducible refine (H1.out _).mono ?_)
        rintro e w1 ⟨rfl, rfl⟩
        go_wp2_with fail
        (try simp only [Exit.inBlock, Exit.then])
        refine bodyPost_ret (v := .agg #[.bool true, .int .i64 x', .int .i64 y', .bool true]) ?_ rfl ⟨rfl, ?_⟩
        · rw [results_cell1 rfl]
          go_simp
        · exact below_alloc (below_alloc (Below.refl _ w) _) _
      · go_enter Try.func10, Try.ntmps10
        obtain rfl : r = true := by rw [← HR.out]; simp
        clear HR
        go_wp2_with fail
        (with_reducible refine (H1.out _).mono ?_)
        rintro e w1 ⟨rfl, rfl⟩
        go_wp2_with fail
        (try simp only [Exit.inBlock, Exit.then])
        refine bodyPost_ret (v := .agg #[.bool true, .int .i64 x', .int .i64 y', .bool true]) ?_ rfl ⟨rfl, ?_⟩
        · rw [results_cell1 rfl]
          go_simp
        · exact below_alloc (below_alloc (Below.refl _ w) _) _
    · by_cases p2 : 64 < n2
      · cases g
        · go_enter Try.func10, Try.ntmps10
          obtain rfl : r = true := by rw [← HR.out]; simp [p1, p2]
          clear HR
          go_wp2_with fail
          (with_reducible refine (H1.out _).mono ?_)
          rintro e w1 ⟨rfl, rfl⟩
          go_wp2_with fail
          (with_reducible refine (H2.out _).mono ?_)
          rintro e w1 ⟨rfl, rfl⟩
          go_wp2_with fail
          (try simp only [Exit.inBlock, Exit.then])
          refine bodyPost_ret (v := .agg #[.bool true, .int .i64 x', .int .i64 y', .bool true]) ?_ rfl ⟨rfl, ?_⟩
          · rw [results_cell1 rfl]
            go_simp
          · exact below_alloc (below_alloc (Below.refl _ w) _) _
        · go_enter Try.func10, Try.ntmps10
          obtain rfl : r = true := by rw [← HR.out]; simp
          clear HR
          go_wp2_with fail
          (with_reducible refine (H1.out _).mono ?_)
          rintro e w1 ⟨rfl, rfl⟩
          go_wp2_with fail
          (with_reducible refine (H2.out _).mono ?_)
          rintro e w1 ⟨rfl, rfl⟩
          go_wp2_with fail
          (try simp only [Exit.inBlock, Exit.then])
          refine bodyPost_ret (v := .agg #[.bool true, .int .i64 x', .int .i64 y', .bool true]) ?_ rfl ⟨rfl, ?_⟩
          · rw [results_cell1 rfl]
            go_simp
          · exact below_alloc (below_alloc (Below.refl _ w) _) _
      · cases g
        · by_cases p3 : 127 < n3
          · go_enter Try.func10, Try.ntmps10
            obtain rfl : r = true := by rw [← HR.out]; simp [p1, p2, p3]
            clear HR
            go_wp2_with fail
            (with_reducible refine (H1.out _).mono ?_)
            rintro e w1 ⟨rfl, rfl⟩
            go_wp2_with fail
            (with_reducible refine (H2.out _).mono ?_)
            rintro e w1 ⟨rfl, rfl⟩
            go_wp2_with fail
            (with_reducible refine (H3.out _).mono ?_)
            rintro e w1 ⟨rfl, rfl⟩
            go_wp2_with fail
            (try simp only [Exit.inBlock, Exit.then])
            refine bodyPost_ret (v := .agg #[.bool true, .int .i64 x', .int .i64 y', .bool true]) ?_ rfl ⟨rfl, ?_⟩
            · rw [results_cell1 rfl]
              go_simp
            · exact below_alloc (below_alloc (Below.refl _ w) _) _
          · go_enter Try.func10, Try.ntmps10
            obtain rfl : r = false := by rw [← HR.out]; simp [p1, p2, p3]
            clear HR
            go_wp2_with fail
            (with_reducible refine (H1.out _).mono ?_)
            rintro e w1 ⟨rfl, rfl⟩
            go_wp2_with fail
            (with_reducible refine (H2.out _).mono ?_)
            rintro e w1 ⟨rfl, rfl⟩
            go_wp2_with fail
            (with_reducible refine (H3.out _).mono ?_)
            rintro e w1 ⟨rfl, rfl⟩
            go_wp2_with fail
            (try simp only [Exit.inBlock, Exit.then])
            refine bodyPost_ret (v := .agg #[.bool true, .int .i64 x', .int .i64 y', .bool false]) ?_ rfl ⟨rfl, ?_⟩
            · rw [results_cell1 rfl]
              go_simp
            · exact below_alloc (below_alloc (Below.refl _ w) _) _
        · go_enter Try.func10, Try.ntmps10
          obtain rfl : r = true := by rw [← HR.out]; simp
          clear HR
          go_wp2_with fail
          (with_reducible refine (H1.out _).mono ?_)
          rintro e w1 ⟨rfl, rfl⟩
          go_wp2_with fail
          (with_reducible refine (H2.out _).mono ?_)
          rintro e w1 ⟨rfl, rfl⟩
          go_wp2_with fail
          (try simp only [Exit.inBlock, Exit.then])
          refine bodyPost_ret (v := .agg #[.bool true, .int .i64 x', .int .i64 y', .bool true]) ?_ rfl ⟨rfl, ?_⟩
          · rw [results_cell1 rfl]
            go_simp
          · exact below_alloc (below_alloc (Below.refl _ w) _) _
set_option maxHeartbeats 1000000 in
theorem reset_to (h : Bool) (i o : Int) (g : Bool) (r : Bool) (hr : rst i o g = r) (w : World) : Calls Try.prog 12 #[.agg #[.bool h, .int .i64 i, .int .i64 o, .bool g]] w fun e w' => e = .returned (.agg #[.bool h, .int .i64 i, .int .i64 o, .bool r]) ∧ Below w.heap.size w w' := by
  have hX := blk_new (w.alloc (.cells #[.bool h, .int .i64 i, .int .i64 o, .bool g] 27)) ax0 27
  rw [show (w.alloc (.cells #[.bool h, .int .i64 i, .int .i64 o, .bool g] 27)).heap.size = w.heap.size + 1 by simp] at hX
  have hL := (blk_new w #[.bool h, .int .i64 i, .int .i64 o, .bool g] 27).below (below_alloc (Below.refl _ (w.alloc (.cells #[.bool h, .int .i64 i, .int .i64 o, .bool g] 27))) (.cells ax0 27))
  have HB := Lib.hid (below_alloc (below_alloc (Below.refl _ w) (.cells #[.bool h, .int .i64 i, .int .i64 o, .bool g] 27)) (.cells ax0 27))
  have HX := Lib.hid hX
  have HL := Lib.hid hL
  obtain ⟨y0, y1, y2, y3⟩ := hL.four
  clear hX hL
  unfold rst at hr
  obtain ⟨n, hn⟩ : ∃ n, ahd i o = n := ⟨_, rfl⟩
  rw [hn] at hr
  have HA := Lib.hid (on_to h i o g n hn)
  clear hn
  by_cases p : n = 0
  · obtain rfl : r = false := by rw [← hr]; simp [p]
    subst p
    clear hr
    go_enter Try.func12, Try.ntmps12
    go_wp2_with fail
    (with_reducible refine (HA.out _).mono ?_)
    rintro e w1 ⟨rfl, hb⟩
    have HB1 := Lib.hid (below_call HB.out hb)
    have HX1 := HX.out.below hb
    have HL1 := HL.out.below hb
    obtain ⟨x0, x1, x2, x3⟩ := HX1.four
    obtain ⟨f0, f1, f2, f3⟩ := HX1.frz4
    obtain ⟨z0, z1, z2, z3⟩ := HL1.four
    have e3 := HL1.frz 3
    clear hb HX1 HL1 HX HL HB y0 y1 y2 y3
    go_wp2_with fail
    (try simp only [Exit.inBlock, Exit.then])
    refine bodyPost_ret (v := .agg #[.bool h, .int .i64 i, .int .i64 o, .bool false]) ?_ rfl ⟨rfl, ?_⟩
    · rw [results_cell1 rfl]
      go_simp
    · exact bel_set4 (bel_set HB1.out (by omega) _ _) (by omega) _ _ _ _
  · obtain rfl : g = r := by rw [← hr]; simp [p]
    have q : (n == 0) = false := by simp [p]
    clear hr p
    go_enter Try.func12, Try.ntmps12
    go_wp2_with fail
    (with_reducible refine (HA.out _).mono ?_)
    rintro e w1 ⟨rfl, hb⟩
    have HB1 := Lib.hid (below_call HB.out hb)
    have HX1 := HX.out.below hb
    have HL1 := HL.out.below hb
    obtain ⟨x0, x1, x2, x3⟩ := HX1.four
    obtain ⟨f0, f1, f2, f3⟩ := HX1.frz4
    obtain ⟨z0, z1, z2, z3⟩ := HL1.four
    clear hb HX1 HL1 HX HL HB y0 y1 y2 y3
    go_wp2_with fail
    (try simp only [Exit.inBlock, Exit.then])
    refine bodyPost_ret (v := .agg #[.bool h, .int .i64 i, .int .i64 o, .bool g]) ?_ rfl ⟨rfl, ?_⟩
    · rw [results_cell1 rfl]
      go_simp
    · exact bel_set4 HB1.out (by omega) _ _ _ _
end Go.Proofs.Yteknfjnfaedebaa

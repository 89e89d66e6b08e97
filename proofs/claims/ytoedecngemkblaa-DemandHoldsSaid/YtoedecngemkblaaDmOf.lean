/-
  Of of demand by a contract.
-/
import Derived.Test.YtoedecngemkblaaDmGood
namespace Go.Proofs.Ytoedecngemkblaa
open Go.RowKit

theorem two_cells {w : World} {g : Nat} {T : TypeId} {c0 c1 : Value} (h : Blk w g #[c0, c1] T) : w.cell? ⟨g, 0, none⟩ = some c0 ∧ w.cell? ⟨g, 1, none⟩ = some c1 := ⟨h.cell 0 rfl, h.cell 1 rfl⟩
theorem of_boxes (a b c d s l o : Bool) (m : Int) (mn ba : Bool) (r : Int) (tv : Value) (op : Bool) (w : World) : Blk (((w.alloc (.cells #[.bool a, .bool b, .bool c, .bool d, .bool s, .bool l, .bool o, .int .i64 m, .bool mn, .bool ba, .int .i64 r, tv] 26)).alloc (.cells #[.bool op] 4)).alloc (.cells #[.bool false, .bool false] 31)) w.heap.size #[.bool a, .bool b, .bool c, .bool d, .bool s, .bool l, .bool o, .int .i64 m, .bool mn, .bool ba, .int .i64 r, tv] 26 ∧ Blk (((w.alloc (.cells #[.bool a, .bool b, .bool c, .bool d, .bool s, .bool l, .bool o, .int .i64 m, .bool mn, .bool ba, .int .i64 r, tv] 26)).alloc (.cells #[.bool op] 4)).alloc (.cells #[.bool false, .bool false] 31)) (w.heap.size + 1) #[.bool op] 4 ∧ Blk (((w.alloc (.cells #[.bool a, .bool b, .bool c, .bool d, .bool s, .bool l, .bool o, .int .i64 m, .bool mn, .bool ba, .int .i64 r, tv] 26)).alloc (.cells #[.bool op] 4)).alloc (.cells #[.bool false, .bool false] 31)) (w.heap.size + 1 + 1) #[.bool false, .bool false] 31 ∧ Below w.heap.size w (((w.alloc (.cells #[.bool a, .bool b, .bool c, .bool d, .bool s, .bool l, .bool o, .int .i64 m, .bool mn, .bool ba, .int .i64 r, tv] 26)).alloc (.cells #[.bool op] 4)).alloc (.cells #[.bool false, .bool false] 31)) := by
  have b1 := blk_new w #[.bool a, .bool b, .bool c, .bool d, .bool s, .bool l, .bool o, .int .i64 m, .bool mn, .bool ba, .int .i64 r, tv] 26
  have b2 := blk_new (w.alloc (.cells #[.bool a, .bool b, .bool c, .bool d, .bool s, .bool l, .bool o, .int .i64 m, .bool mn, .bool ba, .int .i64 r, tv] 26)) #[.bool op] 4
  have b3 := blk_new ((w.alloc (.cells #[.bool a, .bool b, .bool c, .bool d, .bool s, .bool l, .bool o, .int .i64 m, .bool mn, .bool ba, .int .i64 r, tv] 26)).alloc (.cells #[.bool op] 4)) #[.bool false, .bool false] 31
  have k2 := below_alloc (Below.refl _ (w.alloc (.cells #[.bool a, .bool b, .bool c, .bool d, .bool s, .bool l, .bool o, .int .i64 m, .bool mn, .bool ba, .int .i64 r, tv] 26))) (.cells #[.bool op] 4)
  have k3 := below_alloc (Below.refl _ ((w.alloc (.cells #[.bool a, .bool b, .bool c, .bool d, .bool s, .bool l, .bool o, .int .i64 m, .bool mn, .bool ba, .int .i64 r, tv] 26)).alloc (.cells #[.bool op] 4))) (.cells #[.bool false, .bool false] 31)
  simp only [World.size_alloc] at b2 b3
  exact ⟨(b1.below k2).below k3, b2.below k3, b3, below_alloc (below_alloc (below_alloc (Below.refl _ w) _) _) _⟩
set_option maxHeartbeats 2000000 in
theorem of_to (a b c d s l o : Bool) (m : Int) (mn ba : Bool) (r : Int) (tv : Value) (v : Value) (ls : List Tk) (w : World) (hv : Els RTk 11 w v ls) (hm : ls.length ≤ maxLen) (lk op : Bool) (u q : Bool) (hu : (!dgood m mn l ls) = u) (hq : dshut u r ls lk op = q) : Calls Try.prog 11 #[.agg #[.bool a, .bool b, .bool c, .bool d, .bool s, .bool l, .bool o, .int .i64 m, .bool mn, .bool ba, .int .i64 r, tv], v, .bool lk, .bool op] w fun e w' => e = .returned (.agg #[.bool q, .bool u]) ∧ Below w.heap.size w w' := by
  obtain ⟨X0, X1, X2, HB⟩ := of_boxes a b c d s l o m mn ba r tv op w
  replace X0 := Lib.hid X0
  replace X1 := Lib.hid X1
  replace X2 := Lib.hid X2
  replace HB := Lib.hid HB
  obtain ⟨x0, x1, x2, x3, x4, x5, x6, x7, x8, x9, x10, x11⟩ := cells12 X0.out
  have HV := Lib.hid (hv.below (w' := (((w.alloc (.cells #[.bool a, .bool b, .bool c, .bool d, .bool s, .bool l, .bool o, .int .i64 m, .bool mn, .bool ba, .int .i64 r, tv] 26)).alloc (.cells #[.bool op] 4)).alloc (.cells #[.bool false, .bool false] 31))) (fun g o y h => h.below HB.out))
  obtain ⟨n, cc, ev⟩ := hv.len
  subst ev
  obtain ⟨k, hk⟩ : ∃ k, dany (dask op) ls = k := ⟨_, rfl⟩
  obtain ⟨g, hg⟩ : ∃ g, dgood m mn l ls = g := ⟨_, rfl⟩
  have HG := Lib.hid (good_to a b c d s l o m mn ba r tv _ ls _ HV.out hm g hg)
  unfold dshut at hq
  rw [hg] at hu
  rw [hk] at hq
  have HK := Lib.hid hk
  have HM := Lib.hid hm
  have hmf : ∀ (fn : Fn) (first cap : Array Value) (w : World), (Instr.makeFunc fn first cap).run Try.prog w = .ok (.func fn first cap) w := fun _ _ _ _ => rfl
  clear hv hk hm hg
  cases g
  · obtain rfl : u = true := hu.symm
    have HQ := Lib.hid hq
    clear hu hq
    go_enter Try.func11, Try.ntmps11
    go_wp2_with fail
    (with_reducible refine (HG.out).mono ?_)
    rintro e w1 ⟨rfl, hb⟩
    have HB1 := Lib.hid (below_call HB.out hb)
    have HD := Lib.hid (X2.out.below hb)
    have HC := Lib.hid (asks_any _ ls op (w.heap.size + 1) w1 (HV.out.below (fun g o y h => h.below hb)) ((X1.out.below hb).cell 0 rfl) HM.out k HK.out)
    obtain ⟨z0, z1⟩ := two_cells HD.out
    have z2 := HD.out.frz 0
    have z3 := HD.out.frz 1
    obtain ⟨_, _, _, _, _, _, _, _, _, _, y10, _⟩ := cells12 (X0.out.below hb)
    clear hb HG X0 X1 X2 x0 x1 x2 x3 x4 x5 x6 x7 x8 x9 x10 x11
    go_wp2_with fail
    (try simp only [Exit.inBlock, Exit.then])
    refine bodyPost_ret (v := .agg #[.bool true, .bool true]) ?_ rfl ⟨by rw [← HQ.out]; rfl, ?_⟩
    · rw [results_cell1 rfl]
      go_simp
    · exact bel_set (bel_set HB1.out (by omega) 0 _) (by omega) 1 _
  · obtain rfl : u = false := hu.symm
    clear hu
    cases lk
    · by_cases h1 : r = 0
      · subst h1
        have h2 : ((0 : Int) != 0) = false := rfl
        rw [h2] at hq
        have HQ := Lib.hid hq
        clear hq
        go_enter Try.func11, Try.ntmps11
        go_wp2_with fail
        (with_reducible refine (HG.out).mono ?_)
        rintro e w1 ⟨rfl, hb⟩
        have HB1 := Lib.hid (below_call HB.out hb)
        have HD := Lib.hid (X2.out.below hb)
        have HC := Lib.hid (asks_any _ ls op (w.heap.size + 1) w1 (HV.out.below (fun g o y h => h.below hb)) ((X1.out.below hb).cell 0 rfl) HM.out k HK.out)
        obtain ⟨z0, z1⟩ := two_cells HD.out
        have z2 := HD.out.frz 0
        have z3 := HD.out.frz 1
        obtain ⟨_, _, _, _, _, _, _, _, _, _, y10, _⟩ := cells12 (X0.out.below hb)
        clear hb HG X0 X1 X2 x0 x1 x2 x3 x4 x5 x6 x7 x8 x9 x10 x11
        go_wp2_with fail
        (with_reducible refine (HC.out).mono ?_)
        rintro e w2 ⟨rfl, hb⟩
        replace HB1 := Lib.hid (below_call HB1.out hb)
        replace HD := Lib.hid (HD.out.below hb)
        obtain ⟨z0, z1⟩ := two_cells HD.out
        have z2 := HD.out.frz 0
        have z3 := HD.out.frz 1
        clear hb HC
        go_wp2_with fail
        (try simp only [Exit.inBlock, Exit.then])
        refine bodyPost_ret (v := .agg #[.bool k, .bool false]) ?_ rfl ⟨by rw [← HQ.out]; rfl, ?_⟩
        · rw [results_cell1 rfl]
          go_simp
        · exact bel_set (bel_set HB1.out (by omega) 0 _) (by omega) 1 _
      · have h2 : (r != 0) = true := by simpa using h1
        rw [h2] at hq
        have HQ := Lib.hid hq
        clear hq h1
        go_enter Try.func11, Try.ntmps11
        go_wp2_with fail
        (with_reducible refine (HG.out).mono ?_)
        rintro e w1 ⟨rfl, hb⟩
        have HB1 := Lib.hid (below_call HB.out hb)
        have HD := Lib.hid (X2.out.below hb)
        have HC := Lib.hid (asks_any _ ls op (w.heap.size + 1) w1 (HV.out.below (fun g o y h => h.below hb)) ((X1.out.below hb).cell 0 rfl) HM.out k HK.out)
        obtain ⟨z0, z1⟩ := two_cells HD.out
        have z2 := HD.out.frz 0
        have z3 := HD.out.frz 1
        obtain ⟨_, _, _, _, _, _, _, _, _, _, y10, _⟩ := cells12 (X0.out.below hb)
        clear hb HG X0 X1 X2 x0 x1 x2 x3 x4 x5 x6 x7 x8 x9 x10 x11
        go_wp2_with fail
        (try simp only [Exit.inBlock, Exit.then])
        refine bodyPost_ret (v := .agg #[.bool true, .bool false]) ?_ rfl ⟨by rw [← HQ.out]; rfl, ?_⟩
        · rw [results_cell1 rfl]
          go_simp
        · exact bel_set (bel_set HB1.out (by omega) 0 _) (by omega) 1 _
    · have HQ := Lib.hid hq
      clear hq
      go_enter Try.func11, Try.ntmps11
      go_wp2_with fail
      (with_reducible refine (HG.out).mono ?_)
      rintro e w1 ⟨rfl, hb⟩
      have HB1 := Lib.hid (below_call HB.out hb)
      have HD := Lib.hid (X2.out.below hb)
      have HC := Lib.hid (asks_any _ ls op (w.heap.size + 1) w1 (HV.out.below (fun g o y h => h.below hb)) ((X1.out.below hb).cell 0 rfl) HM.out k HK.out)
      obtain ⟨z0, z1⟩ := two_cells HD.out
      have z2 := HD.out.frz 0
      have z3 := HD.out.frz 1
      obtain ⟨_, _, _, _, _, _, _, _, _, _, y10, _⟩ := cells12 (X0.out.below hb)
      clear hb HG X0 X1 X2 x0 x1 x2 x3 x4 x5 x6 x7 x8 x9 x10 x11
      go_wp2_with fail
      (try simp only [Exit.inBlock, Exit.then])
      refine bodyPost_ret (v := .agg #[.bool true, .bool false]) ?_ rfl ⟨by rw [← HQ.out]; rfl, ?_⟩
      · rw [results_cell1 rfl]
        go_simp
      · exact bel_set (bel_set HB1.out (by omega) 0 _) (by omega) 1 _
end Go.Proofs.Ytoedecngemkblaa

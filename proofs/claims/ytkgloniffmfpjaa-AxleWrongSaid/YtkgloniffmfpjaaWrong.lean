/-
  The walk of crossbucklaw11.AxleWrong: true, whatever it is given.
-/
import Derived.Test.YtkgloniffmfpjaaSmall
import Derived.Test.YtkgloniffmfpjaaPairs
import Derived.StillTailTactics
import Derived.Lib.QuietBelow
import Derived.BigQuiet
namespace Go.Proofs.Ytkgloniffmfpjaa
open Go.RowKit

theorem wrong_out (h : Bool) (i o : Int) (g : Bool) (v : Value) (ls : List (Int × Int)) (w : World) (hv : Els R2 2 w v ls) (hl : 200 < ls.length) : Calls Try.prog 5 #[.agg #[.bool h, .int .i64 i, .int .i64 o, .bool g], v] w fun e w' => e = .returned (.bool true) ∧ Below w.heap.size w w' := by
  have HB0 := Lib.hid (below_alloc (Below.refl _ w) (.cells #[.bool h, .int .i64 i, .int .i64 o, .bool g] 23))
  obtain ⟨a, c, ev⟩ := hv.len
  obtain ⟨n, hn⟩ : ∃ n, n = ls.length := ⟨_, rfl⟩
  rw [← hn] at ev hl
  subst ev
  have hlI : (200 : Int) < (n : Int) := by omega
  clear hv hn hl
  go_enter Try.func5, Try.ntmps5
  go_wp2_with fail
  (with_reducible refine (small_true _).mono ?_)
  rintro e w1 ⟨rfl, hb⟩
  have HB1 := Lib.hid (below_call HB0.out hb)
  clear hb
  go_wp2_with fail
  go_ret
  exact ⟨rfl, HB1.out⟩
theorem wrong_step (h : Bool) (i o x y : Int) : wrg h i o true x y = true := by unfold wrg; simp
theorem wrong_clear (h : Bool) (i o : Int) : clr h i o true = false := by unfold clr; simp
theorem Blk.put4 {w : World} {g : Nat} {c0 c1 c2 c3 : Value} {T : TypeId} (h : Blk w g #[c0, c1, c2, c3] T) (u0 u1 u2 u3 : Value) : Blk ((((w.setCell ⟨g, 0, none⟩ u0).setCell ⟨g, 1, none⟩ u1).setCell ⟨g, 2, none⟩ u2).setCell ⟨g, 3, none⟩ u3) g #[u0, u1, u2, u3] T := (((h.set_ 0 u0).set_ 1 u1).set_ 2 u2).set_ 3 u3
set_option maxHeartbeats 8000000 in
set_option maxRecDepth 10000 in
theorem wrong_main (h : Bool) (i o : Int) (g : Bool) (v : Value) (ls : List (Int × Int)) (w : World) (hv : Els R2 2 w v ls) (hl : ls.length ≤ 200) : Calls Try.prog 5 #[.agg #[.bool h, .int .i64 i, .int .i64 o, .bool g], v] w fun e w' => e = .returned (.bool true) ∧ Below w.heap.size w w' := by
  have HB0 := Lib.hid (below_alloc (Below.refl _ w) (.cells #[.bool h, .int .i64 i, .int .i64 o, .bool g] 23))
  have HX0 := Lib.hid (box4 w h i o g)
  obtain ⟨a, c, ev⟩ := hv.len
  obtain ⟨n, hn⟩ : ∃ n, n = ls.length := ⟨_, rfl⟩
  rw [← hn] at ev hl
  subst ev
  have HV := Lib.hid hv
  have HN := Lib.hid hn
  have hlI : ¬ (200 : Int) < (n : Int) := by omega
  clear hv hn
  go_enter Try.func5, Try.ntmps5
  go_wp2_with fail
  (with_reducible refine (small_true _).mono ?_)
  rintro e w1 ⟨rfl, hb⟩
  have HB1 := Lib.hid (bel_set (below_call HB0.out hb) (Nat.le_refl _) 3 (.bool true))
  have HX1 := Lib.hid ((HX0.out.below hb).set_ 3 (.bool true))
  obtain ⟨c0, c1, c2, c3⟩ := (HX0.out.below hb).four
  have d3 := (HX0.out.below hb).frz 3
  clear hb HB0 HX0
  go_wp2_with fail
  clear c0 c1 c2 c3 d3
  generalize w1.setCell ⟨w.heap.size, 3, none⟩ (.bool true) = w2 at *
  go_loopw [6] (fun j wr => ∃ (k : Nat) (h : Bool) (i o : Int), k ≤ n ∧ j = .int .i64 (k : Int) ∧ Hid (Below w.heap.size w wr) ∧ Hid (Blk wr w.heap.size #[.bool h, .int .i64 i, .int .i64 o, .bool true] 23)) (fun j _ => n - (intOf j).toNat)
  case atStart => exact ⟨0, h, i, o, by omega, rfl, HB1, HX1⟩
  case round =>
    obtain ⟨k, h, i, o, hk, rfl, HB, HX⟩ := hrel
    clear HB1 HX1
    by_cases hlt : k < n
    · have hltI : (k : Int) < (n : Int) := by omega
      obtain ⟨y, hy⟩ : ∃ y, ls[k]? = some y := ⟨_, List.getElem?_eq_getElem (by rw [← HN.out]; exact hlt)⟩
      obtain ⟨g2, o2, ea, hr⟩ := HV.out.at_ hy
      subst ea
      obtain ⟨r0, r1⟩ := hr.below HB.out
      have HBd := Lib.hid (below_call HB.out (bel_drew wr))
      have HXd := Lib.hid (HX.out.below (bel_drew wr))
      obtain ⟨p, q⟩ := y
      dsimp only at r0 r1
      obtain ⟨p', hp⟩ : ∃ n, p % 256 = n := ⟨_, rfl⟩
      obtain ⟨q', hq⟩ : ∃ n, q % 256 = n := ⟨_, rfl⟩
      have HS := Lib.hid (step_ax h i o true p q p' q' true hp hq (wrong_step h i o p q))
      have HC := Lib.hid (clear_to true p' q' true false (wrong_clear _ _ _))
      obtain ⟨c0, c1, c2, c3⟩ := HX.out.four
      clear hy hr hp hq
      go_wp2_with fail
      go_still_tail 11, (by kernel_rfl)
      change wpList _ _ _ _ _ wr.drew
      generalize wr.drew = w3 at *
      clear c0 c1 c2 c3 r0 r1 HX HB
      go_wp2_with fail
      (with_reducible refine (HS.out _).mono ?_)
      rintro e w4 ⟨rfl, hb⟩
      replace HBd := Lib.hid (below_call HBd.out hb)
      replace HXd := Lib.hid (HXd.out.below hb)
      obtain ⟨c0, c1, c2, c3⟩ := HXd.out.four
      obtain ⟨d0, d1, d2, d3⟩ := HXd.out.frz4
      clear hb
      go_wp2_with fail
      replace HBd := Lib.hid (bel_set4 HBd.out (Nat.le_refl _) (.bool true) (.int .i64 p') (.int .i64 q') (.bool true))
      replace HXd := Lib.hid (HXd.out.put4 (.bool true) (.int .i64 p') (.int .i64 q') (.bool true))
      clear c0 c1 c2 c3 d0 d1 d2 d3
      generalize (((w4.setCell ⟨w.heap.size, 0, none⟩ (.bool true)).setCell ⟨w.heap.size, 1, none⟩ (.int .i64 p')).setCell ⟨w.heap.size, 2, none⟩ (.int .i64 q')).setCell ⟨w.heap.size, 3, none⟩ (.bool true) = w5 at *
      (with_reducible refine (HC.out _).mono ?_)
      rintro e w6 ⟨rfl, hb⟩
      replace HBd := Lib.hid (below_call HBd.out hb)
      replace HXd := Lib.hid (HXd.out.below hb)
      obtain ⟨c0, c1, c2, c3⟩ := HXd.out.four
      clear hb
      go_wp2_with fail
      go_roundw
      case rel => exact ⟨k + 1, true, p', q', by omega, by go_num, HBd, HXd⟩
      case measure => simp [intOf]; omega
    · have hltI : ¬ (k : Int) < (n : Int) := by omega
      obtain ⟨z, hz⟩ : ∃ z, ahd i o = z := ⟨_, rfl⟩
      have hz2 : rst i o true = (z != 0) := by unfold rst; rw [hz]; by_cases e : z = 0 <;> simp [e]
      have hz3 : z = 0 → clr h i o false = h := fun e => by unfold clr; rw [hz, e]; simp
      have HO := Lib.hid (on_to h i o true z hz)
      obtain ⟨c0, c1, c2, c3⟩ := HX.out.four
      clear hz
      by_cases hzz : z = 0
      · subst hzz
        have HR := Lib.hid (reset_to h i o true false hz2)
        have HC := Lib.hid (clear_to h i o false h (hz3 rfl))
        have q1 : (h == h) = true := by simp
        clear hz2 hz3
        go_wp2_with fail
        (with_reducible refine (HR.out _).mono ?_)
        rintro e w3 ⟨rfl, hb⟩
        replace HB := Lib.hid (below_alloc (below_call HB.out hb) (.cells #[.bool h, .int .i64 i, .int .i64 o, .bool false] 23))
        replace HX := Lib.hid ((HX.out.below hb).below (below_alloc (Below.refl _ w3) (.cells #[.bool h, .int .i64 i, .int .i64 o, .bool false] 23)))
        have HY := Lib.hid (box4 w3 h i o false)
        clear hb c0 c1 c2 c3
        go_wp2_with fail
        generalize w3.alloc (.cells #[.bool h, .int .i64 i, .int .i64 o, .bool false] 23) = w4 at *
        obtain ⟨b0, b1, b2, b3⟩ := HX.out.four
        obtain ⟨c0, c1, c2, c3⟩ := HY.out.four
        replace b0 := cell_regrown b0
        replace b1 := cell_regrown b1
        replace b2 := cell_regrown b2
        replace b3 := cell_regrown b3
        replace c0 := cell_regrown c0
        replace c1 := cell_regrown c1
        replace c2 := cell_regrown c2
        replace c3 := cell_regrown c3
        refine wp_region_quiet_below (by kernel_rfl) (by kernel_rfl) ?_
        repeat (go_big_quiet_step (first | (with_reducible exact Calls.regrown_of (HO.out _)) | (with_reducible exact Calls.regrown_of (HC.out _))))
        refine wpQuiet_nil ?_
        intro _ hw'
        obtain ⟨⟨dq, osq⟩, hw''⟩ := hw'
        subst hw''
        clear b0 b1 b2 b3 c0 c1 c2 c3
        go_wp2_with fail
        go_ret
        exact ⟨rfl, below_call HB.out (below_regrown _ dq osq)⟩
      · have q1 : (z != 0) = true := by simp [hzz]
        have HR := Lib.hid (reset_to h i o true true (by rw [hz2, q1]))
        clear hz2 hz3 hzz
        go_wp2_with fail
        (with_reducible refine (HR.out _).mono ?_)
        rintro e w3 ⟨rfl, hb⟩
        replace HB := Lib.hid (below_alloc (below_call HB.out hb) (.cells #[.bool h, .int .i64 i, .int .i64 o, .bool true] 23))
        replace HX := Lib.hid ((HX.out.below hb).below (below_alloc (Below.refl _ w3) (.cells #[.bool h, .int .i64 i, .int .i64 o, .bool true] 23)))
        have HY := Lib.hid (box4 w3 h i o true)
        clear hb c0 c1 c2 c3
        go_wp2_with fail
        generalize w3.alloc (.cells #[.bool h, .int .i64 i, .int .i64 o, .bool true] 23) = w4 at *
        obtain ⟨b0, b1, b2, b3⟩ := HX.out.four
        obtain ⟨c0, c1, c2, c3⟩ := HY.out.four
        replace b0 := cell_regrown b0
        replace b1 := cell_regrown b1
        replace b2 := cell_regrown b2
        replace b3 := cell_regrown b3
        replace c0 := cell_regrown c0
        replace c1 := cell_regrown c1
        replace c2 := cell_regrown c2
        replace c3 := cell_regrown c3
        refine wp_region_quiet_below (by kernel_rfl) (by kernel_rfl) ?_
        repeat (go_big_quiet_step (with_reducible exact Calls.regrown_of (HO.out _)))
        refine wpQuiet_nil ?_
        intro _ hw'
        obtain ⟨⟨dq, osq⟩, hw''⟩ := hw'
        subst hw''
        clear b0 b1 b2 b3 c0 c1 c2 c3
        go_wp2_with fail
        go_ret
        exact ⟨rfl, below_call HB.out (below_regrown _ dq osq)⟩
theorem wrong_any (h : Bool) (i o : Int) (g : Bool) (v : Value) (ls : List (Int × Int)) (w : World) (hv : Els R2 2 w v ls) : Calls Try.prog 5 #[.agg #[.bool h, .int .i64 i, .int .i64 o, .bool g], v] w fun e w' => e = .returned (.bool true) ∧ Below w.heap.size w w' := by
  by_cases hl : ls.length ≤ 200
  · exact wrong_main h i o g v ls w hv hl
  · exact wrong_out h i o g v ls w hv (by omega)
end Go.Proofs.Ytkgloniffmfpjaa

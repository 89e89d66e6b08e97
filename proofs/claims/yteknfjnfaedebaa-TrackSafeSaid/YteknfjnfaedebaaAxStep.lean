/-
  The calls of axle by contracts: Step, On, Clear, Reset.
-/
import Derived.Test.YteknfjnfaedebaaAxMath
import Derived.Test.YteknfjnfaedebaaBlk
namespace Go.Proofs.Yteknfjnfaedebaa
open Go.RowKit

/-- Counters' block, stored into whole. -/
theorem Blk.put4 {w : World} {g : Nat} {c0 c1 c2 c3 : Value} {T : TypeId} (h : Blk w g #[c0, c1, c2, c3] T) (u0 u1 u2 u3 : Value) : Blk ((((w.setCell ⟨g, 0, none⟩ u0).setCell ⟨g, 1, none⟩ u1).setCell ⟨g, 2, none⟩ u2).setCell ⟨g, 3, none⟩ u3) g #[u0, u1, u2, u3] T := (((h.set_ 0 u0).set_ 1 u1).set_ 2 u2).set_ 3 u3
theorem keep_put4 (w : World) (b : Nat) (u0 u1 u2 u3 : Value) : Keep (fun x => x = b) w ((((w.setCell ⟨b, 0, none⟩ u0).setCell ⟨b, 1, none⟩ u1).setCell ⟨b, 2, none⟩ u2).setCell ⟨b, 3, none⟩ u3) := ((((Keep.refl (fun x => x = b) w).store b 0 u0 rfl).store b 1 u1 rfl).store b 2 u2 rfl).store b 3 u3 rfl
theorem ahead_to (x y n : Int) (h : ahd x y = n) (w : World) : Calls Try.prog 18 #[.int .i64 x, .int .i64 y] w fun e w' => e = .returned (.int .i64 n) ∧ w' = w := by
  obtain ⟨z, hz, ha⟩ := ahd_and x y
  rw [h] at ha
  clear h
  go_enter Try.func18, Try.ntmps18
  go_wp2_with fail
  go_ret
  exact ⟨by simp, rfl⟩
theorem box4 (w : World) (h : Bool) (i o : Int) (g : Bool) : Blk (w.alloc (.cells #[.bool h, .int .i64 i, .int .i64 o, .bool g] 27)) w.heap.size #[.bool h, .int .i64 i, .int .i64 o, .bool g] 27 := blk_new w _ _
theorem on_to (h : Bool) (i o : Int) (g : Bool) (n : Int) (hn : ahd i o = n) (w : World) : Calls Try.prog 20 #[.agg #[.bool h, .int .i64 i, .int .i64 o, .bool g]] w fun e w' => e = .returned (.int .i64 n) ∧ Below w.heap.size w w' := by
  have HB := Lib.hid (below_alloc (Below.refl _ w) (.cells #[.bool h, .int .i64 i, .int .i64 o, .bool g] 27))
  obtain ⟨x0, x1, x2, x3⟩ := (box4 w h i o g).four
  have HA := Lib.hid (ahead_to i o n hn)
  clear hn
  go_enter Try.func20, Try.ntmps20
  go_wp2_with fail
  (with_reducible refine (HA.out _).mono ?_)
  rintro e w1 ⟨rfl, rfl⟩
  go_wp2_with fail
  go_ret
  exact ⟨rfl, HB.out⟩
theorem clear_to (h : Bool) (i o : Int) (g : Bool) (r : Bool) (hr : clr h i o g = r) (w : World) : Calls Try.prog 14 #[.agg #[.bool h, .int .i64 i, .int .i64 o, .bool g]] w fun e w' => e = .returned (.bool r) ∧ Below w.heap.size w w' := by
  have HB := Lib.hid (below_alloc (Below.refl _ w) (.cells #[.bool h, .int .i64 i, .int .i64 o, .bool g] 27))
  obtain ⟨x0, x1, x2, x3⟩ := (box4 w h i o g).four
  obtain ⟨n, hn⟩ : ∃ n, ahd i o = n := ⟨_, rfl⟩
  have HA := Lib.hid (on_to h i o g n hn)
  rw [← hr]
  unfold clr
  rw [hn]
  clear hn hr
  cases h
  · go_enter Try.func14, Try.ntmps14
    go_wp2_with fail
    go_ret
    exact ⟨by simp, HB.out⟩
  · cases g
    · obtain ⟨b, hb⟩ : ∃ b, (n == 0) = b := ⟨_, rfl⟩
      rw [show decide (n = 0) = b by rw [← hb]; rfl]
      go_enter Try.func14, Try.ntmps14
      go_wp2_with fail
      (with_reducible refine (HA.out _).mono ?_)
      rintro e w1 ⟨rfl, hb1⟩
      have HB1 := Lib.hid (below_call HB.out hb1)
      clear hb1
      go_wp2_with fail
      go_ret
      exact ⟨by simp, HB1.out⟩
    · go_enter Try.func14, Try.ntmps14
      go_wp2_with fail
      go_ret
      exact ⟨by simp, HB.out⟩
end Go.Proofs.Yteknfjnfaedebaa

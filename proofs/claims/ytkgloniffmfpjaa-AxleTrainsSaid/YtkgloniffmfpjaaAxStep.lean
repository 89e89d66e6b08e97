/-
  The calls of axle by contracts: Step, On, Clear, Reset.
-/
import Derived.Test.YtkgloniffmfpjaaAxMath
import Derived.Test.YtkgloniffmfpjaaBlk
namespace Go.Proofs.Ytkgloniffmfpjaa
open Go.RowKit

theorem ahead_to (x y n : Int) (h : ahd x y = n) (w : World) : Calls Try.prog 18 #[.int .i64 x, .int .i64 y] w fun e w' => e = .returned (.int .i64 n) ∧ w' = w := by
  obtain ⟨z, hz, ha⟩ := ahd_and x y
  rw [h] at ha
  clear h
  go_enter Try.func18, Try.ntmps18
  go_wp2_with fail
  go_ret
  exact ⟨by simp [ha], rfl⟩
theorem box4 (w : World) (h : Bool) (i o : Int) (g : Bool) : Blk (w.alloc (.cells #[.bool h, .int .i64 i, .int .i64 o, .bool g] 23)) w.heap.size #[.bool h, .int .i64 i, .int .i64 o, .bool g] 23 := blk_new w _ _
theorem on_to (h : Bool) (i o : Int) (g : Bool) (n : Int) (hn : ahd i o = n) (w : World) : Calls Try.prog 12 #[.agg #[.bool h, .int .i64 i, .int .i64 o, .bool g]] w fun e w' => e = .returned (.int .i64 n) ∧ Below w.heap.size w w' := by
  have HB := Lib.hid (below_alloc (Below.refl _ w) (.cells #[.bool h, .int .i64 i, .int .i64 o, .bool g] 23))
  obtain ⟨x0, x1, x2, x3⟩ := (box4 w h i o g).four
  have HA := Lib.hid (ahead_to i o n hn)
  clear hn
  go_enter Try.func12, Try.ntmps12
  go_wp2_with fail
  (with_reducible refine (HA.out _).mono ?_)
  rintro e w1 ⟨rfl, rfl⟩
  go_wp2_with fail
  go_ret
  exact ⟨rfl, HB.out⟩
theorem clear_to (h : Bool) (i o : Int) (g : Bool) (r : Bool) (hr : clr h i o g = r) (w : World) : Calls Try.prog 14 #[.agg #[.bool h, .int .i64 i, .int .i64 o, .bool g]] w fun e w' => e = .returned (.bool r) ∧ Below w.heap.size w w' := by
  have HB := Lib.hid (below_alloc (Below.refl _ w) (.cells #[.bool h, .int .i64 i, .int .i64 o, .bool g] 23))
  obtain ⟨x0, x1, x2, x3⟩ := (box4 w h i o g).four
  obtain ⟨n, hn⟩ : ∃ n, ahd i o = n := ⟨_, rfl⟩
  have HA := Lib.hid (on_to h i o g n hn)
  rw [← hr]
  unfold clr
  rw [hn]
  clear hn hr
  cases h
  · go_enter Try.func14, Try.ntmps14
    go_wp2_with fail
    go_ret
    exact ⟨by simp, HB.out⟩
  · cases g
    · obtain ⟨b, hb⟩ : ∃ b, (n == 0) = b := ⟨_, rfl⟩
      rw [show decide (n = 0) = b by rw [← hb]; rfl]
      go_enter Try.func14, Try.ntmps14
      go_wp2_with fail
      (with_reducible refine (HA.out _).mono ?_)
      rintro e w1 ⟨rfl, hb1⟩
      have HB1 := Lib.hid (below_call HB.out hb1)
      clear hb1
      go_wp2_with fail
      go_ret
      exact ⟨by simp, HB1.out⟩
    · go_enter Try.func14, Try.ntmps14
      go_wp2_with fail
      go_ret
      exact ⟨by simp, HB.out⟩
end Go.Proofs.Ytkgloniffmfpjaa

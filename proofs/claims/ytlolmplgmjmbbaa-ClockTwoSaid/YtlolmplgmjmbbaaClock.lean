/-
  The calls of clock by contracts: sums and differences of times, and a clock in memory.
-/
import Derived.Test.YtlolmplgmjmbbaaCore
namespace Go.Proofs.Ytlolmplgmjmbbaa
open Go.RowKit

/-- A time: from 0 to the last one. -/
abbrev Tim (a : Int) : Prop := 0 ≤ a ∧ a ≤ 18446744073709551615
/-- s is a and b, but no more than the last time. -/
abbrev Sum (a b s : Int) : Prop := (s = a + b ∧ a + b ≤ 18446744073709551615) ∨ (s = 18446744073709551615 ∧ 18446744073709551615 < a + b)
/-- d is how much now is behind then, or 0. -/
abbrev Dif (now then_ d : Int) : Prop := (d = now - then_ ∧ then_ ≤ now) ∨ (d = 0 ∧ now < then_)

theorem add_any (a b : Int) (w : World) (ha : Tim a) (hb : Tim b) : Calls Try.prog 10 #[.int .u64 a, .int .u64 b] w fun e w' => ∃ s, e = .returned (.int .u64 s) ∧ Sum a b s ∧ w = w' := by
  obtain ⟨a0, a1⟩ := ha
  obtain ⟨b0, b1⟩ := hb
  by_cases h : a + b ≤ 18446744073709551615
  all_goals
    go_enter Try.func10, Try.ntmps10
    go_wp2_with fail
    go_ret
    exact ⟨_, rfl, by unfold Sum; omega, rfl⟩
theorem radd_any (a b : Int) (w : World) (ha : Tim a) (hb : Tim b) : Calls Try.prog 11 #[.int .u64 a, .int .u64 b] w fun e w' => ∃ s, e = .returned (.int .u64 s) ∧ Sum a b s ∧ w = w' := by
  obtain ⟨a0, a1⟩ := ha
  obtain ⟨b0, b1⟩ := hb
  by_cases h : a + b ≤ 18446744073709551615
  all_goals
    go_enter Try.func11, Try.ntmps11
    go_wp2_with fail
    go_ret
    exact ⟨_, rfl, by unfold Sum; omega, rfl⟩
theorem since_any (a b : Int) (w : World) (ha : Tim a) (hb : Tim b) : Calls Try.prog 12 #[.int .u64 a, .int .u64 b] w fun e w' => ∃ s, e = .returned (.int .u64 s) ∧ Dif a b s ∧ w = w' := by
  obtain ⟨a0, a1⟩ := ha
  obtain ⟨b0, b1⟩ := hb
  by_cases h : b ≤ a
  all_goals
    go_enter Try.func12, Try.ntmps12
    go_wp2_with fail
    go_ret
    exact ⟨_, rfl, by unfold Dif; omega, rfl⟩
theorem rsince_any (a b : Int) (w : World) (ha : Tim a) (hb : Tim b) : Calls Try.prog 13 #[.int .u64 a, .int .u64 b] w fun e w' => ∃ s, e = .returned (.int .u64 s) ∧ Dif a b s ∧ w = w' := by
  obtain ⟨a0, a1⟩ := ha
  obtain ⟨b0, b1⟩ := hb
  by_cases h : b ≤ a
  all_goals
    go_enter Try.func13, Try.ntmps13
    go_wp2_with fail
    go_ret
    exact ⟨_, rfl, by unfold Dif; omega, rfl⟩

/-- A clock at block g whose time is t. -/
def Clk (w : World) (g : Nat) (t : Int) : Prop := w.heap[g]? = some (.cells #[.int .u64 t] 33 (0, 0)) ∧ Tim t
theorem Clk.lt {w : World} {g : Nat} {t : Int} (h : Clk w g t) : g < w.heap.size := by
  rcases Nat.lt_or_ge g w.heap.size with h1 | h1
  · exact h1
  · rw [Clk, Array.getElem?_eq_none h1] at h; cases h.1
theorem Clk.cell {w : World} {g : Nat} {t : Int} (h : Clk w g t) : w.cell? ⟨g, 0, none⟩ = some (.int .u64 t) ∧ w.frozen? ⟨g, 0, none⟩ = false := by
  refine ⟨?_, frozen_of_row w g 0 _ _ h.1⟩
  rw [cell_of_row w g 0 _ _ _ h.1]; rfl
theorem Clk.apart {w w' : World} {b g : Nat} {t : Int} (h : Clk w g t) (ha : Apart b w w') (hn : g ≠ b) : Clk w' g t := ⟨by rw [ha.block g h.lt hn]; exact h.1, h.2⟩
theorem Clk.below {w w' : World} {g : Nat} {t : Int} (h : Clk w g t) (hb : Below w.heap.size w w') : Clk w' g t := ⟨by rw [hb.block g h.lt]; exact h.1, h.2⟩
theorem Clk.set_ {w : World} {g : Nat} {t u : Int} (h : Clk w g t) (hu : Tim u) : Clk (w.setCell ⟨g, 0, none⟩ (.int .u64 u)) g u := by
  refine ⟨?_, hu⟩
  rw [heap_setCell_same w g 0 _ _ _ h.1]
  rfl

theorem at_any (t : Int) (w : World) (ht : Tim t) : Calls Try.prog 14 #[.int .u64 t] w fun e w' => ∃ g, e = .returned (.pointer (some ⟨g, 0, none⟩)) ∧ w.heap.size ≤ g ∧ Clk w' g t ∧ Below w.heap.size w w' := by
  have HT := Lib.hid ht
  clear ht
  go_enter Try.func14, Try.ntmps14
  go_wp2_with fail
  go_ret
  exact ⟨_, rfl, Nat.le_refl _, ⟨heap_alloc_new w _, HT.out⟩, below_alloc (Below.refl _ w) _⟩
theorem now_any (g : Nat) (t : Int) (w : World) (h : Clk w g t) : Calls Try.prog 15 #[.pointer (some ⟨g, 0, none⟩)] w fun e w' => e = .returned (.int .u64 t) ∧ w = w' := by
  obtain ⟨h0, h1⟩ := h.cell
  clear h
  go_enter Try.func15, Try.ntmps15
  go_wp2_with fail
  go_ret
  exact ⟨rfl, rfl⟩
theorem full_any (g : Nat) (t : Int) (w : World) (h : Clk w g t) : Calls Try.prog 16 #[.pointer (some ⟨g, 0, none⟩)] w fun e w' => e = .returned (.bool (decide (t = 18446744073709551615))) ∧ w = w' := by
  obtain ⟨h0, h1⟩ := h.cell
  clear h
  go_enter Try.func16, Try.ntmps16
  go_wp2_with fail
  go_ret
  exact ⟨rfl, rfl⟩
theorem full_yes (g : Nat) (t : Int) (w : World) (h : Clk w g t) (ht : t = 18446744073709551615) : Calls Try.prog 16 #[.pointer (some ⟨g, 0, none⟩)] w fun e w' => e = .returned (.bool true) ∧ w = w' := by
  have := full_any g t w h
  rwa [show decide (t = 18446744073709551615) = true by simp [ht]] at this
theorem full_no (g : Nat) (t : Int) (w : World) (h : Clk w g t) (ht : t ≠ 18446744073709551615) : Calls Try.prog 16 #[.pointer (some ⟨g, 0, none⟩)] w fun e w' => e = .returned (.bool false) ∧ w = w' := by
  have := full_any g t w h
  rwa [show decide (t = 18446744073709551615) = false by simp [ht]] at this
/-- A tick: the time is u then, and it is told whether there was one. -/
theorem tick_less (g : Nat) (t : Int) (w : World) (h : Clk w g t) (hl : t < 18446744073709551615) : Calls Try.prog 17 #[.pointer (some ⟨g, 0, none⟩)] w fun e w' => e = .returned (.bool true) ∧ Clk w' g (t + 1) ∧ Apart g w w' := by
  have HC := Lib.hid h
  have HF := Lib.hid (full_any g t w h)
  have ht := h.2
  obtain ⟨t0, t1⟩ := ht
  obtain ⟨h0, h1⟩ := h.cell
  clear h
  go_enter Try.func17, Try.ntmps17
  go_wp2_with fail
  (with_reducible refine HF.out.mono ?_)
  rintro e w1 ⟨rfl, rfl⟩
  rw [show decide (t = 18446744073709551615) = false by simp; omega]
  go_wp2_with fail
  go_ret
  exact ⟨rfl, HC.out.set_ ⟨by omega, by omega⟩, Apart.set_ _ _ _ _⟩
theorem tick_full (g : Nat) (t : Int) (w : World) (h : Clk w g t) (hl : t = 18446744073709551615) : Calls Try.prog 17 #[.pointer (some ⟨g, 0, none⟩)] w fun e w' => e = .returned (.bool false) ∧ w = w' := by
  have HF := Lib.hid (full_any g t w h)
  have HL := Lib.hid hl
  clear h hl
  go_enter Try.func17, Try.ntmps17
  go_wp2_with fail
  (with_reducible refine HF.out.mono ?_)
  rintro e w1 ⟨rfl, rfl⟩
  rw [show decide (t = 18446744073709551615) = true by rw [HL.out]; decide]
  go_wp2_with fail
  go_ret
  exact ⟨rfl, rfl⟩
/-- A tick of any clock, whatever is told. -/
theorem tick_any (g : Nat) (t : Int) (w : World) (h : Clk w g t) : Calls Try.prog 17 #[.pointer (some ⟨g, 0, none⟩)] w fun e w' => ∃ u, e = .returned (.bool (decide (t < 18446744073709551615))) ∧ Sum t 1 u ∧ Clk w' g u ∧ Apart g w w' := by
  have := h.2
  by_cases hl : t = 18446744073709551615
  · refine (tick_full g t w h hl).mono ?_
    rintro e w1 ⟨rfl, rfl⟩
    exact ⟨t, by simp [hl], by omega, h, Apart.refl _ _⟩
  · refine (tick_less g t w h (by omega)).mono ?_
    rintro e w1 ⟨rfl, hc, ha⟩
    exact ⟨t + 1, by rw [show decide (t < 18446744073709551615) = true by simp; omega], by omega, hc, ha⟩
end Go.Proofs.Ytlolmplgmjmbbaa

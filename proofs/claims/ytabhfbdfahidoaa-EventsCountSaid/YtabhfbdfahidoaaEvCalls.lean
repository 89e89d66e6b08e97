/-
  The calls of a log of events by contracts: New, first, Lost; rows joined by the library (Grow, Concat).
-/
import Derived.Test.YtabhfbdfahidoaaEvRow
import Derived.BigQuiet
import Derived.Lib.AppendZerosOnto
import Derived.Deep.DeepCutAuto
namespace Go.Proofs.Ytabhfbdfahidoaa
open Go.RowKit

/-- A log at block b: its room r, and all the events xs that were added to it. -/
def Lg (w : World) (B b r : Nat) (v : Value) (xs : List Ev) : Prop :=
  ∃ ev k, Blk w b #[.int .i64 ((r : Nat) : Int), v, .int .i64 ((k : Nat) : Int)] 39 ∧ OwnEv w B v ev ∧ Ring r xs ev k ∧ B ≤ b ∧ 1 ≤ r ∧ r ≤ 1024
variable {B b r : Nat} {w w' : World} {v : Value} {xs : List Ev}
theorem evlog_ne : 39 ≠ 31 := by decide
theorem Lg.keep {F : Nat → Prop} (h : Lg w B b r v xs) (hk : Keep F w w') (hb : ¬ F b) (hn : ∀ g, v.ownBlock = some g → ¬ F g) : Lg w' B b r v xs := by
  obtain ⟨ev, k, h1, h2, h3⟩ := h
  exact ⟨ev, k, h1.keep hk hb, h2.keep hk hn, h3⟩
theorem Lg.below (h : Lg w B b r v xs) (hb : Below w.heap.size w w') : Lg w' B b r v xs := h.keep (F := fun _ => False) (Keep.of_below hb) (fun h => h) (fun _ _ h => h)
theorem Lg.lt (h : Lg w B b r v xs) : B ≤ b ∧ b < w.heap.size := by
  obtain ⟨ev, k, h1, h2, h3, h4, _⟩ := h
  exact ⟨h4, h1.lt⟩
theorem Lg.own (h : Lg w B b r v xs) {g : Nat} (hg : v.ownBlock = some g) : B ≤ g ∧ g < w.heap.size ∧ g ≠ b := by
  obtain ⟨ev, k, h1, h2, h3, h4, _⟩ := h
  exact ⟨(h2.lt hg).1, (h2.lt hg).2, fun e => h2.ne h1 evlog_ne (by rw [hg, e])⟩
theorem Lg.room (h : Lg w B b r v xs) : 1 ≤ r ∧ r ≤ 1024 := by
  obtain ⟨ev, k, h1, h2, h3, h4, h5⟩ := h
  exact h5
theorem lg_new (w : World) (B r : Nat) (hB : B ≤ w.heap.size) (h1 : 1 ≤ r) (h2 : r ≤ 1024) : Lg (w.alloc (.cells #[.int .i64 (r : Int), .slice none 0 0, .int .i64 0] 39)) B w.heap.size r (.slice none 0 0) [] :=
  ⟨[], 0, blk_new w _ _, ownEv_nil _ _, ring_nil r, hB, h1, h2⟩

theorem evnew_to (n : Int) (r : Nat) (hr : (n < 1 ∧ r = 1) ∨ (1 ≤ n ∧ n ≤ 1024 ∧ n = (r : Int)) ∨ (1024 < n ∧ r = 1024)) (w : World) :
    Calls Try.prog 8 #[.int .i64 n] w fun e w' => e = .returned (.pointer (some ⟨w.heap.size, 0, none⟩)) ∧ w' = w.alloc (.cells #[.int .i64 (r : Int), .slice none 0 0, .int .i64 0] 39) := by
  rcases hr with ⟨h1, rfl⟩ | ⟨h1, h2, rfl⟩ | ⟨h1, rfl⟩
  · go_enter Try.func8, Try.ntmps8
    go_wp2_with fail
    go_ret
    simp
  · have q1 : ¬ ((r : Int) < 1) := by omega
    have q2 : ¬ ((1024 : Int) < (r : Int)) := by omega
    go_enter Try.func8, Try.ntmps8
    go_wp2_with fail
    all_goals
      go_ret
      simp
      try omega
  · have q1 : ¬ (n < 1) := by omega
    go_enter Try.func8, Try.ntmps8
    go_wp2_with fail
    all_goals
      go_ret
      simp
      try omega
theorem evfirst_to {k : Nat} (hb : Blk w b #[.int .i64 (r : Int), v, .int .i64 (k : Int)] 39) (h1 : 1 ≤ r) (m : Nat) (hm : k % r = m) :
    Calls Try.prog 17 #[.pointer (some ⟨b, 0, none⟩)] w fun e w' => e = .returned (.int .i64 (m : Int)) ∧ Below w.heap.size w w' := by
  obtain ⟨c0, c1, c2⟩ := hb.three
  have q0 : ((r : Int) == 0) = false := by simp; omega
  have q1 : (k : Int).tmod (r : Int) = (m : Int) := by rw [← hm, Int.tmod_eq_emod_of_nonneg (Int.natCast_nonneg k)]; rfl
  have q2 : ¬ ((r : Int) = 0) := by omega
  clear hm c1
  go_enter Try.func17, Try.ntmps17
  go_wp2_with fail
  go_quiet (fail)
  go_wp2_with fail
  go_ret
  exact ⟨rfl, bel_drewN _ _⟩
theorem evlost_to {k : Nat} (hb : Blk w b #[.int .i64 (r : Int), v, .int .i64 (k : Int)] 39) :
    Calls Try.prog 15 #[.pointer (some ⟨b, 0, none⟩)] w fun e w' => e = .returned (.int .i64 (k : Int)) ∧ w' = w := by
  obtain ⟨c0, c1, c2⟩ := hb.three
  clear c0 c1
  go_enter Try.func15, Try.ntmps15
  go_wp2_with fail
  go_ret
  exact ⟨rfl, rfl⟩
/-! Parts of rows. -/
theorem sizeEv (w : World) : (sizeOf 31).run Try.prog w = .ok 3 w := by kernel_rfl
theorem elemEv : Try.prog.elem 22 = 31 := by kernel_rfl
/-- xs[k:]. -/
theorem evcut_from {a0 : Option Addr} {n c : Nat} (hc : n ≤ c) (k : Nat) (hk : k ≤ n) : ∃ a1,
    (∀ w', (Instr.slice 22 (.slice a0 n c) (some (.int .i64 (k : Int))) none none).run Try.prog w' = .ok (.slice a1 (n - k) (c - k)) w') ∧ ∀ w' (xs : List Ev), Els REv 3 w' (.slice a0 n c) xs → Els REv 3 w' (.slice a1 (n - k) (c - k)) (xs.drop k) := by
  have hu : Try.prog.underlying 22 = some (.slice (Try.prog.elem 22)) := by rw [elemEv]; exact Try.underlying22
  refine ⟨if c = k then a0 else a0.map (·.add (k * 3)), fun w' => ?_, fun w' xs h => ?_⟩
  · rw [run_slice_l _ _ _ _ _ hu _ _ (by omega) (by omega), elemEv, sizeEv]
    simp [Result.andThen, sliced]
  · have hn : n = xs.length := by
      obtain ⟨a, c', e⟩ := h.len
      simp only [Value.slice.injEq] at e
      exact e.2.1
    refine ⟨_, _, by rw [List.length_drop, ← hn], fun j y hy => ?_⟩
    rw [List.getElem?_drop] at hy
    obtain ⟨g, o, rfl, hr⟩ := h.at_ hy
    have hj := (List.getElem?_eq_some_iff.1 hy).1
    rw [if_neg (by omega)]
    refine ⟨g, o + k * 3, by rw [Option.map_some, plain_add], ?_⟩
    rw [show o + k * 3 + j * 3 = o + (k + j) * 3 by omega]
    exact hr
/-- xs[:k]. -/
theorem evcut_to {a0 : Option Addr} {n c : Nat} (hc : n ≤ c) (k : Nat) (hk : k ≤ n) : ∃ a1,
    (∀ w', (Instr.slice 22 (.slice a0 n c) none (some (.int .i64 (k : Int))) none).run Try.prog w' = .ok (.slice a1 k c) w') ∧ ∀ w' (xs : List Ev), Els REv 3 w' (.slice a0 n c) xs → Els REv 3 w' (.slice a1 k c) (xs.take k) := by
  have hu : Try.prog.underlying 22 = some (.slice (Try.prog.elem 22)) := by rw [elemEv]; exact Try.underlying22
  refine ⟨if c = 0 then a0 else a0.map (·.add (0 * 3)), fun w' => ?_, fun w' xs h => ?_⟩
  · rw [run_slice_h _ _ _ _ _ hu _ _ (by omega) (by omega), elemEv, sizeEv]
    simp [Result.andThen, sliced]
  · have hn : n = xs.length := by
      obtain ⟨a, c', e⟩ := h.len
      simp only [Value.slice.injEq] at e
      exact e.2.1
    refine ⟨_, _, by rw [List.length_take, Nat.min_eq_left (by omega)], fun j y hy => ?_⟩
    rw [List.getElem?_take] at hy
    split at hy
    · obtain ⟨g, o, rfl, hr⟩ := h.at_ hy
      refine ⟨g, o, ?_, hr⟩
      split
      · rfl
      · rw [Option.map_some, plain_add]; rfl
    · cases hy
/-! Rows joined. -/
theorem evgrow_zero (w : World) : Calls Try.prog 19 #[.slice none 0 0, .int .i64 0] w fun e w' => e = .returned (.slice none 0 0) ∧ w' = w := by
  go_enter Try.func19, Try.ntmps19
  go_wp2_with fail
  go_ret
  exact ⟨rfl, rfl⟩
set_option maxHeartbeats 2000000 in
set_option maxRecDepth 100000 in
theorem evgrow_some (n : Nat) (h0 : 0 < n) (hn : n ≤ 1000000) (w : World) : Calls Try.prog 19 #[.slice none 0 0, .int .i64 (n : Int)] w fun e w' => ∃ c, e = .returned (.slice (some ⟨w.heap.size, 0, none⟩) 0 c) ∧ OwnEv w' w.heap.size (.slice (some ⟨w.heap.size, 0, none⟩) 0 c) [] ∧ Below w.heap.size w w' := by
  obtain ⟨i0, hi, hz0, hz1, hz2⟩ := info_parts infoEv
  obtain ⟨G, hG⟩ : ∃ G, G = grownCap w n 0 31 := ⟨_, rfl⟩
  have hGn : n ≤ G := by rw [hG]; exact grownCap_ge w _ _ _
  have hGm : G ≤ maxLen := by rw [hG]; exact grownCap_le_maxLen w n 0 31 (by unfold maxLen; omega)
  have hold : (Builtin.firstCells i0.size 0 (.slice none 0 0)).run Try.prog w.drew = .ok (([] : List Value).toArray) w.drew := run_firstCells_none w.drew i0.size 0 0 0
  have hrz : ∀ ty, (Builtin.append_ #[22, 3] ty #[.slice none 0 0, .int .i64 (n : Int)]).run Try.prog w =
      .ok (.slice (some ⟨w.heap.size, 0, none⟩) n G) (w.drew.alloc (.cells (Builtin.zeroCells (Value.agg #[.int .u64 0, .int .i64 0, .int .i64 0]).cells n ++ Builtin.zeroCells (Value.agg #[.int .u64 0, .int .i64 0, .int .i64 0]).cells (G - n)) 31)) := fun ty => by
    have h := Lib.run_append_grow_zeros w 22 3 ty 31 i0 _ .i64 .i64 Try.underlying22 Try.underlying3 hi hz0 none 0 0 [] hold n h0 (by omega) (by omega) (by omega) (by rw [hz2]; omega)
      (by rw [Nat.zero_add, hz2]; exact growslice_fits (by omega) (by omega))
    rw [Nat.zero_add] at h
    rw [h, hG]
    simp
  have hcs : ∀ k, (Builtin.zeroCells (Value.agg #[.int .u64 0, .int .i64 0, .int .i64 0]).cells k).size = k * 3 := fun k => by simp [Builtin.zeroCells, Value.cells]
  have HO : Hid (OwnEv (w.drew.alloc (.cells (Builtin.zeroCells (Value.agg #[.int .u64 0, .int .i64 0, .int .i64 0]).cells n ++ Builtin.zeroCells (Value.agg #[.int .u64 0, .int .i64 0, .int .i64 0]).cells (G - n)) 31)) w.heap.size (.slice (some ⟨w.heap.size, 0, none⟩) 0 G) []) :=
    Lib.hid (World.ownsRow_made w.drew _ G (Nat.le_refl _) hGm (by rw [Array.size_append, hcs, hcs]; omega))
  have HB : Hid (Below w.heap.size w (w.drew.alloc (.cells (Builtin.zeroCells (Value.agg #[.int .u64 0, .int .i64 0, .int .i64 0]).cells n ++ Builtin.zeroCells (Value.agg #[.int .u64 0, .int .i64 0, .int .i64 0]).cells (G - n)) 31))) := Lib.hid (below_alloc (bel_drew w) _)
  generalize Builtin.zeroCells (Value.agg #[.int .u64 0, .int .i64 0, .int .i64 0]).cells n ++ Builtin.zeroCells (Value.agg #[.int .u64 0, .int .i64 0, .int .i64 0]).cells (G - n) = Z at *
  have q0 : decide ((n : Int) < 0) = false := by simp
  have q1 : 0 < (n : Int) := by omega
  have hG63 : G ≤ 9223372036854775807 := by unfold maxLen at hGm; omega
  clear hold hG hcs hi hz0 hz1 hz2 hGm
  go_enter Try.func19, Try.ntmps19
  go_wp2_with (at_builtin; refine Lib.wpList_append_run _ rfl _ _ _ _ rfl _ _ rfl rfl _ _ (hrz _) ?_)
  all_goals
    go_ret
    exact ⟨_, rfl, HO.out, HB.out⟩
end Go.Proofs.Ytabhfbdfahidoaa

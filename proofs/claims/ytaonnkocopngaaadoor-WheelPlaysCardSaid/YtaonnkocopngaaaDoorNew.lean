/-
  New: a wheel of nothing.
-/
import Derived.Test.YtaonnkocopngaaaDoorArm
import Derived.Great.Ranges
namespace Go.Proofs.YtaonnkocopngaaaDoor
open Go.RowKit

theorem infoEnt : (Tryd.prog.info? 60).map (fun i => (i.zero, i.size, i.bytes)) = some (some (.agg #[.bool false, .int .i64 0, .int .u64 0]), 3, 24) := by kernel_rfl
/-- What make lays. -/
theorem run_make_ents (n : Nat) (hn : n ≤ 1000) : ∃ M : Array Value, M.size = n * 3 ∧ (∀ j, j < n → M[j * 3]? = some (.bool false) ∧ M[j * 3 + 1]? = some (.int .i64 0) ∧ M[j * 3 + 2]? = some (.int .u64 0)) ∧
    ∀ w : World, (Instr.makeSlice 48 (.int .i64 (n : Int)) (.int .i64 (n : Int))).run Tryd.prog w = .ok (.slice (some ⟨w.heap.size, 0, none⟩) n n) (w.alloc (.cells M 60)) := by
  obtain ⟨i0, hi, hz0, hz1, hz2⟩ := info_parts infoEnt
  refine ⟨madeCells (Value.agg #[.bool false, .int .i64 0, .int .u64 0]).cells (n * 3), by rw [size_madeCells], ?_, fun w => ?_⟩
  · intro j hj
    have e : ∀ k, k < n * 3 → (madeCells (Value.agg #[.bool false, .int .i64 0, .int .u64 0]).cells (n * 3))[k]? = some ((Value.agg #[.bool false, .int .i64 0, .int .u64 0]).cells[k % 3]!) := by
      intro k hk
      unfold madeCells
      rw [Array.getElem?_map, Array.getElem?_range, if_pos hk]
      rfl
    refine ⟨?_, ?_, ?_⟩
    · rw [e _ (by omega), show j * 3 % 3 = 0 by omega]; rfl
    · rw [e _ (by omega), show (j * 3 + 1) % 3 = 1 by omega]; rfl
    · rw [e _ (by omega), show (j * 3 + 2) % 3 = 2 by omega]; rfl
  · have := run_make (P := Tryd.prog) w 48 60 i0 (.agg #[.bool false, .int .i64 0, .int .u64 0]) Tryd.underlying48 hi hz0 .i64 .i64 (n : Int) (n : Int) (by omega) (by omega) (by rw [hz2]; omega) (by omega)
    rw [hz1] at this
    simpa using this

/-- A wheel's cells: its time, its timers, its slots. -/
def whCells (N : Nat) : Array Value := #[.int .u64 0] ++ (List.replicate N (.slice none 0 0)).toArray
theorem zero_wheel : Tryd.zeroCells53 = whCells 257 := by kernel_rfl
theorem whCells_at (N : Nat) (hN : 1 < N + 1) (v : Value) : ((whCells N).setIfInBounds 1 v).size = N + 1 ∧ ((whCells N).setIfInBounds 1 v)[0]? = some (.int .u64 0) ∧ ((whCells N).setIfInBounds 1 v)[1]? = some v ∧ ∀ k, 1 + k < N → ((whCells N).setIfInBounds 1 v)[2 + k]? = some (.slice none 0 0) := by
  have hs : (whCells N).size = N + 1 := by simp [whCells]; omega
  refine ⟨by simpa using hs, ?_, ?_, fun k hk => ?_⟩
  · rw [Array.getElem?_setIfInBounds, if_neg (by omega)]
    unfold whCells
    rw [Array.getElem?_append_left (by simp)]
    simp
  · rw [Array.getElem?_setIfInBounds, if_pos rfl, if_pos (by omega)]
  · rw [Array.getElem?_setIfInBounds, if_neg (by omega)]
    unfold whCells
    rw [Array.getElem?_append_right (by simp; omega), List.getElem?_toArray]
    rw [show 2 + k - (#[Value.int .u64 0] : Array Value).size = 1 + k by simp, List.getElem?_replicate, if_pos hk]

set_option maxHeartbeats 1000000 in
theorem new_any (pool : Int) (n : Nat) (h0 : (n : Int) = min (max pool 0) 64) (w : World) :
    Calls Tryd.prog 10 #[.int .i64 pool] w fun e w' => ∃ b fp, e = .returned (.pointer (some ⟨b, 0, none⟩)) ∧ Wl w' b n 0 [] fp ∧ Below w.heap.size w w' ∧ ∀ g, fp g → w.heap.size ≤ g := by
  have hn : n ≤ 64 := by omega
  obtain ⟨M, hM1, hM2, hmk⟩ := run_make_ents n (by omega)
  obtain ⟨m, hm⟩ : ∃ m : Int, m = max pool 0 := ⟨_, rfl⟩
  have hmx : ∀ (ts : Array TypeId) (t : TypeId) (w : World), (Builtin.max_ ts t #[.int .i64 pool, .int .i64 0]).run Tryd.prog w = .ok (.int .i64 m) w := by
    intro ts t w
    rw [run_max_int2, show (if (0 : Int) > pool then 0 else pool) = m by rw [hm]; split <;> omega]
  have hmn : ∀ (ts : Array TypeId) (t : TypeId) (w : World), (Builtin.min_ ts t #[.int .i64 m, .int .i64 64]).run Tryd.prog w = .ok (.int .i64 (n : Int)) w := by
    intro ts t w
    rw [run_min_int2, show (if (64 : Int) < m then 64 else m) = (n : Int) by rw [hm]; split <;> omega]
  have HM := Lib.hid hM2
  have HM1 := Lib.hid hM1
  clear hm h0 hM2 hM1
  go_enter Tryd.func10, Tryd.ntmps10
  go_wp2_with fail
  go_ret
  rw [zero_wheel]
  obtain ⟨c1, c2, c3, c4⟩ := whCells_at 257 (by omega) (.slice (some ⟨w.heap.size, 0, none⟩) n n)
  have hb1 := below_alloc (below_alloc (Below.refl w.heap.size w) (.cells M 60)) (.cells ((whCells 257).setIfInBounds 1 (.slice (some ⟨w.heap.size, 0, none⟩) n n)) 53)
  refine ⟨w.heap.size + 1, _, rfl, ⟨w.heap.size, fun _ => .slice none 0 0, fun _ => ⟨false, 0, 0⟩, ⟨⟨_, ?_, c1, c2, c3, fun k hk => c4 k (by omega)⟩, ⟨M, ?_, HM1.out, fun i hi => HM.out i hi⟩, fun k hk => own_nil _ _, by omega, fun k _ => ⟨by simp [Value.ownBlock], by simp [Value.ownBlock]⟩, fun j k g _ _ _ h => by simp [Value.ownBlock] at h⟩, ⟨by simp, by simp, by simp, by simp, fun _ _ => rfl, hn⟩, rfl⟩, hb1, ?_⟩
  · have := heap_alloc_new (w.alloc (.cells M 60)) (.cells ((whCells 257).setIfInBounds 1 (.slice (some ⟨w.heap.size, 0, none⟩) n n)) 53)
    rw [show (w.alloc (.cells M 60)).heap.size = w.heap.size + 1 by simp] at this
    exact this
  · rw [(below_alloc (Below.refl (w.alloc (.cells M 60)).heap.size (w.alloc (.cells M 60))) _).block w.heap.size (by simp)]
    exact heap_alloc_new w _
  · rintro g (rfl | rfl | ⟨k, _, h⟩)
    · omega
    · omega
    · simp [Value.ownBlock] at h
end Go.Proofs.YtaonnkocopngaaaDoor

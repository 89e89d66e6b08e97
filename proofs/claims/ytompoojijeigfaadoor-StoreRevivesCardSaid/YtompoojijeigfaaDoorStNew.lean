/-
  New: so many bytes ff.
-/
import Derived.Test.YtompoojijeigfaaDoorStRep
import Derived.Test.YtompoojijeigfaaDoorStRw
import Derived.Lib.Hide
namespace Go.Proofs.YtompoojijeigfaaDoor
open Go.RowKit

/-- What New makes of a size. -/
theorem new_to (n : Int) (m : Nat) (hm : (m : Int) = min (max n 0) 65536) (w : World) :
    Calls Tryd.prog 8 #[.int .i64 n] w fun e w' => ∃ s B, e = .returned (.pointer (some ⟨s, 0, none⟩)) ∧ w.heap.size ≤ s ∧ w.heap.size ≤ B ∧ Sto w' s B (List.replicate m 255#8) false false 0 ∧ Below w.heap.size w w' := by
  have hm1 : m ≤ 65536 := by omega
  have h1 : ∃ k : Int, k = max n 0 := ⟨_, rfl⟩
  obtain ⟨k, HK⟩ := h1
  have m1 : ∀ (ts : Array TypeId) (t : TypeId) (w : World), (Builtin.max_ ts t #[.int .i64 n, .int .i64 0]).run Tryd.prog w = .ok (.int .i64 k) w := fun ts t w => by
    rw [run_max_int2, show (if n < (0 : Int) then (0 : Int) else n) = k by split <;> omega]
  have m2 : ∀ (ts : Array TypeId) (t : TypeId) (w : World), (Builtin.min_ ts t #[.int .i64 k, .int .i64 65536]).run Tryd.prog w = .ok (.int .i64 (m : Int)) w := fun ts t w => by
    rw [run_min_int2, show (if (65536 : Int) < k then (65536 : Int) else k) = (m : Int) by split <;> omega]
  have HM := Lib.hid hm
  have HKK := Lib.hid HK
  clear hm HK
  have HB0 := Lib.hid (below_alloc (Below.refl _ w) (.cells #[.int .u8 255] 5))
  have HV := Lib.hid (lit_byts w #[.int .u8 255] 1 (0, 0) [255#8] (by rfl) rfl)
  have HR : Hid (Calls Tryd.prog 16 #[.slice (some ⟨w.heap.size, 0, none⟩) 1 1, .int .i64 (m : Int)] (w.alloc (.cells #[.int .u8 255] 5)) fun e w' => e = .returned (.slice (some ⟨w.heap.size + 1, 0, none⟩) m m) ∧ Room w' (w.heap.size + 1) (List.replicate m 255#8) ∧ Below (w.heap.size + 1) (w.alloc (.cells #[.int .u8 255] 5)) w') := by
    refine Lib.hid ?_
    rcases Nat.eq_zero_or_pos m with h0 | h0
    · subst h0
      have := repeat_none (.slice (some ⟨w.heap.size, 0, none⟩) 1 1) (w.alloc (.cells #[.int .u8 255] 5))
      simpa using this
    · have := repeat_some _ 255#8 m hm1 h0 _ HV.out
      simpa using this
  go_enter Tryd.func8, Tryd.ntmps8
  go_wp2_with fail
  (with_reducible refine HR.out.mono ?_)
  rintro e w1 ⟨rfl, hr, hb⟩
  have HR1 := Lib.hid hr
  have HB1 := Lib.hid (HB0.out.trans (hb.mono (Nat.le_succ _)))
  clear hr hb HR HV m1 m2
  go_wp2_with fail
  go_ret
  refine ⟨_, _, rfl, HB1.out.size, Nat.le_succ _, ⟨?_, ?_, ?_, by simpa using hm1, by omega⟩, below_alloc HB1.out _⟩
  · have := blk_new w1 #[.slice (some ⟨w.heap.size + 1, 0, none⟩) m m, .bool false, .bool false, .int .i64 0] 41
    simpa using this
  · exact HR1.out.keep (Keep.alloc (Keep.refl (fun _ => False) w1) _) id
  · have := HR1.out.lt
    omega
theorem mine_new (n : Int) (m : Nat) (hm : (m : Int) = min (max n 0) 65536) {w0 w : World} (hb : Below w0.heap.size w0 w) :
    Calls Tryd.prog 8 #[.int .i64 n] w fun e w' => ∃ s B, e = .returned (.pointer (some ⟨s, 0, none⟩)) ∧ Mine w0 w' s B (List.replicate m 255#8) false false 0 ∧ Below w.heap.size w w' :=
  (new_to n m hm w).mono fun _ _ ⟨s, B, he, h1, h2, hs, h⟩ => ⟨s, B, he, ⟨hs, hb.trans (h.mono hb.size), Nat.le_trans hb.size h1, Nat.le_trans hb.size h2⟩, h⟩
end Go.Proofs.YtompoojijeigfaaDoor

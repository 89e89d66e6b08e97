/-
  sensor's Barrier by a contract.
-/
import Derived.Test.YtolfdfbhignniaaDoorSnAll

namespace Go.Proofs.YtolfdfbhignniaaDoor
open Go.RowKit

set_option maxHeartbeats 4000000 in
theorem barrier_to (ok : Bool) (xs : List (BitVec 8)) (v : Value) (k : Int) (hk : sone ok xs = k) (a b c d : Bool) (h : barIs k a b c d) (w : World) (hb : Byts w v xs) :
    Calls Tryd.prog 28 #[v, .bool ok] w fun e w' => e = .returned (.agg #[.bool a, .bool b, .bool c, .bool d]) ∧ Below w.heap.size w w' := by
  obtain ⟨n, hn⟩ : ∃ n, onl k 16 = n := ⟨_, rfl⟩
  obtain ⟨q, hq⟩ : ∃ q, decide (0 ≤ k ∧ k < 16) = q := ⟨_, rfl⟩
  have HB := Lib.hid (below_alloc (Below.refl _ w) (.cells #[.bool false, .bool false, .bool false, .bool false] 33))
  have HO := Lib.hid (only_to ok xs v k 16 n q hk hn hq _ (hb.below HB.out))
  unfold barIs at h
  rw [hn] at h
  obtain ⟨x, hx⟩ : ∃ x, bt n 1 = x := ⟨_, rfl⟩
  obtain ⟨y, hy⟩ : ∃ y, bt n 2 = y := ⟨_, rfl⟩
  obtain ⟨z, hz⟩ : ∃ z, bt n 4 = z := ⟨_, rfl⟩
  obtain ⟨u, hu⟩ : ∃ u, bt n 8 = u := ⟨_, rfl⟩
  rw [hx, hy, hz, hu] at h
  obtain ⟨rfl, rfl, rfl, rfl⟩ := h
  have H0 := Lib.hid (bit_to n 0 1 x (by omega) hx)
  have H1 := Lib.hid (bit_to n 1 2 y (by omega) hy)
  have H2 := Lib.hid (bit_to n 2 4 z (by omega) hz)
  have H3 := Lib.hid (bit_to n 3 8 u (by omega) hu)
  clear hk hn hq hb hx hy hz hu
  cases x <;> cases y <;> cases z <;> cases u
  all_goals
    go_enter Tryd.func28, Tryd.ntmps28
    go_wp2_with fail
    (with_reducible refine HO.out.mono ?_)
    rintro e w1 ⟨rfl, rfl⟩
    go_wp2_with fail
    (with_reducible refine (H0.out _).mono ?_)
    rintro e w2 ⟨rfl, rfl⟩
    go_wp2_with fail
    (with_reducible refine (H1.out _).mono ?_)
    rintro e w3 ⟨rfl, rfl⟩
    go_wp2_with fail
    (with_reducible refine (H2.out _).mono ?_)
    rintro e w4 ⟨rfl, rfl⟩
    go_wp2_with fail
    (with_reducible refine (H3.out _).mono ?_)
    rintro e w5 ⟨rfl, rfl⟩
    go_wp2_with fail
    (try simp only [Exit.inBlock, Exit.then])
    refine bodyPost_ret ?_ rfl ⟨rfl, below_alloc (below_alloc (Below.refl _ w) _) _⟩
    rw [results_cell1 rfl]
    go_simp
end Go.Proofs.YtolfdfbhignniaaDoor

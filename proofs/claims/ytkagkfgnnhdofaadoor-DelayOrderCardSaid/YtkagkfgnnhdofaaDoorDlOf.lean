/-
  delay's spare and Of by contract.
-/
import Derived.Test.YtkagkfgnnhdofaaDoorDlNum
import Derived.Test.YtkagkfgnnhdofaaDoorDlOfs
namespace Go.Proofs.YtkagkfgnnhdofaaDoor
open Go.RowKit

theorem spare_any (far speed warn : Int) (hf : Rng far) (hw : Rng warn) (w : World) : Calls Tryd.prog 30 #[.int .i64 far, .int .i64 speed, .int .i64 warn] w fun e w' => e = .returned (.int .i64 (spr far speed warn)) ∧ Below w.heap.size w w' := by
  obtain ⟨w0, w1⟩ := hw
  by_cases h : 0 ≤ far ∧ 1 ≤ speed
  · have HC := Lib.hid (fun w => dlway_yes far speed hf h w)
    have hq := quo_le h
    obtain ⟨q, hq0⟩ : ∃ q, q = far / speed := ⟨_, rfl⟩
    rw [spr_yes h]
    rw [← hq0] at hq HC ⊢
    obtain ⟨q0, q1⟩ := hq
    have q2 : q ≤ 9223372036854775807 := by omega
    clear h hf q1 hq0
    go_enter Tryd.func30, Tryd.ntmps30
    go_wp2_with fail
    (with_reducible refine (HC.out _).mono ?_)
    rintro e w1 ⟨rfl, rfl⟩
    go_wp2_with fail
    all_goals
      go_ret
      refine ⟨congrArg (fun n => Ending.returned (Value.int .i64 n)) ?_, Below.refl _ _⟩
      omega
  · have HC := Lib.hid (fun w => dlway_no far speed h w)
    rw [spr_no h]
    clear h hf
    go_enter Tryd.func30, Tryd.ntmps30
    go_wp2_with fail
    (with_reducible refine (HC.out _).mono ?_)
    rintro e w1 ⟨r, rfl, he, hb⟩
    obtain ⟨g, rfl, hg⟩ := he.not (by decide)
    go_wp2_with fail
    go_ret
    exact ⟨rfl, hb⟩
set_option maxHeartbeats 1000000 in
theorem of_any (l : Ln) (warn : Int) (hk : Rng l.k) (hw : Rng warn) (w : World) : Calls Tryd.prog 21 #[.agg #[.int .i64 l.k, .int .i64 l.g, .int .i64 l.a, .int .i64 l.b, .int .i64 l.c], .int .i64 warn] w fun e w' => e = .returned (.agg (tr3 (ofs l warn))) ∧ Below w.heap.size w w' := by
  have HC := Lib.hid (fun s w => spare_any l.k s warn hk hw w)
  have HF := Lib.hid (show ∀ j, ofs l warn j = spr l.k (spd l j) warn from fun _ => rfl)
  obtain ⟨f, hf⟩ : ∃ f, f = ofs l warn := ⟨_, rfl⟩
  rw [← hf] at HF ⊢
  clear hf hk hw
  obtain ⟨k, g, a, b, c⟩ := l
  dsimp only at HC HF ⊢
  obtain ⟨w0, hw0⟩ : ∃ w0, w0 = w.alloc (.cells #[.int .i64 k, .int .i64 g, .int .i64 a, .int .i64 b, .int .i64 c] 34) := ⟨_, rfl⟩
  have e0 : w0.heap.size = w.heap.size + 1 := by rw [hw0]; simp
  obtain ⟨w1, hw1⟩ : ∃ w1, w1 = w0.alloc (.cells #[.int .i64 0, .int .i64 0, .int .i64 0] 32) := ⟨_, rfl⟩
  have e1 : w1.heap.size = w.heap.size + 2 := by rw [hw1]; simp; omega
  have HB0 := Lib.hid (show Below w.heap.size w w0 by rw [hw0]; exact below_alloc (Below.refl _ w) _)
  have HB1 := Lib.hid (show Below w.heap.size w w1 by rw [hw1]; exact below_alloc HB0.out _)
  have HB2 := Lib.hid (show Below w.heap.size w (w1.alloc (.cells (tri f 0) 32)) from below_alloc HB1.out _)
  have HL0 := Lib.hid (show Blk w0 w.heap.size #[.int .i64 k, .int .i64 g, .int .i64 a, .int .i64 b, .int .i64 c] 34 by rw [hw0]; exact blk_new w _ _)
  have HK1 := Lib.hid (show Below w0.heap.size w0 w1 by rw [hw1]; exact below_alloc (Below.refl _ w0) _)
  have HK2 := Lib.hid (show Below w1.heap.size w1 (w1.alloc (.cells (tri f 0) 32)) from below_alloc (Below.refl _ w1) _)
  have HL2 := Lib.hid ((HL0.out.below HK1.out).below HK2.out)
  have HR2 := Lib.hid (show Blk (w1.alloc (.cells (tri f 0) 32)) (w.heap.size + 1) #[.int .i64 0, .int .i64 0, .int .i64 0] 32 from Blk.below (by rw [← e0, hw1]; exact blk_new w0 _ _) HK2.out)
  have HD2 := Lib.hid (show Blk (w1.alloc (.cells (tri f 0) 32)) (w.heap.size + 2) (tri f 0) 32 by rw [← e1]; exact blk_new w1 _ _)
  rw [hw1, hw0, tri_none] at HB2 HL2 HR2 HD2
  have HD3 := Lib.hid (show Blk (((w.alloc (.cells #[.int .i64 k, .int .i64 g, .int .i64 a, .int .i64 b, .int .i64 c] 34)).alloc (.cells #[.int .i64 0, .int .i64 0, .int .i64 0] 32)).alloc (.cells #[.int .i64 0, .int .i64 0, .int .i64 0] 32)) (w.heap.size + 2) (tri f 0) 32 by rw [tri_none]; exact HD2.out)
  clear HB0 HB1 HL0 HK1 HK2 HD2 e0 e1 hw1 hw0
  go_enter Tryd.func21, Tryd.ntmps21
  go_wp2_with fail
  go_loopw [10] (fun i wr => ∃ j : Nat, j ≤ 3 ∧ i = .int .i64 (j : Int) ∧ Hid (Below w.heap.size w wr) ∧ Hid (Blk wr w.heap.size #[.int .i64 k, .int .i64 g, .int .i64 a, .int .i64 b, .int .i64 c] 34) ∧ Hid (Blk wr (w.heap.size + 1) #[.int .i64 0, .int .i64 0, .int .i64 0] 32) ∧ Hid (Blk wr (w.heap.size + 2) (tri f j) 32)) (fun i _ => 3 - (intOf i).toNat)
  case atStart => exact ⟨0, by omega, rfl, HB2, HL2, HR2, HD3⟩
  case round =>
    obtain ⟨j, hj, rfl, HB, HL, HR, HD⟩ := hrel
    clear HB2 HL2 HR2 HD3
    by_cases hlt : j < 3
    · have hix := spd_index ⟨k, g, a, b, c⟩ j hlt
      obtain ⟨s, hs⟩ : ∃ s, s = spd ⟨k, g, a, b, c⟩ j := ⟨_, rfl⟩
      rw [← hs] at hix
      dsimp only at hix
      have HS := Lib.hid hs
      have hc0 := HL.out.cell 0 (u := .int .i64 k) rfl
      clear hs
      go_wp2_with fail
      (with_reducible refine (HC.out s _).mono ?_)
      rintro e w4 ⟨rfl, hb⟩
      have HB4 := Lib.hid (below_call HB.out hb)
      have HL4 := Lib.hid (HL.out.below hb)
      have HR4 := Lib.hid (HR.out.below hb)
      have HD4 := Lib.hid (HD.out.below hb)
      have hc := HD4.out.cell j (tri_at f j j hlt)
      have hz := HD4.out.frz j
      clear hb HB HL HR HD hc0
      go_wp2_with fail
      go_roundw
      case rel =>
        refine ⟨j + 1, by omega, by go_num, Lib.hid ?_, Lib.hid ?_, Lib.hid ?_, Lib.hid ?_⟩
        · exact bel_set HB4.out (by omega) _ _
        · exact HL4.out.far _ _ _ (by omega)
        · exact HR4.out.far _ _ _ (by omega)
        · rw [← tri_set f j hlt (spr k s warn) (by rw [HF.out, HS.out])]
          exact HD4.out.set_ _ _
      case measure => simp [intOf]; omega
    · obtain rfl : j = 3 := by omega
      rw [tri_all] at HD
      obtain ⟨c0, c1, c2⟩ := Blk.three HD.out
      obtain ⟨d0, d1, d2⟩ := Blk.three HR.out
      have f0 := HR.out.frz 0
      have f1 := HR.out.frz 1
      have f2 := HR.out.frz 2
      go_wp2_with fail
      (try simp only [Exit.inBlock, Exit.then])
      refine bodyPost_ret (v := .agg (tr3 f)) ?_ rfl ⟨rfl, bel_set (bel_set (bel_set HB.out (by omega) _ _) (by omega) _ _) (by omega) _ _⟩
      rw [results_cell1 rfl]
      go_simp
      rfl
end Go.Proofs.YtkagkfgnnhdofaaDoor

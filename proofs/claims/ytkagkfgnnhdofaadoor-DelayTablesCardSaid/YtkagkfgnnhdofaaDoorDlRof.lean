/-
  The document's Of by contract.
-/
import Derived.Test.YtkagkfgnnhdofaaDoorDlRnum
import Derived.Test.YtkagkfgnnhdofaaDoorDlOfs
import Derived.Deep.QuietTactic
import Derived.BigQuiet
namespace Go.Proofs.YtkagkfgnnhdofaaDoor
open Go.RowKit

theorem quiet_same {P : Program} {f : FuncId} {args : Array Value} {w : World} {n : Nat} {v : Value}
    (h : Calls P f args (w.drewN n) fun e w' => e = .returned v ∧ w.drewN n = w') : Calls P f args (w.drewN n) fun e w'' => e = .returned v ∧ ∃ m, w'' = w.drewN m :=
  h.mono fun _ _ ⟨he, hm⟩ => ⟨he, n, hm.symm⟩
set_option maxHeartbeats 1000000 in
theorem rof_any (l : Ln) (warn : Int) (hk : Rng l.k) (hw : Rng warn) (w : World) : Calls Tryd.prog 22 #[.agg #[.int .i64 l.k, .int .i64 l.g, .int .i64 l.a, .int .i64 l.b, .int .i64 l.c], .int .i64 warn] w fun e w' => e = .returned (.agg (tr3 (ofs l warn))) ∧ Below w.heap.size w w' := by
  have HY := Lib.hid (fun s h w => dlrway_yes l.k s hk h w)
  have HN := Lib.hid (fun s h w => dlrway_no l.k s hk h w)
  obtain ⟨n0, n1⟩ := hw
  have HF := Lib.hid (show ∀ j, ofs l warn j = spr l.k (spd l j) warn from fun _ => rfl)
  obtain ⟨f, hf⟩ : ∃ f, f = ofs l warn := ⟨_, rfl⟩
  rw [← hf] at HF ⊢
  clear hf
  obtain ⟨k0, k1⟩ := hk
  obtain ⟨k, g, a, b, c⟩ := l
  dsimp only at HY HN HF ⊢
  obtain ⟨w0, hw0⟩ : ∃ w0, w0 = w.alloc (.cells #[.int .i64 k, .int .i64 g, .int .i64 a, .int .i64 b, .int .i64 c] 34) := ⟨_, rfl⟩
  have e0 : w0.heap.size = w.heap.size + 1 := by rw [hw0]; simp
  obtain ⟨w1, hw1⟩ : ∃ w1, w1 = w0.alloc (.cells #[.int .i64 0, .int .i64 0, .int .i64 0] 32) := ⟨_, rfl⟩
  have e1 : w1.heap.size = w.heap.size + 2 := by rw [hw1]; simp; omega
  have HB0 := Lib.hid (show Below w.heap.size w w0 by rw [hw0]; exact below_alloc (Below.refl _ w) _)
  have HB1 := Lib.hid (show Below w.heap.size w w1 by rw [hw1]; exact below_alloc HB0.out _)
  have HB2 := Lib.hid (show Below w.heap.size w (w1.alloc (.cells (tri f 0) 32)) from below_alloc HB1.out _)
  have HL0 := Lib.hid (show Blk w0 w.heap.size #[.int .i64 k, .int .i64 g, .int .i64 a, .int .i64 b, .int .i64 c] 34 by rw [hw0]; exact blk_new w _ _)
  have HK1 := Lib.hid (show Below w0.heap.size w0 w1 by rw [hw1]; exact below_alloc (Below.refl _ w0) _)
  have HK2 := Lib.hid (show Below w1.heap.size w1 (w1.alloc (.cells (tri f 0) 32)) from below_alloc (Below.refl _ w1) _)
  have HL2 := Lib.hid ((HL0.out.below HK1.out).below HK2.out)
  have HR2 := Lib.hid (show Blk (w1.alloc (.cells (tri f 0) 32)) (w.heap.size + 1) #[.int .i64 0, .int .i64 0, .int .i64 0] 32 from Blk.below (by rw [← e0, hw1]; exact blk_new w0 _ _) HK2.out)
  have HD2 := Lib.hid (show Blk (w1.alloc (.cells (tri f 0) 32)) (w.heap.size + 2) (tri f 0) 32 by rw [← e1]; exact blk_new w1 _ _)
  rw [hw1, hw0, tri_none] at HB2 HL2 HR2 HD2
  have HD3 := Lib.hid (show Blk (((w.alloc (.cells #[.int .i64 k, .int .i64 g, .int .i64 a, .int .i64 b, .int .i64 c] 34)).alloc (.cells #[.int .i64 0, .int .i64 0, .int .i64 0] 32)).alloc (.cells #[.int .i64 0, .int .i64 0, .int .i64 0] 32)) (w.heap.size + 2) (tri f 0) 32 by rw [tri_none]; exact HD2.out)
  clear HB0 HB1 HL0 HK1 HK2 HD2 e0 e1 hw1 hw0
  go_enter Tryd.func22, Tryd.ntmps22
  go_wp2_with fail
  go_loopw [6] (fun i wr => ∃ j : Nat, j ≤ 3 ∧ i = .int .i64 (j : Int) ∧ Hid (Below w.heap.size w wr) ∧ Hid (Blk wr w.heap.size #[.int .i64 k, .int .i64 g, .int .i64 a, .int .i64 b, .int .i64 c] 34) ∧ Hid (Blk wr (w.heap.size + 1) #[.int .i64 0, .int .i64 0, .int .i64 0] 32) ∧ Hid (Blk wr (w.heap.size + 2) (tri f j) 32)) (fun i _ => 3 - (intOf i).toNat)
  case atStart => exact ⟨0, by omega, rfl, HB2, HL2, HR2, HD3⟩
  case round =>
    obtain ⟨j, hj, rfl, HB, HL, HR, HD⟩ := hrel
    clear HB2 HL2 HR2 HD3
    by_cases hlt : j < 3
    · obtain ⟨s, hs⟩ : ∃ s, s = spd ⟨k, g, a, b, c⟩ j := ⟨_, rfl⟩
      have HS := Lib.hid hs
      have hc0 := HL.out.cell 0 (u := .int .i64 k) rfl
      have hcs := HL.out.cell (2 + j) (spd_at ⟨k, g, a, b, c⟩ j hlt)
      rw [← hs] at hcs
      clear hs
      by_cases h : 0 ≤ k ∧ 1 ≤ s
      · have HV := Lib.hid (HY.out s h)
        have hq := quo_le h
        have HE := Lib.hid (show f j = max (k / s - max warn 0) 0 by rw [HF.out, ← HS.out, spr_yes h])
        obtain ⟨q, hq0⟩ : ∃ q, q = k / s := ⟨_, rfl⟩
        rw [← hq0] at hq HV HE
        obtain ⟨q0, q1⟩ := hq
        have q2 : q ≤ 9223372036854775807 := by omega
        clear h q1 hq0
        go_wp2_with fail
        go_quiet (first | (go_at_call 15; refine quiet_same (HV.out _)))
        have HB4 := Lib.hid (below_call HB.out (bel_drewN wr nq))
        have HL4 := Lib.hid (HL.out.below (bel_drewN wr nq))
        have HR4 := Lib.hid (HR.out.below (bel_drewN wr nq))
        have HD4 := Lib.hid (HD.out.below (bel_drewN wr nq))
        generalize hq : wr.drewN nq = w4 at HB4 HL4 HR4 HD4 ⊢
        have hc := HD4.out.cell j (tri_at f j j hlt)
        have hz := HD4.out.frz j
        clear HB HL HR HD hc0 hcs hq
        go_wp2_with fail
        all_goals
          go_roundw
          case rel =>
            refine ⟨j + 1, by omega, by go_num, Lib.hid ?_, Lib.hid ?_, Lib.hid ?_, Lib.hid ?_⟩
            · exact bel_set HB4.out (by omega) _ _
            · exact HL4.out.far _ _ _ (by omega)
            · exact HR4.out.far _ _ _ (by omega)
            · rw [← tri_set f j hlt _ ((spr_as q warn).trans HE.out.symm)]
              exact HD4.out.set_ _ _
          case measure => simp [intOf]; omega
      · have HV := Lib.hid (HN.out s h)
        have HE := Lib.hid (show f j = 0 by rw [HF.out, ← HS.out, spr_no h])
        clear h
        go_wp2_with fail
        go_quiet (first | (go_at_call 15; refine quiet_same (HV.out _)))
        have HB4 := Lib.hid (below_call HB.out (bel_drewN wr nq))
        have HL4 := Lib.hid (HL.out.below (bel_drewN wr nq))
        have HR4 := Lib.hid (HR.out.below (bel_drewN wr nq))
        have HD4 := Lib.hid (HD.out.below (bel_drewN wr nq))
        generalize hq : wr.drewN nq = w4 at HB4 HL4 HR4 HD4 ⊢
        clear HB HL HR HD hc0 hcs hq
        go_wp2_with fail
        go_roundw
        case rel =>
          refine ⟨j + 1, by omega, by go_num, HB4, HL4, HR4, Lib.hid ?_⟩
          rw [tri_zero f j hlt HE.out]
          exact HD4.out
        case measure => simp [intOf]; omega
    · obtain rfl : j = 3 := by omega
      rw [tri_all] at HD
      obtain ⟨c0, c1, c2⟩ := Blk.three HD.out
      obtain ⟨d0, d1, d2⟩ := Blk.three HR.out
      have f0 := HR.out.frz 0
      have f1 := HR.out.frz 1
      have f2 := HR.out.frz 2
      go_wp2_with fail
      (try simp only [Exit.inBlock, Exit.then])
      refine bodyPost_ret (v := .agg (tr3 f)) ?_ rfl ⟨rfl, bel_set (bel_set (bel_set HB.out (by omega) _ _) (by omega) _ _) (by omega) _ _⟩
      rw [results_cell1 rfl]
      go_simp
      rfl
end Go.Proofs.YtkagkfgnnhdofaaDoor

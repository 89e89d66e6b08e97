/-
  The walk of crossbucklaw23.PolicyRestarts: true, whatever it is given.
-/
import Derived.Test.YtgkihalokedmaaaSmall
namespace Go.Proofs.Ytgkihalokedmaaa
open Go.RowKit

set_option maxHeartbeats 4000000 in
set_option maxRecDepth 10000 in
theorem restarts_some (rp rw rj : Int) (had : Bool) (n ph : Int) (w : World) (hp : poph ⟨rp, rw, rj⟩ had = ph) (hc : (ph = rp ∧ 1 ≤ ph ∧ ph ≤ 6) ∨ (ph = 6 ∧ rp = 0) ∨ (ph = 3 ∧ (3 == rp) = false)) : Calls Try.prog 5 #[.agg #[.int .i64 rp, .int .i64 rw, .int .i64 rj], .bool had, .int .i64 n] w fun e w' => e = .returned (.bool true) ∧ Below w.heap.size w w' := by
  have HB0 := Lib.hid (below_alloc (Below.refl _ w) (.cells #[.int .i64 rp, .int .i64 rw, .int .i64 rj] 31))
  have HX0 := Lib.hid (blk_new w #[.int .i64 rp, .int .i64 rw, .int .i64 rj] 31)
  have HT0 := Lib.hid (restart_to ⟨rp, rw, rj⟩ had n ph hp)
  have HF := Lib.hid (fun (k : Nat) (hk : k < pon n) => potks_at ⟨rp, rw, rj⟩ had n k hk)
  have HK := Lib.hid (pon_le n)
  obtain ⟨a, ha⟩ : ∃ a, max n 0 = a := ⟨_, rfl⟩
  have m1 : ∀ (ts : Array TypeId) (t : TypeId) (w : World), (Builtin.max_ ts t #[.int .i64 n, .int .i64 0]).run Try.prog w = .ok (.int .i64 a) w := fun ts t w => by
    rw [run_max_int2, show (if (0 : Int) > n then (0 : Int) else n) = a by split <;> omega]
  have m2 : ∀ (ts : Array TypeId) (t : TypeId) (w : World), (Builtin.min_ ts t #[.int .i64 a, .int .i64 8]).run Try.prog w = .ok (.int .i64 (pon n : Int)) w := fun ts t w => by
    rw [run_min_int2, show (if (8 : Int) < a then (8 : Int) else a) = (pon n : Int) by unfold pon; split <;> omega]
  obtain ⟨ls, hls⟩ : ∃ ls, potks ⟨rp, rw, rj⟩ had n = ls := ⟨_, rfl⟩
  rw [hls] at HT0 HF
  have HP := Lib.hid (show ∀ i, ∃ q1 q2, porow ⟨rp, rw, rj⟩ had i = potk q1 q2 from fun i => by unfold porow; split <;> exact ⟨_, _, rfl⟩)
  obtain ⟨K, hK⟩ : ∃ K, pon n = K := ⟨_, rfl⟩
  rw [hK] at HT0 HF HK m2
  clear ha hls hK hp
  have HC := Lib.hid hc
  clear hc
  go_enter Try.func5, Try.ntmps5
  go_wp2_with fail
  (with_reducible refine (small_true _).mono ?_)
  rintro e w1 ⟨rfl, hb⟩
  have HB1 := Lib.hid (below_call HB0.out hb)
  have HX1 := Lib.hid (HX0.out.below hb)
  clear hb HB0 HX0
  obtain ⟨x0, x1, x2⟩ := HX1.out.three
  go_wp2_with fail
  (with_reducible refine (HT0.out _).mono ?_)
  rintro e w2 ⟨g, rfl, ht, hg, hb⟩
  have HB := Lib.hid (below_alloc (below_call HB1.out hb) (.cells #[.int .i64 ph, .int .i64 1] 29))
  have HX := Lib.hid ((HX1.out.below hb).below (below_alloc (Below.refl _ w2) (.cells #[.int .i64 ph, .int .i64 1] 29)))
  have HT := Lib.hid (ht.below (below_alloc (Below.refl _ w2) (.cells #[.int .i64 ph, .int .i64 1] 29)))
  have HR := Lib.hid (blk_new w2 #[.int .i64 ph, .int .i64 1] 29)
  clear ht hg hb HB1 HX1 HT0 x0 x1 x2
  go_wp2_with fail
  generalize w2.alloc (.cells #[.int .i64 ph, .int .i64 1] 29) = w3 at *
  generalize w2.heap.size = gr at *
  go_loopw [10] (fun x wr => ∃ k : Nat, k ≤ K ∧ x = .int .i64 (k : Int) ∧ wr = w3) (fun x _ => K - (intOf x).toNat)
  case atStart => exact ⟨0, by omega, rfl, rfl⟩
  case round =>
    obtain ⟨k, hk, rfl, rfl⟩ := hrel
    by_cases hlt : k < K
    · have hltI : (k : Int) < (K : Int) := by omega
      have hkw : wrap64 ((k : Int) + 1) = (k : Int) + 1 := IntWalk.wrap64_in _ (by have := HK.out; omega)
      have hy := HF.out k hlt
      obtain ⟨q1, q2, hq⟩ := HP.out k
      rw [hq] at hy
      have c0 := HT.out.cell hy 0 (by decide)
      have c7 := HT.out.cell hy 7 (by decide)
      have c8 := HT.out.cell hy 8 (by decide)
      have c10 := HT.out.cell hy 10 (by decide)
      rw [Nat.add_zero] at c0
      change _ = some (Value.bool false) at c0
      change _ = some (Value.bool false) at c7
      change _ = some (Value.int .i64 0) at c8
      change _ = some (Value.bool false) at c10
      clear hy hq
      go_wp2_with fail
      go_roundw
      case rel => exact ⟨k + 1, by omega, by go_num, trivial⟩
      case measure => rw [hkw]; clear hkw; simp [intOf]; omega
    · have hltI : ¬ (k : Int) < (K : Int) := by omega
      obtain ⟨x0, x1, x2⟩ := HX.out.three
      obtain ⟨y0, y1⟩ := box2 HR.out
      have e0 : ((K : Int) == (K : Int)) = true := by simp
      rcases HC.out with ⟨rfl, h1, h2⟩ | ⟨rfl, rfl⟩ | ⟨rfl, h1⟩
      · have e1 : (ph == ph) = true := by simp
        have e2 : (ph != 0) = true := by simp; omega
        go_wp2_with fail
        go_ret
        exact ⟨rfl, HB.out⟩
      · go_wp2_with fail
        go_ret
        exact ⟨rfl, HB.out⟩
      · go_wp2_with fail
        go_ret
        exact ⟨rfl, HB.out⟩
theorem restarts_any (rp rw rj : Int) (had : Bool) (n : Int) (w : World) : Calls Try.prog 5 #[.agg #[.int .i64 rp, .int .i64 rw, .int .i64 rj], .bool had, .int .i64 n] w fun e w' => e = .returned (.bool true) ∧ Below w.heap.size w w' := by
  obtain ⟨ph, hp⟩ : ∃ ph, poph ⟨rp, rw, rj⟩ had = ph := ⟨_, rfl⟩
  refine restarts_some rp rw rj had n ph w hp ?_
  obtain ⟨h1, h2, h3⟩ := poph_range ⟨rp, rw, rj⟩ had
  rw [hp] at h1 h2 h3
  dsimp only at h3
  by_cases h : ph = rp
  · exact .inl ⟨h, h1, h2⟩
  · rcases h3 with h3 | ⟨h3, h4⟩ | h3
    · exact absurd h3 h
    · exact .inr (.inl ⟨h3, h4⟩)
    · exact .inr (.inr ⟨h3, by simp; omega⟩)
end Go.Proofs.Ytgkihalokedmaaa

/-
  The document's Enter and Signals by contracts.
-/
import Derived.Test.YtgkihalokedmaaaPoBits
import Derived.Test.YtgkihalokedmaaaDmRgood
import Derived.BigQuiet
namespace Go.Proofs.Ytgkihalokedmaaa
open Go.RowKit

theorem renter_to (p q : Int) (hq : q = if 0 ≤ p ∧ p ≤ 7 then p else 7) (w : World) : Calls Try.prog 19 #[.int .i64 p] w fun e w' => e = .returned (.agg #[.int .i64 q, .int .i64 1]) ∧ Below w.heap.size w w' := by
  have HB := Lib.hid (fun u : Value => below_alloc (Below.refl _ w) (.cells #[u, .int .i64 1] 29))
  have HZ := blk_new w #[.int .i64 0, .int .i64 0] 29
  obtain ⟨z0, z1⟩ := box2 HZ
  have z2 := HZ.frz 0
  have z3 := HZ.frz 1
  clear HZ
  rcases (show (p < 0 ∧ q = 7) ∨ (¬ p < 0 ∧ 7 < p ∧ q = 7) ∨ (¬ p < 0 ∧ ¬ 7 < p ∧ q = p) by split at hq <;> omega) with ⟨h1, rfl⟩ | ⟨h1, h2, rfl⟩ | ⟨h1, h2, rfl⟩
  all_goals
    clear hq
    go_enter Try.func19, Try.ntmps19
    go_wp2_with fail
    (try simp only [Exit.inBlock, Exit.then])
    refine bodyPost_ret ?_ rfl ⟨rfl, HB.out _⟩
    rw [results_cell1 rfl]
    go_simp
set_option maxHeartbeats 4000000 in
theorem rposig_to (a b c d s l o : Bool) (m : Int) (mn ba : Bool) (r : Int) (tv v : Value) (ls : List Tk) (p sn : Int) (pv : Bool) (w : World) (hv : Els RTk 11 w v ls) (hm : ls.length ≤ maxLen) (hr : r ≤ 9223372036854775807) (q : Int) (hq : posig p pv m (dgood m mn l ls) r ls.length = q) : Calls Try.prog 12 #[.agg #[.bool a, .bool b, .bool c, .bool d, .bool s, .bool l, .bool o, .int .i64 m, .bool mn, .bool ba, .int .i64 r, tv], v, .agg #[.int .i64 p, .int .i64 sn], .bool pv] w fun e w' => e = .returned (.int .i64 q) ∧ Below w.heap.size w w' := by
  have HX := Lib.hid ((box12 a b c d s l o m mn ba r tv w).below (below_alloc (Below.refl _ (w.alloc (.cells #[.bool a, .bool b, .bool c, .bool d, .bool s, .bool l, .bool o, .int .i64 m, .bool mn, .bool ba, .int .i64 r, tv] 26))) (.cells #[.int .i64 p, .int .i64 sn] 29)))
  have hR := blk_new (w.alloc (.cells #[.bool a, .bool b, .bool c, .bool d, .bool s, .bool l, .bool o, .int .i64 m, .bool mn, .bool ba, .int .i64 r, tv] 26)) #[.int .i64 p, .int .i64 sn] 29
  simp only [World.size_alloc] at hR
  have HR := Lib.hid hR
  have HB := Lib.hid (below_alloc (below_alloc (Below.refl _ w) (.cells #[.bool a, .bool b, .bool c, .bool d, .bool s, .bool l, .bool o, .int .i64 m, .bool mn, .bool ba, .int .i64 r, tv] 26)) (.cells #[.int .i64 p, .int .i64 sn] 29))
  obtain ⟨x0, x1, x2, x3, x4, x5, x6, x7, x8, x9, x10, x11⟩ := cells12 HX.out
  obtain ⟨g, hg⟩ : ∃ g, dgood m mn l ls = g := ⟨_, rfl⟩
  have HG := Lib.hid (rgood_to a b c d s l o m mn ba r tv v ls ((w.alloc (.cells #[.bool a, .bool b, .bool c, .bool d, .bool s, .bool l, .bool o, .int .i64 m, .bool mn, .bool ba, .int .i64 r, tv] 26)).alloc (.cells #[.int .i64 p, .int .i64 sn] 29)) (hv.below (fun g o y h => h.below HB.out)) hm g hg)
  rw [hg] at hq
  obtain ⟨n, cc, ev⟩ := hv.len
  obtain ⟨K, hK⟩ : ∃ K, K = ls.length := ⟨_, rfl⟩
  rw [← hK] at ev hq
  subst ev
  clear hv hm hg hK hR
  unfold posig at hq
  have hcs : (∃ M : Nat, (p = 5 ∧ pv = true ∧ m = 0 ∧ g = true ∧ ¬ r < 0) ∧ M ≤ 62 ∧ min K 62 = M ∧ r % 2 ^ M = q) ∨ (q = 0 ∧ ((p != 5) = true ∨ (p = 5 ∧ pv = false) ∨ (p = 5 ∧ pv = true ∧ (m != 0) = true) ∨ (p = 5 ∧ pv = true ∧ m = 0 ∧ g = false) ∨ (p = 5 ∧ pv = true ∧ m = 0 ∧ g = true ∧ r < 0))) := by
    by_cases hc : p = 5 ∧ pv = true ∧ m = 0 ∧ g = true ∧ 0 ≤ r
    · rw [if_pos hc] at hq
      exact .inl ⟨_, ⟨hc.1, hc.2.1, hc.2.2.1, hc.2.2.2.1, by omega⟩, by omega, rfl, hq⟩
    · rw [if_neg hc] at hq
      refine .inr ⟨hq.symm, ?_⟩
      by_cases h1 : p = 5
      · cases pv
        · exact .inr (.inl ⟨h1, rfl⟩)
        · by_cases h2 : m = 0
          · cases g
            · exact .inr (.inr (.inr (.inl ⟨h1, rfl, h2, rfl⟩)))
            · by_cases h3 : r < 0
              · exact .inr (.inr (.inr (.inr ⟨h1, rfl, h2, rfl, h3⟩)))
              · exact absurd ⟨h1, rfl, h2, rfl, by omega⟩ hc
          · exact .inr (.inr (.inl ⟨h1, rfl, by simpa using h2⟩))
      · exact .inl (by simpa using h1)
  clear hq
  rcases hcs with ⟨M, ⟨rfl, rfl, rfl, rfl, h0⟩, hM, h1, hq⟩ | ⟨rfl, hp | ⟨rfl, rfl⟩ | ⟨rfl, rfl, h2⟩ | ⟨rfl, rfl, rfl, rfl⟩ | ⟨rfl, rfl, rfl, rfl, h3⟩⟩
  · have m1 : ∀ (ts : Array TypeId) (t : TypeId) (w : World), (Builtin.min_ ts t #[.int .i64 (K : Int), .int .i64 62]).run Try.prog w = .ok (.int .i64 (M : Int)) w := fun ts t w => by
      rw [run_min_int2, show (if (62 : Int) < (K : Int) then (62 : Int) else (K : Int)) = (M : Int) by split <;> omega]
    have m2 := po_shl M hM .u64
    have m3 := po_mask r M (by omega) hr hM
    have m6 : IntKind.u64.wrap (M : Int) = (M : Int) := by rw [IntKind.wrap_u64]; omega
    have m5 : wrap64 ((2 : Int) ^ M - 1) = (2 : Int) ^ M - 1 := by
      have h1 : (2 : Nat) ^ M < 2 ^ 63 := Nat.pow_lt_pow_right (by decide) (by omega)
      have h2 : (2 : Int) ^ M = ((2 ^ M : Nat) : Int) := by rw [Int.natCast_pow]; rfl
      have h3 : 0 < (2 : Nat) ^ M := Nat.pow_pos (by decide)
      rw [h2]
      exact IntWalk.wrap64_in _ (by omega)
    obtain ⟨B, hB⟩ : ∃ B : Int, (2 : Int) ^ M = B := ⟨_, rfl⟩
    rw [hB] at m2 m3 m5 hq
    rw [hq] at m3
    clear hq hB hM hr h1
    go_enter Try.func12, Try.ntmps12
    go_wp2_with fail
    (with_reducible refine (HG.out).mono ?_)
    rintro e w1 ⟨rfl, hb⟩
    replace HB := Lib.hid (below_call HB.out hb)
    obtain ⟨_, _, _, _, _, _, _, z7, _, _, z10, _⟩ := cells12 (HX.out.below hb)
    obtain ⟨y0, y1⟩ := box2 (HR.out.below hb)
    clear x0 x1 x2 x3 x4 x5 x6 x7 x8 x9 x10 x11 hb HX HR
    go_wp2_with fail
    go_ret
    exact ⟨rfl, HB.out⟩
  all_goals
    go_enter Try.func12, Try.ntmps12
    go_wp2_with fail
    (with_reducible refine (HG.out).mono ?_)
    rintro e w1 ⟨rfl, hb⟩
    replace HB := Lib.hid (below_call HB.out hb)
    obtain ⟨_, _, _, _, _, _, _, z7, _, _, z10, _⟩ := cells12 (HX.out.below hb)
    obtain ⟨y0, y1⟩ := box2 (HR.out.below hb)
    clear x0 x1 x2 x3 x4 x5 x6 x7 x8 x9 x10 x11 hb HX HR
    go_wp2_with fail
    go_ret
    exact ⟨rfl, HB.out⟩
end Go.Proofs.Ytgkihalokedmaaa

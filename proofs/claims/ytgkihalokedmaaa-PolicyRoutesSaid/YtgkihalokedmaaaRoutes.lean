/-
  The walk of crossbucklaw23.PolicyRoutes: true, whatever it is given.
-/
import Derived.Test.YtgkihalokedmaaaSmall
namespace Go.Proofs.Ytgkihalokedmaaa
open Go.RowKit

set_option maxHeartbeats 4000000 in
set_option maxRecDepth 10000 in
theorem routes_out (a b c d s l o : Bool) (m : Int) (mn ba : Bool) (r : Int) (tv : Value) (a0 : Option Addr) (K c0 : Nat) (p sn : Int) (pv : Bool) (k : Int) (w : World) (h : 8 < (K : Int) ∨ (¬ 8 < (K : Int) ∧ k < 0) ∨ (¬ 8 < (K : Int) ∧ ¬ k < 0 ∧ (K : Int) ≤ k) ∨ (¬ 8 < (K : Int) ∧ ¬ k < 0 ∧ ¬ (K : Int) ≤ k ∧ r < 0) ∨ (¬ 8 < (K : Int) ∧ ¬ k < 0 ∧ ¬ (K : Int) ≤ k ∧ ¬ r < 0 ∧ 255 < r)) : Calls Try.prog 7 #[.agg #[.bool a, .bool b, .bool c, .bool d, .bool s, .bool l, .bool o, .int .i64 m, .bool mn, .bool ba, .int .i64 r, tv], .slice a0 K c0, .agg #[.int .i64 p, .int .i64 sn], .bool pv, .int .i64 k] w fun e w' => e = .returned (.bool true) ∧ Below w.heap.size w w' := by
  have HB0 := Lib.hid (below_alloc (below_alloc (Below.refl _ w) (.cells #[.bool a, .bool b, .bool c, .bool d, .bool s, .bool l, .bool o, .int .i64 m, .bool mn, .bool ba, .int .i64 r, tv] 26)) (.cells #[.int .i64 p, .int .i64 sn] 29))
  have HX0 := Lib.hid ((box12 a b c d s l o m mn ba r tv w).below (below_alloc (Below.refl _ (w.alloc (.cells #[.bool a, .bool b, .bool c, .bool d, .bool s, .bool l, .bool o, .int .i64 m, .bool mn, .bool ba, .int .i64 r, tv] 26))) (.cells #[.int .i64 p, .int .i64 sn] 29)))
  have hr0 := blk_new (w.alloc (.cells #[.bool a, .bool b, .bool c, .bool d, .bool s, .bool l, .bool o, .int .i64 m, .bool mn, .bool ba, .int .i64 r, tv] 26)) #[.int .i64 p, .int .i64 sn] 29
  simp only [World.size_alloc] at hr0
  have HR0 := Lib.hid hr0
  clear hr0
  rcases h with h1 | ⟨h1, h2⟩ | ⟨h1, h2, h3⟩ | ⟨h1, h2, h3, h4⟩ | ⟨h1, h2, h3, h4, h5⟩
  all_goals
    go_enter Try.func7, Try.ntmps7
    go_wp2_with fail
    (with_reducible refine (small_true _).mono ?_)
    rintro e w1 ⟨rfl, hb⟩
    have HB1 := Lib.hid (below_call HB0.out hb)
    obtain ⟨x0, x1, x2, x3, x4, x5, x6, x7, x8, x9, x10, x11⟩ := cells12 (HX0.out.below hb)
    clear hb
    go_wp2_with fail
    go_ret
    exact ⟨rfl, HB1.out⟩
set_option maxHeartbeats 4000000 in
set_option maxRecDepth 10000 in
theorem routes_main (a b c d s l o : Bool) (m : Int) (mn ba : Bool) (ro : Nat) (ta : Option Addr) (tn tc : Nat) (a0 : Option Addr) (K c0 : Nat) (p sn : Int) (pv : Bool) (ls : List Tk) (k lo mo : Nat) (av bv cv B : Int) (w : World) (hv : Els RTk 11 w (.slice a0 K c0) ls) (hK : K = ls.length) (h1 : ¬ 8 < (K : Int)) (h3 : ¬ (K : Int) ≤ (k : Int)) (h5 : ¬ 255 < (ro : Int)) (hlo : lo ≤ 255) (hmo : mo ≤ 1000) (hB : (2 : Int) ^ k = B) (e1 : bits .andNot .i64 (ro : Int) B = (lo : Int)) (e2 : bits .or .i64 (ro : Int) B = (mo : Int)) (e3 : bits .and .i64 av B = 0)
    (ha : posig p pv m (dgood m mn l ls) (lo : Int) ls.length = av) (hb : posig p pv m (dgood m mn l ls) (mo : Int) ls.length = bv) (hc : posig p pv m (dgood m mn l ls) (ro : Int) ls.length = cv)
    (hw : (av = 0 ∧ bv = 0 ∧ cv = 0) ∨ ((bv == 0) = false ∧ bits .or .i64 av B = bv ∧ cv = av) ∨ ((bv == 0) = false ∧ bits .or .i64 av B = bv ∧ cv = bv ∧ (bv == av) = false)) : Calls Try.prog 7 #[.agg #[.bool a, .bool b, .bool c, .bool d, .bool s, .bool l, .bool o, .int .i64 m, .bool mn, .bool ba, .int .i64 (ro : Int), .slice ta tn tc], .slice a0 K c0, .agg #[.int .i64 p, .int .i64 sn], .bool pv, .int .i64 (k : Int)] w fun e w' => e = .returned (.bool true) ∧ Below w.heap.size w w' := by
  have HB0 := Lib.hid (below_alloc (below_alloc (Below.refl _ w) (.cells #[.bool a, .bool b, .bool c, .bool d, .bool s, .bool l, .bool o, .int .i64 m, .bool mn, .bool ba, .int .i64 (ro : Int), .slice ta tn tc] 26)) (.cells #[.int .i64 p, .int .i64 sn] 29))
  have HX0 := Lib.hid ((box12 a b c d s l o m mn ba (ro : Int) (.slice ta tn tc) w).below (below_alloc (Below.refl _ (w.alloc (.cells #[.bool a, .bool b, .bool c, .bool d, .bool s, .bool l, .bool o, .int .i64 m, .bool mn, .bool ba, .int .i64 (ro : Int), .slice ta tn tc] 26))) (.cells #[.int .i64 p, .int .i64 sn] 29)))
  have hr0 := blk_new (w.alloc (.cells #[.bool a, .bool b, .bool c, .bool d, .bool s, .bool l, .bool o, .int .i64 m, .bool mn, .bool ba, .int .i64 (ro : Int), .slice ta tn tc] 26)) #[.int .i64 p, .int .i64 sn] 29
  simp only [World.size_alloc] at hr0
  have HR0 := Lib.hid hr0
  clear hr0
  have HV := Lib.hid hv
  have HM := Lib.hid (show ls.length ≤ maxLen by unfold maxLen; omega)
  have HA := Lib.hid (fun (W : World) (hW : Below w.heap.size w W) => posig_to a b c d s l o m mn ba (lo : Int) (.slice ta tn tc) _ ls p sn pv W (HV.out.below (fun _ _ _ h => h.below hW)) HM.out (by omega) av ha)
  have HBv := Lib.hid (fun (W : World) (hW : Below w.heap.size w W) => posig_to a b c d s l o m mn ba (mo : Int) (.slice ta tn tc) _ ls p sn pv W (HV.out.below (fun _ _ _ h => h.below hW)) HM.out (by omega) bv hb)
  have HCv := Lib.hid (fun (W : World) (hW : Below w.heap.size w W) => posig_to a b c d s l o m mn ba (ro : Int) (.slice ta tn tc) _ ls p sn pv W (HV.out.below (fun _ _ _ h => h.below hW)) HM.out (by omega) cv hc)
  have hcv : IntKind.u64.wrap (k : Int) = (k : Int) := by rw [IntKind.wrap_u64]; omega
  have m2 := po_shl k (by omega) .u64
  have m4 : wrap64 B = B := by
    have hp : (2 : Nat) ^ k < 2 ^ 63 := Nat.pow_lt_pow_right (by decide) (by omega)
    rw [← hB, show (2 : Int) ^ k = ((2 ^ k : Nat) : Int) by rw [Int.natCast_pow]; rfl]
    generalize (2 : Nat) ^ k = z at *
    exact IntWalk.wrap64_in _ (by omega)
  rw [hB] at m2
  have HW := Lib.hid hw
  have h2 : ¬ (k : Int) < 0 := by omega
  have h4 : ¬ (ro : Int) < 0 := by omega
  clear hv hK hlo hmo ha hb hc hw
  go_enter Try.func7, Try.ntmps7
  go_wp2_with fail
  (with_reducible refine (small_true _).mono ?_)
  rintro e w1 ⟨rfl, hb⟩
  have HB1 := Lib.hid (below_call HB0.out hb)
  have HX1 := Lib.hid (HX0.out.below hb)
  have HR1 := Lib.hid (HR0.out.below hb)
  clear hb HB0 HX0 HR0
  obtain ⟨x0, x1, x2, x3, x4, x5, x6, x7, x8, x9, x10, x11⟩ := cells12 HX1.out
  have u0 : ∀ C : Array Value, (w1.alloc (.cells C 26)).cell? ⟨w.heap.size, 0, none⟩ = some (.bool a) := fun C => below_cell (below_alloc (Below.refl _ w1) _) x0
  have u1 : ∀ C : Array Value, (w1.alloc (.cells C 26)).cell? ⟨w.heap.size, 1, none⟩ = some (.bool b) := fun C => below_cell (below_alloc (Below.refl _ w1) _) x1
  have u2 : ∀ C : Array Value, (w1.alloc (.cells C 26)).cell? ⟨w.heap.size, 2, none⟩ = some (.bool c) := fun C => below_cell (below_alloc (Below.refl _ w1) _) x2
  have u3 : ∀ C : Array Value, (w1.alloc (.cells C 26)).cell? ⟨w.heap.size, 3, none⟩ = some (.bool d) := fun C => below_cell (below_alloc (Below.refl _ w1) _) x3
  have u4 : ∀ C : Array Value, (w1.alloc (.cells C 26)).cell? ⟨w.heap.size, 4, none⟩ = some (.bool s) := fun C => below_cell (below_alloc (Below.refl _ w1) _) x4
  have u5 : ∀ C : Array Value, (w1.alloc (.cells C 26)).cell? ⟨w.heap.size, 5, none⟩ = some (.bool l) := fun C => below_cell (below_alloc (Below.refl _ w1) _) x5
  have u6 : ∀ C : Array Value, (w1.alloc (.cells C 26)).cell? ⟨w.heap.size, 6, none⟩ = some (.bool o) := fun C => below_cell (below_alloc (Below.refl _ w1) _) x6
  have u7 : ∀ C : Array Value, (w1.alloc (.cells C 26)).cell? ⟨w.heap.size, 7, none⟩ = some (.int .i64 m) := fun C => below_cell (below_alloc (Below.refl _ w1) _) x7
  have u8 : ∀ C : Array Value, (w1.alloc (.cells C 26)).cell? ⟨w.heap.size, 8, none⟩ = some (.bool mn) := fun C => below_cell (below_alloc (Below.refl _ w1) _) x8
  have u9 : ∀ C : Array Value, (w1.alloc (.cells C 26)).cell? ⟨w.heap.size, 9, none⟩ = some (.bool ba) := fun C => below_cell (below_alloc (Below.refl _ w1) _) x9
  have u10 : ∀ C : Array Value, (w1.alloc (.cells C 26)).cell? ⟨w.heap.size, 10, none⟩ = some (.int .i64 (ro : Int)) := fun C => below_cell (below_alloc (Below.refl _ w1) _) x10
  have u11 : ∀ C : Array Value, (w1.alloc (.cells C 26)).cell? ⟨w.heap.size, 11, none⟩ = some (.slice ta tn tc) := fun C => below_cell (below_alloc (Below.refl _ w1) _) x11
  have t10 : ∀ C D : Array Value, ((w1.alloc (.cells C 26)).alloc (.cells D 26)).cell? ⟨w.heap.size, 10, none⟩ = some (.int .i64 (ro : Int)) := fun C D => below_cell (below_alloc (Below.refl _ _) _) (u10 C)
  obtain ⟨y0, y1⟩ := box2 HR1.out
  have z0 : ∀ C D : Array Value, ((w1.alloc (.cells C 26)).alloc (.cells D 26)).cell? ⟨w.heap.size + 1, 0, none⟩ = some (.int .i64 p) := fun C D => below_cell (below_alloc (Below.refl _ _) _) (below_cell (below_alloc (Below.refl _ w1) _) y0)
  have z1 : ∀ C D : Array Value, ((w1.alloc (.cells C 26)).alloc (.cells D 26)).cell? ⟨w.heap.size + 1, 1, none⟩ = some (.int .i64 sn) := fun C D => below_cell (below_alloc (Below.refl _ _) _) (below_cell (below_alloc (Below.refl _ w1) _) y1)
  clear y0 y1
  have hs := ((((Blks.nil w1).add HR1.out).add HX1.out).new #[.bool a, .bool b, .bool c, .bool d, .bool s, .bool l, .bool o, .int .i64 m, .bool mn, .bool ba, .int .i64 (lo : Int), .slice ta tn tc] 26).new #[.bool a, .bool b, .bool c, .bool d, .bool s, .bool l, .bool o, .int .i64 m, .bool mn, .bool ba, .int .i64 (mo : Int), .slice ta tn tc] 26
  simp only [World.size_alloc] at hs
  have HS := Lib.hid hs
  have HB := Lib.hid (below_alloc (below_alloc HB1.out (.cells #[.bool a, .bool b, .bool c, .bool d, .bool s, .bool l, .bool o, .int .i64 m, .bool mn, .bool ba, .int .i64 (lo : Int), .slice ta tn tc] 26)) (.cells #[.bool a, .bool b, .bool c, .bool d, .bool s, .bool l, .bool o, .int .i64 m, .bool mn, .bool ba, .int .i64 (mo : Int), .slice ta tn tc] 26))
  have H1 := Lib.hid (HA.out _ HB.out)
  clear hs HB1 HX1 HR1
  go_wp2_with fail
  (with_reducible refine (H1.out).mono ?_)
  rintro e w2 ⟨rfl, hb⟩
  replace HB := Lib.hid (below_call HB.out hb)
  replace HS := Lib.hid (HS.out.below hb)
  clear hb x0 x1 x2 x3 x4 x5 x6 x7 x8 x9 x10 x11 u0 u1 u2 u3 u4 u5 u6 u7 u8 u9 u10 u11 t10 z0 z1 H1 HA
  have H2 := Lib.hid (HBv.out _ HB.out)
  obtain ⟨x0, x1, x2, x3, x4, x5, x6, x7, x8, x9, x10, x11⟩ := cells12 (HS.out.at_ 0 rfl)
  obtain ⟨y0, y1⟩ := box2 (HS.out.at_ 3 rfl)
  go_wp2_with fail
  (with_reducible refine (H2.out).mono ?_)
  rintro e w3 ⟨rfl, hb⟩
  replace HB := Lib.hid (below_call HB.out hb)
  replace HS := Lib.hid (HS.out.below hb)
  clear hb x0 x1 x2 x3 x4 x5 x6 x7 x8 x9 x10 x11 y0 y1 H2 HBv
  have H3 := Lib.hid (HCv.out _ HB.out)
  obtain ⟨x0, x1, x2, x3, x4, x5, x6, x7, x8, x9, x10, x11⟩ := cells12 (HS.out.at_ 2 rfl)
  obtain ⟨y0, y1⟩ := box2 (HS.out.at_ 3 rfl)
  rcases HW.out with ⟨rfl, rfl, rfl⟩ | ⟨g1, g2, rfl⟩ | ⟨g1, g2, rfl, g3⟩
  · go_wp2_with fail
    (with_reducible refine (H3.out).mono ?_)
    rintro e w4 ⟨rfl, hb⟩
    replace HB := Lib.hid (below_call HB.out hb)
    clear hb x0 x1 x2 x3 x4 x5 x6 x7 x8 x9 x10 x11 y0 y1
    go_wp2_with fail
    go_ret
    exact ⟨rfl, HB.out⟩
  · have q1 : (bv == bv) = true := by simp
    have q2 : (cv == cv) = true := by simp
    go_wp2_with fail
    (with_reducible refine (H3.out).mono ?_)
    rintro e w4 ⟨rfl, hb⟩
    replace HB := Lib.hid (below_call HB.out hb)
    clear hb x0 x1 x2 x3 x4 x5 x6 x7 x8 x9 x10 x11 y0 y1
    go_wp2_with fail
    go_ret
    exact ⟨rfl, HB.out⟩
  · have q1 : (cv == cv) = true := by simp
    go_wp2_with fail
    (with_reducible refine (H3.out).mono ?_)
    rintro e w4 ⟨rfl, hb⟩
    replace HB := Lib.hid (below_call HB.out hb)
    replace HS := Lib.hid (HS.out.below hb)
    clear hb x0 x1 x2 x3 x4 x5 x6 x7 x8 x9 x10 x11 y0 y1 H3
    have H4 := Lib.hid (HCv.out _ HB.out)
    obtain ⟨x0, x1, x2, x3, x4, x5, x6, x7, x8, x9, x10, x11⟩ := cells12 (HS.out.at_ 2 rfl)
    obtain ⟨y0, y1⟩ := box2 (HS.out.at_ 3 rfl)
    go_wp2_with fail
    (with_reducible refine (H4.out).mono ?_)
    rintro e w5 ⟨rfl, hb⟩
    replace HB := Lib.hid (below_call HB.out hb)
    clear hb x0 x1 x2 x3 x4 x5 x6 x7 x8 x9 x10 x11 y0 y1
    go_wp2_with fail
    go_ret
    exact ⟨rfl, HB.out⟩
theorem posig_nat (p : Int) (pv : Bool) (m : Int) (g : Bool) (x n : Nat) (hn : n ≤ 8) : posig p pv m g (x : Int) n = (if p = 5 ∧ pv = true ∧ m = 0 ∧ g = true then ((x % 2 ^ n : Nat) : Int) else 0) := by
  unfold posig
  rw [show min n 62 = n by omega]
  by_cases h : p = 5 ∧ pv = true ∧ m = 0 ∧ g = true
  · rw [if_pos ⟨h.1, h.2.1, h.2.2.1, h.2.2.2, by omega⟩, if_pos h, Int.natCast_emod, Int.natCast_pow]; rfl
  · rw [if_neg (fun h' => h ⟨h'.1, h'.2.1, h'.2.2.1, h'.2.2.2.1⟩), if_neg h]
theorem routes_any (a b c d s l o : Bool) (m : Int) (mn ba : Bool) (r : Int) (tv : Value) (v : Value) (ls : List Tk) (p sn : Int) (pv : Bool) (k : Int) (w : World) (hv : Els RTk 11 w v ls) (ht : ∃ ta tn tc, tv = .slice ta tn tc) : Calls Try.prog 7 #[.agg #[.bool a, .bool b, .bool c, .bool d, .bool s, .bool l, .bool o, .int .i64 m, .bool mn, .bool ba, .int .i64 r, tv], v, .agg #[.int .i64 p, .int .i64 sn], .bool pv, .int .i64 k] w fun e w' => e = .returned (.bool true) ∧ Below w.heap.size w w' := by
  obtain ⟨a0, c0, rfl⟩ := hv.len
  obtain ⟨K, hK⟩ : ∃ n, n = ls.length := ⟨_, rfl⟩
  rw [← hK] at hv ⊢
  by_cases h : 8 < (K : Int) ∨ (¬ 8 < (K : Int) ∧ k < 0) ∨ (¬ 8 < (K : Int) ∧ ¬ k < 0 ∧ (K : Int) ≤ k) ∨ (¬ 8 < (K : Int) ∧ ¬ k < 0 ∧ ¬ (K : Int) ≤ k ∧ r < 0) ∨ (¬ 8 < (K : Int) ∧ ¬ k < 0 ∧ ¬ (K : Int) ≤ k ∧ ¬ r < 0 ∧ 255 < r)
  · exact routes_out a b c d s l o m mn ba r tv a0 K c0 p sn pv k w h
  · obtain ⟨R, rfl⟩ : ∃ R : Nat, r = (R : Int) := ⟨r.toNat, by omega⟩
    obtain ⟨j, rfl⟩ : ∃ j : Nat, k = (j : Int) := ⟨k.toNat, by omega⟩
    have hj8 : j < 8 := by omega
    have hjK : j < K := by omega
    have hp : (2 : Nat) ^ j < 2 ^ 63 := Nat.pow_lt_pow_right (by decide) (by omega)
    have hp8 : (2 : Nat) ^ j < 2 ^ 8 := Nat.pow_lt_pow_right (by decide) (by omega)
    have h28 : (2 : Nat) ^ K ≤ 2 ^ 8 := Nat.pow_le_pow_right (by decide) (by omega)
    have hR : R < 2 ^ 63 := by omega
    have hB : ((2 : Int) ^ j) = ((2 ^ j : Nat) : Int) := by rw [Int.natCast_pow]; rfl
    have hM8 : (R ||| 2 ^ j) < 2 ^ 8 := Nat.or_lt_two_pow (by omega) hp8
    have hn := posig_nat p pv m (dgood m mn l ls)
    have hla : poless R (2 ^ j) % 2 ^ K < 2 ^ K := Nat.mod_lt _ (Nat.pow_pos (by decide))
    have hl := poless_le R (2 ^ j) hR
    obtain ⟨ta, tn, tc, rfl⟩ := ht
    refine routes_main a b c d s l o m mn ba R ta tn tc a0 K c0 p sn pv ls j (poless R (2 ^ j)) (R ||| 2 ^ j) _ _ _ _ w hv hK (by omega) (by omega) (by omega) (by omega) (by omega) hB (po_andNot _ _ hR) (po_or _ _ hR hp) ?_ rfl rfl rfl ?_
    · rw [hn _ _ (by omega), ← hK]
      split
      · rw [po_and _ _ (by omega) hp, po_less_and _ _ _ hR (by omega)]; rfl
      · rw [show (0 : Int) = ((0 : Nat) : Int) from rfl, po_and _ _ (by decide) hp, Nat.zero_and]
    · rw [hn _ _ (by omega), hn _ _ (by omega), hn _ _ (by omega), ← hK]
      by_cases hg : p = 5 ∧ pv = true ∧ m = 0 ∧ dgood m mn l ls = true
      · rw [if_pos hg, if_pos hg, if_pos hg]
        have hmo := po_more R j K hR hjK (by omega)
        have hor : bits .or .i64 ((poless R (2 ^ j) % 2 ^ K : Nat) : Int) ((2 ^ j : Nat) : Int) = (((R ||| 2 ^ j) % 2 ^ K : Nat) : Int) := by rw [po_or _ _ (by omega) hp, hmo]
        have hne : (((((R ||| 2 ^ j) % 2 ^ K : Nat) : Int)) == 0) = false := by
          have h1 : ((R ||| 2 ^ j) % 2 ^ K).testBit j = true := by rw [hmo, Nat.testBit_or, Nat.testBit_two_pow_self, Bool.or_true]
          have h2 : (R ||| 2 ^ j) % 2 ^ K ≠ 0 := fun e => by rw [e, Nat.zero_testBit] at h1; cases h1
          simp only [beq_eq_false_iff_ne, ne_eq]
          omega
        rcases po_either R j hR (by omega) with he | he
        · exact .inr (.inl ⟨hne, hor, by rw [← he]⟩)
        · by_cases hq : ((((R ||| 2 ^ j) % 2 ^ K : Nat) : Int)) = ((poless R (2 ^ j) % 2 ^ K : Nat) : Int)
          · exact .inr (.inl ⟨hne, hor, by rw [← he] at hq; exact hq⟩)
          · exact .inr (.inr ⟨hne, hor, by rw [← he], by simpa using hq⟩)
      · rw [if_neg hg, if_neg hg, if_neg hg]
        exact .inl ⟨rfl, rfl, rfl⟩
end Go.Proofs.Ytgkihalokedmaaa

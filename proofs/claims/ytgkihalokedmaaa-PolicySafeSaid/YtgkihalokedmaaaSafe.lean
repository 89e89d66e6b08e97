/-
  The walk of crossbucklaw23.PolicySafe: true, whatever it is given.
-/
import Derived.Test.YtgkihalokedmaaaSmall
namespace Go.Proofs.Ytgkihalokedmaaa
open Go.RowKit

set_option maxHeartbeats 4000000 in
set_option maxRecDepth 10000 in
theorem safe_out (a b c d s l o : Bool) (m : Int) (mn ba : Bool) (r : Int) (tv : Value) (a0 : Option Addr) (K c0 : Nat) (p sn : Int) (pv : Bool) (w : World) (h : 8 < K) : Calls Try.prog 4 #[.agg #[.bool a, .bool b, .bool c, .bool d, .bool s, .bool l, .bool o, .int .i64 m, .bool mn, .bool ba, .int .i64 r, tv], .slice a0 K c0, .agg #[.int .i64 p, .int .i64 sn], .bool pv] w fun e w' => e = .returned (.bool true) ∧ Below w.heap.size w w' := by
  have HB0 := Lib.hid (below_alloc (below_alloc (Below.refl _ w) (.cells #[.bool a, .bool b, .bool c, .bool d, .bool s, .bool l, .bool o, .int .i64 m, .bool mn, .bool ba, .int .i64 r, tv] 26)) (.cells #[.int .i64 p, .int .i64 sn] 29))
  have h1 : 8 < (K : Int) := by omega
  clear h
  go_enter Try.func4, Try.ntmps4
  go_wp2_with fail
  (with_reducible refine (small_true _).mono ?_)
  rintro e w1 ⟨rfl, hb⟩
  have HB1 := Lib.hid (below_call HB0.out hb)
  clear hb
  go_wp2_with fail
  go_ret
  exact ⟨rfl, HB1.out⟩
set_option maxHeartbeats 4000000 in
set_option maxRecDepth 10000 in
theorem safe_none (a b c d s l o : Bool) (m : Int) (mn ba : Bool) (r : Int) (tv : Value) (a0 : Option Addr) (K c0 : Nat) (p sn : Int) (pv : Bool) (ls : List Tk) (w : World) (hv : Els RTk 11 w (.slice a0 K c0) ls) (hr : r ≤ 9223372036854775807) (h : K ≤ 8) (hK : K = ls.length) (hq : posig p pv m (dgood m mn l ls) r ls.length = 0) : Calls Try.prog 4 #[.agg #[.bool a, .bool b, .bool c, .bool d, .bool s, .bool l, .bool o, .int .i64 m, .bool mn, .bool ba, .int .i64 r, tv], .slice a0 K c0, .agg #[.int .i64 p, .int .i64 sn], .bool pv] w fun e w' => e = .returned (.bool true) ∧ Below w.heap.size w w' := by
  have HB0 := Lib.hid (below_alloc (below_alloc (Below.refl _ w) (.cells #[.bool a, .bool b, .bool c, .bool d, .bool s, .bool l, .bool o, .int .i64 m, .bool mn, .bool ba, .int .i64 r, tv] 26)) (.cells #[.int .i64 p, .int .i64 sn] 29))
  have HX0 := Lib.hid ((box12 a b c d s l o m mn ba r tv w).below (below_alloc (Below.refl _ (w.alloc (.cells #[.bool a, .bool b, .bool c, .bool d, .bool s, .bool l, .bool o, .int .i64 m, .bool mn, .bool ba, .int .i64 r, tv] 26))) (.cells #[.int .i64 p, .int .i64 sn] 29)))
  have hr0 := blk_new (w.alloc (.cells #[.bool a, .bool b, .bool c, .bool d, .bool s, .bool l, .bool o, .int .i64 m, .bool mn, .bool ba, .int .i64 r, tv] 26)) #[.int .i64 p, .int .i64 sn] 29
  simp only [World.size_alloc] at hr0
  have HR0 := Lib.hid hr0
  clear hr0
  have HV := Lib.hid hv
  have HM := Lib.hid (show ls.length ≤ maxLen by unfold maxLen; omega)
  have h1 : ¬ 8 < (K : Int) := by omega
  have HE := Lib.hid (fun (W : World) (hW : Below w.heap.size w W) => posig_to a b c d s l o m mn ba r tv _ ls p sn pv W (HV.out.below (fun _ _ _ h => h.below hW)) HM.out hr 0 hq)
  clear hv hK h hr hq
  go_enter Try.func4, Try.ntmps4
  go_wp2_with fail
  (with_reducible refine (small_true _).mono ?_)
  rintro e w1 ⟨rfl, hb⟩
  have HB1 := Lib.hid (below_call HB0.out hb)
  have HX1 := Lib.hid (HX0.out.below hb)
  have HR1 := Lib.hid (HR0.out.below hb)
  clear hb HB0 HX0 HR0
  obtain ⟨x0, x1, x2, x3, x4, x5, x6, x7, x8, x9, x10, x11⟩ := cells12 HX1.out
  obtain ⟨y0, y1⟩ := box2 HR1.out
  have H1 := Lib.hid (HE.out w1 HB1.out)
  go_wp2_with fail
  (with_reducible refine (H1.out).mono ?_)
  rintro e w2 ⟨rfl, hb⟩
  have HB2 := Lib.hid (below_call HB1.out hb)
  have HX2 := Lib.hid (HX1.out.below hb)
  have HR2 := Lib.hid (HR1.out.below hb)
  clear hb x0 x1 x2 x3 x4 x5 x6 x7 x8 x9 x10 x11 y0 y1 HB1 HX1 HR1 H1 HE
  go_wp2_with fail
  go_ret
  exact ⟨rfl, HB2.out⟩
set_option maxHeartbeats 4000000 in
set_option maxRecDepth 10000 in
theorem safe_some (a b c d s o ba : Bool) (r : Int) (tv : Value) (a0 : Option Addr) (K c0 : Nat) (sn : Int) (ls : List Tk) (q : Int) (w : World) (hv : Els RTk 11 w (.slice a0 K c0) ls) (hr : r ≤ 9223372036854775807) (h : K ≤ 8) (hK : K = ls.length) (hq : posig 5 true 0 (dgood 0 true true ls) r ls.length = q) (hf : dany dfault ls = false) (q0 : 0 < q) (q1 : bits .and .i64 q r = q) (q2 : q / 2 ^ K = 0) : Calls Try.prog 4 #[.agg #[.bool a, .bool b, .bool c, .bool d, .bool s, .bool true, .bool o, .int .i64 0, .bool true, .bool ba, .int .i64 r, tv], .slice a0 K c0, .agg #[.int .i64 5, .int .i64 sn], .bool true] w fun e w' => e = .returned (.bool true) ∧ Below w.heap.size w w' := by
  have HB0 := Lib.hid (below_alloc (below_alloc (Below.refl _ w) (.cells #[.bool a, .bool b, .bool c, .bool d, .bool s, .bool true, .bool o, .int .i64 0, .bool true, .bool ba, .int .i64 r, tv] 26)) (.cells #[.int .i64 5, .int .i64 sn] 29))
  have HX0 := Lib.hid ((box12 a b c d s true o 0 true ba r tv w).below (below_alloc (Below.refl _ (w.alloc (.cells #[.bool a, .bool b, .bool c, .bool d, .bool s, .bool true, .bool o, .int .i64 0, .bool true, .bool ba, .int .i64 r, tv] 26))) (.cells #[.int .i64 5, .int .i64 sn] 29)))
  have hr0 := blk_new (w.alloc (.cells #[.bool a, .bool b, .bool c, .bool d, .bool s, .bool true, .bool o, .int .i64 0, .bool true, .bool ba, .int .i64 r, tv] 26)) #[.int .i64 5, .int .i64 sn] 29
  simp only [World.size_alloc] at hr0
  have HR0 := Lib.hid hr0
  clear hr0
  have HV := Lib.hid hv
  have HM := Lib.hid (show ls.length ≤ maxLen by unfold maxLen; omega)
  have h1 : ¬ 8 < (K : Int) := by omega
  have h2 : (q == 0) = false := by simp; omega
  have hK8 : K ≤ 8 := h
  have HK := Lib.hid hK
  have HF := Lib.hid hf
  have HE := Lib.hid (fun (W : World) (hW : Below w.heap.size w W) => posig_to a b c d s true o 0 true ba r tv _ ls 5 sn true W (HV.out.below (fun _ _ _ h => h.below hW)) HM.out hr q hq)
  clear hv hK h hr hq hf
  go_enter Try.func4, Try.ntmps4
  go_wp2_with fail
  (with_reducible refine (small_true _).mono ?_)
  rintro e w1 ⟨rfl, hb⟩
  have HB1 := Lib.hid (below_call HB0.out hb)
  have HX1 := Lib.hid (HX0.out.below hb)
  have HR1 := Lib.hid (HR0.out.below hb)
  clear hb HB0 HX0 HR0
  obtain ⟨x0, x1, x2, x3, x4, x5, x6, x7, x8, x9, x10, x11⟩ := cells12 HX1.out
  obtain ⟨y0, y1⟩ := box2 HR1.out
  have H1 := Lib.hid (HE.out w1 HB1.out)
  go_wp2_with fail
  (with_reducible refine (H1.out).mono ?_)
  rintro e w2 ⟨rfl, hb⟩
  have HB2 := Lib.hid (below_call HB1.out hb)
  have HX2 := Lib.hid (HX1.out.below hb)
  have HR2 := Lib.hid (HR1.out.below hb)
  clear hb x0 x1 x2 x3 x4 x5 x6 x7 x8 x9 x10 x11 y0 y1 HB1 HX1 HR1 H1 HE
  go_wp2_with fail
  go_loopw [11] (fun x wr => ∃ k : Nat, k ≤ K ∧ x = .int .i64 (k : Int) ∧ wr = w2) (fun x _ => K - (intOf x).toNat)
  case atStart => exact ⟨0, by omega, rfl, rfl⟩
  case round =>
    obtain ⟨k, hk, rfl, rfl⟩ := hrel
    by_cases hlt : k < K
    · have hltI : (k : Int) < (K : Int) := by omega
      have hkw : wrap64 ((k : Int) + 1) = (k : Int) + 1 := IntWalk.wrap64_in _ (by omega)
      obtain ⟨y, hy⟩ : ∃ y, ls[k]? = some y := ⟨_, List.getElem?_eq_getElem (by rw [← HK.out]; exact hlt)⟩
      obtain ⟨g2, o2, ea, hr⟩ := HV.out.at_ hy
      subst ea
      have hyf : y.f = false := by
        cases hh : y.f
        · rfl
        · have := dany_hit (p := dfault) hy (show dfault y = true from hh)
          rw [HF.out] at this
          cases this
      obtain ⟨_, _, _, _, _, _, _, _, _, r9, _⟩ := hr.below HB2.out
      rw [hyf] at r9
      clear hr hy hyf
      go_wp2_with fail
      go_roundw
      case rel => exact ⟨k + 1, by omega, by go_num, trivial⟩
      case measure => clear hkw; simp [intOf]; omega
    · have hltI : ¬ (k : Int) < (K : Int) := by omega
      have hcv : IntKind.u64.wrap (K : Int) = (K : Int) := by rw [IntKind.wrap_u64]; omega
      have hK64 : (K : Int) ≤ 64 := by omega
      obtain ⟨x0, x1, x2, x3, x4, x5, x6, x7, x8, x9, x10, x11⟩ := cells12 HX2.out
      obtain ⟨y0, y1⟩ := box2 HR2.out
      have HL := Lib.hid (fun W => lights_to 5 sn false true false true true (by decide) (by decide) (by decide) (by decide) (by decide) W)
      have E1 := field_ltEn false true false true true
      have E2 := field_ltEx false true false true true
      have E3 : (q == q) = true := by simp
      go_wp2_with fail
      (with_reducible refine (HL.out _).mono ?_)
      rintro e w4 ⟨rfl, hb⟩
      have HB4 := Lib.hid (below_call HB2.out hb)
      have HR4 := Lib.hid (HR2.out.below hb)
      clear hb x0 x1 x2 x3 x4 x5 x6 x7 x8 x9 x10 x11 y0 y1
      obtain ⟨y0, y1⟩ := box2 HR4.out
      go_wp2_with fail
      (with_reducible refine (HL.out _).mono ?_)
      rintro e w5 ⟨rfl, hb⟩
      have HB5 := Lib.hid (below_call HB4.out hb)
      clear hb y0 y1
      go_wp2_with fail
      go_ret
      exact ⟨rfl, HB5.out⟩
theorem safe_any (a b c d s l o : Bool) (m : Int) (mn ba : Bool) (r : Int) (tv : Value) (v : Value) (ls : List Tk) (p sn : Int) (pv : Bool) (w : World) (hv : Els RTk 11 w v ls) (hr : r ≤ 9223372036854775807) : Calls Try.prog 4 #[.agg #[.bool a, .bool b, .bool c, .bool d, .bool s, .bool l, .bool o, .int .i64 m, .bool mn, .bool ba, .int .i64 r, tv], v, .agg #[.int .i64 p, .int .i64 sn], .bool pv] w fun e w' => e = .returned (.bool true) ∧ Below w.heap.size w w' := by
  obtain ⟨a0, c0, rfl⟩ := hv.len
  obtain ⟨K, hK⟩ : ∃ n, n = ls.length := ⟨_, rfl⟩
  rw [← hK] at hv ⊢
  by_cases h : 8 < K
  · exact safe_out a b c d s l o m mn ba r tv a0 K c0 p sn pv w h
  · by_cases hz : posig p pv m (dgood m mn l ls) r ls.length = 0
    · exact safe_none a b c d s l o m mn ba r tv a0 K c0 p sn pv ls w hv hr (by omega) hK hz
    · obtain ⟨rfl, rfl, rfl, hg, h0, he⟩ := posig_some hz
      have hd := hg
      unfold dgood at hd
      cases mn
      · simp at hd
      · cases l
        · simp at hd
        · simp at hd
          have hM : min ls.length 62 = K := by omega
          rw [hM] at he
          obtain ⟨R, rfl⟩ : ∃ R : Nat, r = (R : Int) := ⟨r.toNat, by omega⟩
          have hp : ((R : Int) % 2 ^ K) = ((R % 2 ^ K : Nat) : Int) := by rw [Int.natCast_emod, Int.natCast_pow]; rfl
          have hlt : R % 2 ^ K < 2 ^ K := Nat.mod_lt _ (Nat.pow_pos (by decide))
          have h28 : (2 : Nat) ^ K ≤ 2 ^ 8 := Nat.pow_le_pow_right (by decide) (by omega)
          rw [he, hp] at hz
          refine safe_some a b c d s o ba _ tv a0 K c0 sn ls _ w hv hr (by omega) hK rfl hd ?_ ?_ ?_
          · rw [he, hp]; omega
          · rw [he, hp, po_and _ _ (by omega) (by omega), po_mod_and]
          · rw [he, hp, show ((2 : Int) ^ K) = ((2 ^ K : Nat) : Int) by rw [Int.natCast_pow]; rfl, ← Int.natCast_ediv, Nat.div_eq_of_lt hlt]; rfl
end Go.Proofs.Ytgkihalokedmaaa

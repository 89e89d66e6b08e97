/-
  The document's Good and Of by contracts.
-/
import Derived.Test.YtoedecngemkblaaDmOf
import Derived.Deep.CutRange
import Derived.Deep.DeepCutAuto
namespace Go.Proofs.Ytoedecngemkblaa
open Go.RowKit

set_option maxHeartbeats 2000000 in
theorem rgood_to (a b c d s l o : Bool) (m : Int) (mn ba : Bool) (r : Int) (tv : Value) (v : Value) (ls : List Tk) (w : World) (hv : Els RTk 11 w v ls) (hm : ls.length ≤ maxLen) (q : Bool) (hq : dgood m mn l ls = q) : Calls Try.prog 10 #[.agg #[.bool a, .bool b, .bool c, .bool d, .bool s, .bool l, .bool o, .int .i64 m, .bool mn, .bool ba, .int .i64 r, tv], v] w fun e w' => e = .returned (.bool q) ∧ Below w.heap.size w w' := by
  have HB := Lib.hid (below_alloc (Below.refl _ w) (.cells #[.bool a, .bool b, .bool c, .bool d, .bool s, .bool l, .bool o, .int .i64 m, .bool mn, .bool ba, .int .i64 r, tv] 26))
  have HX := Lib.hid (box12 a b c d s l o m mn ba r tv w)
  have HV := Lib.hid hv
  obtain ⟨av, cc, ev⟩ := hv.len
  obtain ⟨K, hn⟩ : ∃ n, n = ls.length := ⟨_, rfl⟩
  rw [← hn] at ev hm
  subst ev
  have HN := Lib.hid hn
  have HM := Lib.hid hm
  clear hv hn hm
  unfold dgood at hq
  have HQ0 := Lib.hid hq
  clear hq
  go_enter Try.func10, Try.ntmps10
  go_wp2_with fail
  go_loopw [5] (fun x wr => ∃ k : Nat, k ≤ K ∧ x = .int .i64 (k : Int) ∧ Hid (dany dfault (ls.take k) = false) ∧ Hid (Below w.heap.size w wr) ∧ Hid (Blk wr w.heap.size #[.bool a, .bool b, .bool c, .bool d, .bool s, .bool l, .bool o, .int .i64 m, .bool mn, .bool ba, .int .i64 r, tv] 26) ∧ Hid (Below (w.alloc (.cells #[.bool a, .bool b, .bool c, .bool d, .bool s, .bool l, .bool o, .int .i64 m, .bool mn, .bool ba, .int .i64 r, tv] 26)).heap.size (w.alloc (.cells #[.bool a, .bool b, .bool c, .bool d, .bool s, .bool l, .bool o, .int .i64 m, .bool mn, .bool ba, .int .i64 r, tv] 26)) wr)) (fun x _ => K - (intOf x).toNat)
  case atStart => exact ⟨0, by omega, rfl, Lib.hid (dany_nil _ _), HB, HX, Lib.hid (Below.refl _ _)⟩
  case round =>
    obtain ⟨k, hk, rfl, HA, HB2, HX2, HB3⟩ := hrel
    clear HB HX
    by_cases hlt : k < K
    · have hltI : (k : Int) < (K : Int) := by omega
      obtain ⟨y, hy⟩ : ∃ y, ls[k]? = some y := ⟨_, List.getElem?_eq_getElem (by rw [← HN.out]; exact hlt)⟩
      obtain ⟨g2, o2, ea, hr⟩ := HV.out.at_ hy
      subst ea
      have hx := dany_take dfault ls k y hy
      have HY := Lib.hid (fun h : dfault y = true => dany_hit (p := dfault) hy h)
      obtain ⟨th, ti, tz, tg, tl, ts, tj, tc, tn, tf, tk⟩ := y
      obtain ⟨r0, r1, r2, r3, r4, r5, r6, r7, r8, r9, r10⟩ := hr.below HB2.out
      dsimp only at r0 r1 r2 r3 r4 r5 r6 r7 r8 r9 r10
      have hkw : wrap64 ((k : Int) + 1) = (k : Int) + 1 := IntWalk.wrap64_in _ (by have := HM.out; unfold maxLen at this; omega)
      clear hy hr
      rw [HA.out, Bool.false_or] at hx
      have HH := Lib.hid hx
      clear hx
      cases tf
      · go_wp2_with fail
        go_roundw
        case rel => exact ⟨k + 1, by omega, by go_num, HH, HB2, HX2, HB3⟩
        case measure => rw [hkw]; clear hkw; simp [intOf]; omega
      · have HZ := Lib.hid (HY.out rfl)
        rw [HZ.out] at HQ0
        go_wp2_with fail
        go_ret
        exact ⟨by rw [← HQ0.out]; simp, HB2.out⟩
    · have hltI : ¬ (k : Int) < (K : Int) := by omega
      have hkK : k = K := by omega
      have hx := HA.out
      rw [hkK, HN.out, List.take_length] at hx
      have hq := HQ0.out
      rw [hx] at hq
      have HQ := Lib.hid hq
      obtain ⟨x0, x1, x2, x3, x4, x5, x6, x7, x8, x9, x10, x11⟩ := cells12 HX2.out
      clear hx hq hkK HQ0
      rcases (show m = 1 ∨ (m != 1) = true by by_cases h : m = 1 <;> simp [h]) with rfl | h2
      · have h2 : ((1 : Int) != 1) = false := rfl
        rw [h2] at HQ
        go_wp2_with fail
        go_ret
        exact ⟨by rw [← HQ.out]; rfl, HB2.out⟩
      · rw [h2] at HQ
        cases mn
        · go_wp2_with fail
          go_ret
          exact ⟨by rw [← HQ.out]; rfl, HB2.out⟩
        · go_wp2_with fail
          go_ret
          exact ⟨by rw [← HQ.out]; simp, HB2.out⟩
set_option maxHeartbeats 4000000 in
theorem rof_to (a b c d s l o : Bool) (m : Int) (mn ba : Bool) (r : Int) (tv : Value) (v : Value) (ls : List Tk) (w : World) (hv : Els RTk 11 w v ls) (hm : ls.length ≤ maxLen) (lk op : Bool) (u q : Bool) (hu : (!dgood m mn l ls) = u) (hq : dshut u r ls lk op = q) : Calls Try.prog 12 #[.agg #[.bool a, .bool b, .bool c, .bool d, .bool s, .bool l, .bool o, .int .i64 m, .bool mn, .bool ba, .int .i64 r, tv], v, .bool lk, .bool op] w fun e w' => e = .returned (.agg #[.bool q, .bool u]) ∧ Below w.heap.size w w' := by
  have HX := Lib.hid ((box12 a b c d s l o m mn ba r tv w).below (below_alloc (Below.refl _ (w.alloc (.cells #[.bool a, .bool b, .bool c, .bool d, .bool s, .bool l, .bool o, .int .i64 m, .bool mn, .bool ba, .int .i64 r, tv] 26))) (.cells #[.bool false, .bool false] 31)))
  have hD0 := blk_new (w.alloc (.cells #[.bool a, .bool b, .bool c, .bool d, .bool s, .bool l, .bool o, .int .i64 m, .bool mn, .bool ba, .int .i64 r, tv] 26)) #[.bool false, .bool false] 31
  simp only [World.size_alloc] at hD0
  have HB := Lib.hid (below_alloc (below_alloc (Below.refl _ w) (.cells #[.bool a, .bool b, .bool c, .bool d, .bool s, .bool l, .bool o, .int .i64 m, .bool mn, .bool ba, .int .i64 r, tv] 26)) (.cells #[.bool false, .bool false] 31))
  have HD := Lib.hid hD0
  clear hD0
  obtain ⟨x0, x1, x2, x3, x4, x5, x6, x7, x8, x9, x10, x11⟩ := cells12 HX.out
  obtain ⟨g, hg⟩ : ∃ g, dgood m mn l ls = g := ⟨_, rfl⟩
  have HG := Lib.hid (rgood_to a b c d s l o m mn ba r tv v ls ((w.alloc (.cells #[.bool a, .bool b, .bool c, .bool d, .bool s, .bool l, .bool o, .int .i64 m, .bool mn, .bool ba, .int .i64 r, tv] 26)).alloc (.cells #[.bool false, .bool false] 31)) (hv.below (fun g o y h => h.below HB.out)) hm g hg)
  have HV := Lib.hid hv
  obtain ⟨av, cc, ev⟩ := hv.len
  obtain ⟨K, hn⟩ : ∃ n, n = ls.length := ⟨_, rfl⟩
  rw [← hn] at ev hm
  subst ev
  have HN := Lib.hid hn
  have HM := Lib.hid hm
  clear hv hn hm
  rw [hg] at hu
  have HU := Lib.hid hu
  obtain ⟨z, hz⟩ : ∃ z, (u || r != 0 || lk) = z := ⟨_, rfl⟩
  have HQ := Lib.hid (show (z || dany (dask op) ls) = q by rw [← hq, ← hz]; unfold dshut; cases u <;> cases lk <;> simp)
  have HZ := Lib.hid hz
  clear hq hg hu hz
  go_enter Try.func12, Try.ntmps12
  go_wp2_with fail
  (with_reducible refine (HG.out).mono ?_)
  rintro e w1 ⟨rfl, hb⟩
  replace HB := Lib.hid (below_call HB.out hb)
  replace HX := Lib.hid (HX.out.below hb)
  replace HD := Lib.hid (HD.out.below hb)
  clear x0 x1 x2 x3 x4 x5 x6 x7 x8 x9 x10 x11 hb
  obtain ⟨_, _, _, _, _, _, _, _, _, _, y10, _⟩ := cells12 HX.out
  go_upto_region 2 with fail
  rw [HU.out]
  go_cut [10] (fun y wx => y = .bool z ∧ wx = w1)
  case first =>
    have hz := HZ.out
    cases u
    · rcases (show r = 0 ∨ (r != 0) = true by by_cases h : r = 0 <;> simp [h]) with rfl | h2
      · have h2 : ((0 : Int) != 0) = false := rfl
        rw [h2] at hz
        have HE := Lib.hid hz
        clear hz
        go_wp2_with fail
        go_meet
        exact ⟨by rw [← HE.out]; rfl, rfl⟩
      · rw [h2] at hz
        have HE := Lib.hid hz
        clear hz
        go_wp2_with fail
        go_meet
        exact ⟨by rw [← HE.out]; rfl, rfl⟩
    · have HE := Lib.hid hz
      clear hz
      go_wp2_with fail
      go_meet
      exact ⟨by rw [← HE.out]; rfl, rfl⟩
  case rest =>
    obtain ⟨rfl, rfl⟩ := hcut
    go_wp2_with fail
    go_loopw [10, 11] (fun x y wr => ∃ (k : Nat) (p : Bool), k ≤ K ∧ x = .bool p ∧ y = .int .i64 (k : Int) ∧ Hid (p = (z || dany (dask op) (ls.take k))) ∧ wr = wc) (fun _ y _ => K - (intOf y).toNat)
    case atStart => exact ⟨0, z, by omega, rfl, rfl, Lib.hid (by rw [dany_nil, Bool.or_false]), rfl⟩
    case round =>
      obtain ⟨k, p, hk, rfl, rfl, HA, rfl⟩ := hrel
      by_cases hlt : k < K
      · have hltI : (k : Int) < (K : Int) := by omega
        obtain ⟨y, hy⟩ : ∃ y, ls[k]? = some y := ⟨_, List.getElem?_eq_getElem (by rw [← HN.out]; exact hlt)⟩
        obtain ⟨g2, o2, ea, hr⟩ := HV.out.at_ hy
        subst ea
        have hx := dany_take (dask op) ls k y hy
        have HY := Lib.hid (fun h : (dask op) y = true => dany_hit (p := (dask op)) hy h)
        obtain ⟨th, ti, tz, tg, tl, ts, tj, tc, tn, tf, tk⟩ := y
        obtain ⟨r0, r1, r2, r3, r4, r5, r6, r7, r8, r9, r10⟩ := hr.below HB.out
        dsimp only at r0 r1 r2 r3 r4 r5 r6 r7 r8 r9 r10
        have hkw : wrap64 ((k : Int) + 1) = (k : Int) + 1 := IntWalk.wrap64_in _ (by have := HM.out; unfold maxLen at this; omega)
        clear hy hr
        have hp := HA.out
        have HP := Lib.hid (show (p || (tk || (!op && !tc))) = (z || dany (dask op) (ls.take (k + 1))) by rw [hx, hp, Bool.or_assoc]; rfl)
        clear hx hp HY HA
        cases p
        · cases tk
          · cases op
            · go_wp2_with fail
              go_roundw
              case rel => exact ⟨k + 1, _, by omega, rfl, by go_num, Lib.hid (by rw [← HP.out]; simp), trivial⟩
              case measure => rw [hkw]; clear hkw; simp [intOf]; omega
            · go_wp2_with fail
              go_roundw
              case rel => exact ⟨k + 1, _, by omega, rfl, by go_num, Lib.hid (by rw [← HP.out]; simp), trivial⟩
              case measure => rw [hkw]; clear hkw; simp [intOf]; omega
          · go_wp2_with fail
            go_roundw
            case rel => exact ⟨k + 1, _, by omega, rfl, by go_num, Lib.hid (by rw [← HP.out]; simp), trivial⟩
            case measure => rw [hkw]; clear hkw; simp [intOf]; omega
        · go_wp2_with fail
          go_roundw
          case rel => exact ⟨k + 1, _, by omega, rfl, by go_num, Lib.hid (by rw [← HP.out]; simp), trivial⟩
          case measure => rw [hkw]; clear hkw; simp [intOf]; omega
      · have hltI : ¬ (k : Int) < (K : Int) := by omega
        have hkK : k = K := by omega
        have hx := HA.out
        rw [hkK, HN.out, List.take_length, HQ.out] at hx
        have HH := Lib.hid hx
        obtain ⟨z0, z1⟩ := two_cells HD.out
        have z2 := HD.out.frz 0
        have z3 := HD.out.frz 1
        clear hx hkK
        go_wp2_with fail
        (try simp only [Exit.inBlock, Exit.then])
        refine bodyPost_ret (v := .agg #[.bool p, .bool u]) ?_ rfl ⟨by rw [HH.out], ?_⟩
        · rw [results_cell1 rfl]
          go_simp
        · exact bel_set (bel_set HB.out (by omega) 0 _) (by omega) 1 _
end Go.Proofs.Ytoedecngemkblaa

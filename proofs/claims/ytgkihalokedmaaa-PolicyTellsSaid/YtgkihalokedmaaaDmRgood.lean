/-
  The document's Good by a contract.
-/
import Derived.Test.YtgkihalokedmaaaDmMath
import Derived.Test.YtgkihalokedmaaaTkRow
import Derived.Test.YtgkihalokedmaaaIn12
import Derived.Deep.CutRange
import Derived.Deep.DeepCutAuto
namespace Go.Proofs.Ytgkihalokedmaaa
open Go.RowKit

set_option maxHeartbeats 2000000 in
theorem rgood_to (a b c d s l o : Bool) (m : Int) (mn ba : Bool) (r : Int) (tv : Value) (v : Value) (ls : List Tk) (w : World) (hv : Els RTk 11 w v ls) (hm : ls.length ≤ maxLen) (q : Bool) (hq : dgood m mn l ls = q) : Calls Try.prog 21 #[.agg #[.bool a, .bool b, .bool c, .bool d, .bool s, .bool l, .bool o, .int .i64 m, .bool mn, .bool ba, .int .i64 r, tv], v] w fun e w' => e = .returned (.bool q) ∧ Below w.heap.size w w' := by
  have HB := Lib.hid (below_alloc (Below.refl _ w) (.cells #[.bool a, .bool b, .bool c, .bool d, .bool s, .bool l, .bool o, .int .i64 m, .bool mn, .bool ba, .int .i64 r, tv] 26))
  have HX := Lib.hid (box12 a b c d s l o m mn ba r tv w)
  have HV := Lib.hid hv
  obtain ⟨av, cc, ev⟩ := hv.len
  obtain ⟨K, hn⟩ : ∃ n, n = ls.length := ⟨_, rfl⟩
  rw [← hn] at ev hm
  subst ev
  have HN := Lib.hid hn
  have HM := Lib.hid hm
  clear hv hn hm
  unfold dgood at hq
  have HQ0 := Lib.hid hq
  clear hq
  go_enter Try.func21, Try.ntmps21
  go_wp2_with fail
  go_loopw [5] (fun x wr => ∃ k : Nat, k ≤ K ∧ x = .int .i64 (k : Int) ∧ Hid (dany dfault (ls.take k) = false) ∧ Hid (Below w.heap.size w wr) ∧ Hid (Blk wr w.heap.size #[.bool a, .bool b, .bool c, .bool d, .bool s, .bool l, .bool o, .int .i64 m, .bool mn, .bool ba, .int .i64 r, tv] 26) ∧ Hid (Below (w.alloc (.cells #[.bool a, .bool b, .bool c, .bool d, .bool s, .bool l, .bool o, .int .i64 m, .bool mn, .bool ba, .int .i64 r, tv] 26)).heap.size (w.alloc (.cells #[.bool a, .bool b, .bool c, .bool d, .bool s, .bool l, .bool o, .int .i64 m, .bool mn, .bool ba, .int .i64 r, tv] 26)) wr)) (fun x _ => K - (intOf x).toNat)
  case atStart => exact ⟨0, by omega, rfl, Lib.hid (dany_nil _ _), HB, HX, Lib.hid (Below.refl _ _)⟩
  case round =>
    obtain ⟨k, hk, rfl, HA, HB2, HX2, HB3⟩ := hrel
    clear HB HX
    by_cases hlt : k < K
    · have hltI : (k : Int) < (K : Int) := by omega
      obtain ⟨y, hy⟩ : ∃ y, ls[k]? = some y := ⟨_, List.getElem?_eq_getElem (by rw [← HN.out]; exact hlt)⟩
      obtain ⟨g2, o2, ea, hr⟩ := HV.out.at_ hy
      subst ea
      have hx := dany_take dfault ls k y hy
      have HY := Lib.hid (fun h : dfault y = true => dany_hit (p := dfault) hy h)
      obtain ⟨th, ti, tz, tg, tl, ts, tj, tc, tn, tf, tk⟩ := y
      obtain ⟨r0, r1, r2, r3, r4, r5, r6, r7, r8, r9, r10⟩ := hr.below HB2.out
      dsimp only at r0 r1 r2 r3 r4 r5 r6 r7 r8 r9 r10
      have hkw : wrap64 ((k : Int) + 1) = (k : Int) + 1 := IntWalk.wrap64_in _ (by have := HM.out; unfold maxLen at this; omega)
      clear hy hr
      rw [HA.out, Bool.false_or] at hx
      have HH := Lib.hid hx
      clear hx
      cases tf
      · go_wp2_with fail
        go_roundw
        case rel => exact ⟨k + 1, by omega, by go_num, HH, HB2, HX2, HB3⟩
        case measure => rw [hkw]; clear hkw; simp [intOf]; omega
      · have HZ := Lib.hid (HY.out rfl)
        rw [HZ.out] at HQ0
        go_wp2_with fail
        go_ret
        exact ⟨by rw [← HQ0.out]; simp, HB2.out⟩
    · have hltI : ¬ (k : Int) < (K : Int) := by omega
      have hkK : k = K := by omega
      have hx := HA.out
      rw [hkK, HN.out, List.take_length] at hx
      have hq := HQ0.out
      rw [hx] at hq
      have HQ := Lib.hid hq
      obtain ⟨x0, x1, x2, x3, x4, x5, x6, x7, x8, x9, x10, x11⟩ := cells12 HX2.out
      clear hx hq hkK HQ0
      rcases (show m = 1 ∨ (m != 1) = true by by_cases h : m = 1 <;> simp [h]) with rfl | h2
      · have h2 : ((1 : Int) != 1) = false := rfl
        rw [h2] at HQ
        go_wp2_with fail
        go_ret
        exact ⟨by rw [← HQ.out]; rfl, HB2.out⟩
      · rw [h2] at HQ
        cases mn
        · go_wp2_with fail
          go_ret
          exact ⟨by rw [← HQ.out]; rfl, HB2.out⟩
        · go_wp2_with fail
          go_ret
          exact ⟨by rw [← HQ.out]; simp, HB2.out⟩
end Go.Proofs.Ytgkihalokedmaaa

/-
  What Good of demand asks of each track, by contracts.
-/
import Derived.Test.YtgkihalokedmaaaDmMath
import Derived.Test.YtgkihalokedmaaaTkRow
import Derived.Test.YtgkihalokedmaaaIn12
namespace Go.Proofs.Ytgkihalokedmaaa
open Go.RowKit

theorem box11 (w : World) (h : Bool) (i o : Int) (g : Bool) (l s : Int) (j cl : Bool) (n : Int) (f c : Bool) : RTk (w.alloc (.cells #[.bool h, .int .i64 i, .int .i64 o, .bool g, .int .i64 l, .int .i64 s, .bool j, .bool cl, .int .i64 n, .bool f, .bool c] 43)) w.heap.size 0 ⟨h, i, o, g, l, s, j, cl, n, f, c⟩ := by
  have b := blk_new w #[.bool h, .int .i64 i, .int .i64 o, .bool g, .int .i64 l, .int .i64 s, .bool j, .bool cl, .int .i64 n, .bool f, .bool c] 43
  exact ⟨b.cell 0 rfl, b.cell 1 rfl, b.cell 2 rfl, b.cell 3 rfl, b.cell 4 rfl, b.cell 5 rfl, b.cell 6 rfl, b.cell 7 rfl, b.cell 8 rfl, b.cell 9 rfl, b.cell 10 rfl⟩
theorem faulty_to (h : Bool) (i o : Int) (g : Bool) (l s : Int) (j cl : Bool) (n : Int) (f c r : Bool) (hr : f = r) (w : World) : Calls Try.prog 22 #[.agg #[.bool h, .int .i64 i, .int .i64 o, .bool g, .int .i64 l, .int .i64 s, .bool j, .bool cl, .int .i64 n, .bool f, .bool c]] w fun e w' => e = .returned (.bool r) ∧ Below w.heap.size w w' := by
  have HB := Lib.hid (below_alloc (Below.refl _ w) (.cells #[.bool h, .int .i64 i, .int .i64 o, .bool g, .int .i64 l, .int .i64 s, .bool j, .bool cl, .int .i64 n, .bool f, .bool c] 43))
  subst hr
  obtain ⟨_, _, _, _, _, _, _, _, _, x9, _⟩ := box11 w h i o g l s j cl n f c
  go_enter Try.func22, Try.ntmps22
  go_wp2_with fail
  go_ret
  exact ⟨rfl, HB.out⟩
-- GEN
theorem faulty_idx (v : Value) (ls : List Tk) (w : World) (hv : Els RTk 11 w v ls) (hm : ls.length ≤ maxLen) : Calls Try.prog 24 #[v, .func (.func 22) #[] #[]] w fun e w' => ∃ r : Int, e = .returned (.int .i64 r) ∧ ((r = -1 ∧ dany dfault ls = false) ∨ (0 ≤ r ∧ dany dfault ls = true)) ∧ Below w.heap.size w w' := by
  obtain ⟨a, cc, ev⟩ := hv.len
  obtain ⟨K, hn⟩ : ∃ n, n = ls.length := ⟨_, rfl⟩
  rw [← hn] at ev hm
  subst ev
  have HV := Lib.hid hv
  have HN := Lib.hid hn
  have HM := Lib.hid hm
  clear hv hn hm
  go_enter Try.func24, Try.ntmps24
  go_wp2_with fail
  go_loopw [8] (fun s8 wr => ∃ k : Nat, k ≤ K ∧ s8 = .int .i64 (k : Int) ∧ Hid (dany dfault (ls.take k) = false) ∧ Hid (Below w.heap.size w wr)) (fun s8 _ => K - (intOf s8).toNat)
  case atStart => exact ⟨0, by omega, rfl, Lib.hid (dany_nil _ _), Lib.hid (Below.refl _ w)⟩
  case round =>
    obtain ⟨k, hk, rfl, HA, HB⟩ := hrel
    by_cases hlt : k < K
    · have hltI : (k : Int) < (K : Int) := by omega
      obtain ⟨y, hy⟩ : ∃ y, ls[k]? = some y := ⟨_, List.getElem?_eq_getElem (by rw [← HN.out]; exact hlt)⟩
      obtain ⟨g2, o2, ea, hr⟩ := HV.out.at_ hy
      subst ea
      have hx := dany_take dfault ls k y hy
      rw [HA.out, Bool.false_or] at hx
      obtain ⟨b, hb⟩ : ∃ b, dfault y = b := ⟨_, rfl⟩
      rw [hb] at hx
      have HX := Lib.hid hx
      have HY := Lib.hid (fun h : dfault y = true => dany_hit (p := dfault) hy h)
      have HQ := Lib.hid hb
      obtain ⟨h, i, o, g, l, s, j, cl, n, f, c⟩ := y
      obtain ⟨r0, r1, r2, r3, r4, r5, r6, r7, r8, r9, r10⟩ := hr.below HB.out
      dsimp only at r0 r1 r2 r3 r4 r5 r6 r7 r8 r9 r10
      clear hy hr hx
      have HC := Lib.hid (fun W => faulty_to h i o g l s j cl n f c b hb W)
      clear hb
      have hkw : wrap64 ((k : Int) + 1) = (k : Int) + 1 := IntWalk.wrap64_in _ (by have := HM.out; unfold maxLen at this; omega)
      go_wp2_with fail
      (with_reducible refine (HC.out _).mono ?_)
      rintro e w1 ⟨rfl, hb⟩
      have HB1 := Lib.hid (below_call HB.out hb)
      clear hb HC r0 r1 r2 r3 r4 r5 r6 r7 r8 r9 r10
      cases b
      · go_wp2_with fail
        go_roundw
        case rel => exact ⟨k + 1, by omega, by go_num, HX, HB1⟩
        case measure => rw [hkw]; clear hkw; simp [intOf]; omega
      · go_wp2_with fail
        go_ret
        exact ⟨_, rfl, .inr ⟨by omega, HY.out HQ.out⟩, HB1.out⟩
    · have hltI : ¬ (k : Int) < (K : Int) := by omega
      have hkK : k = K := by omega
      have hx := HA.out
      rw [hkK, HN.out, List.take_length] at hx
      have HX := Lib.hid hx
      clear hx hkK
      go_wp2_with fail
      go_ret
      exact ⟨_, rfl, .inl ⟨rfl, HX.out⟩, HB.out⟩
theorem faulty_any (v : Value) (ls : List Tk) (w : World) (hv : Els RTk 11 w v ls) (hm : ls.length ≤ maxLen) (r : Bool) (hr : dany dfault ls = r) : Calls Try.prog 23 #[v, .func (.func 22) #[] #[]] w fun e w' => e = .returned (.bool r) ∧ Below w.heap.size w w' := by
  have HC := Lib.hid (faulty_idx v ls w hv hm)
  obtain ⟨a, cc, ev⟩ := hv.len
  subst ev
  have HR := Lib.hid hr
  clear hv hm hr
  go_enter Try.func23, Try.ntmps23
  go_wp2_with fail
  (with_reducible refine (HC.out).mono ?_)
  rintro e w1 ⟨q, rfl, hq, hb⟩
  have HB := Lib.hid hb
  rcases hq with ⟨rfl, h1⟩ | ⟨h0, h1⟩
  · have HH := Lib.hid (h1.symm.trans HR.out)
    clear hb h1
    go_wp2_with fail
    go_ret
    exact ⟨by rw [← HH.out]; rfl, HB.out⟩
  · have HH := Lib.hid (h1.symm.trans HR.out)
    clear hb h1
    go_wp2_with fail
    go_ret
    exact ⟨by rw [← HH.out]; rfl, HB.out⟩
end Go.Proofs.Ytgkihalokedmaaa

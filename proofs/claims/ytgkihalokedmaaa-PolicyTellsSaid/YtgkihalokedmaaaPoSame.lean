/-
  The document's comparison of two rows of tracks that are the same, by a contract.
-/
import Derived.Test.YtgkihalokedmaaaTkRow
import Derived.Test.YtgkihalokedmaaaTkEq
import Derived.BigQuiet
namespace Go.Proofs.Ytgkihalokedmaaa
open Go.RowKit

set_option maxHeartbeats 2000000 in
theorem posame_to (v u : Value) (ls : List Tk) (w : World) (hv : Els RTk 11 w v ls) (hu : Els RTk 11 w u ls) (hm : ls.length ≤ maxLen) : Calls Try.prog 13 #[v, u] w fun e w' => e = .returned (.bool true) ∧ Below w.heap.size w w' := by
  have HV := Lib.hid hv
  have HU := Lib.hid hu
  obtain ⟨av, cv, ev⟩ := hv.len
  obtain ⟨au, cu, eu⟩ := hu.len
  obtain ⟨K, hn⟩ : ∃ n, n = ls.length := ⟨_, rfl⟩
  rw [← hn] at ev eu hm
  subst ev eu
  have HN := Lib.hid hn
  have HM := Lib.hid hm
  clear hv hu hn hm
  go_enter Try.func13, Try.ntmps13
  go_wp2_with fail
  go_loopw [5] (fun x wr => ∃ k : Nat, k ≤ K ∧ x = .int .i64 (k : Int) ∧ Hid (Below w.heap.size w wr)) (fun x _ => K - (intOf x).toNat)
  case atStart => exact ⟨0, by omega, rfl, Lib.hid (Below.refl _ _)⟩
  case round =>
    obtain ⟨k, hk, rfl, HB⟩ := hrel
    by_cases hlt : k < K
    · have hltI : (k : Int) < (K : Int) := by omega
      have hkw : wrap64 ((k : Int) + 1) = (k : Int) + 1 := IntWalk.wrap64_in _ (by have := HM.out; unfold maxLen at this; omega)
      obtain ⟨y, hy⟩ : ∃ y, ls[k]? = some y := ⟨_, List.getElem?_eq_getElem (by rw [← HN.out]; exact hlt)⟩
      obtain ⟨g1, o1, e1, hr1⟩ := HV.out.at_ hy
      obtain ⟨g2, o2, e2, hr2⟩ := HU.out.at_ hy
      subst e1 e2
      obtain ⟨th, ti, tz, tg, tl, ts, tj, tc, tn, tf, tk⟩ := y
      have E := neq_tk th ti tz tg tl ts tj tc tn tf tk
      obtain ⟨a0, a1, a2, a3, a4, a5, a6, a7, a8, a9, a10⟩ := hr1.below HB.out
      obtain ⟨b0, b1, b2, b3, b4, b5, b6, b7, b8, b9, b10⟩ := hr2.below HB.out
      dsimp only at a0 a1 a2 a3 a4 a5 a6 a7 a8 a9 a10 b0 b1 b2 b3 b4 b5 b6 b7 b8 b9 b10
      clear hy hr1 hr2
      go_wp2_with fail
      go_quiet (fail)
      go_wp2_with fail
      go_roundw
      case rel => exact ⟨k + 1, by omega, by go_num, Lib.hid (below_call HB.out (bel_drewN _ _))⟩
      case measure => rw [hkw]; clear hkw; simp [intOf]; omega
    · have hltI : ¬ (k : Int) < (K : Int) := by omega
      go_wp2_with fail
      go_ret
      exact ⟨rfl, HB.out⟩
end Go.Proofs.Ytgkihalokedmaaa

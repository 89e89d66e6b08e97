/-
  PolicyRoutes is true of every input: each route counts by itself: any inputs, any tracks, any road, any route more (of more than 8 tracks, of no such route, and of routes below 0 or above 255 the law asks its small case alone).
  Conditions: none but the form's own.
-/
import Derived.Test.YtgkihalokedmaaaOpen
import Derived.Test.YtgkihalokedmaaaRoutes
import Derived.Test.YtgkihalokedmaaaTkRow
import Derived.Test.YtgkihalokedmaaaSnOpen
import Derived.Test.YtgkihalokedmaaaRdOpen
import Derived.Test.YtgkihalokedmaaaPoOpen
namespace Go.Proofs.Ytgkihalokedmaaa
open Go.ChangeShapes Go.WideShapes Go.ChangeAt Go.RowKit

set_option maxRecDepth 100000 in
theorem policyRoutes_contract (H : Type) (enc : TypeId × Value → H) (W : World) (base : Nat) (args : Array Value) (ds gs : List (DataW H)) (before : List MemPlace)
    (hval : ∀ (j : Nat) t v, Try.f7.params[j]? = some t → args[j]? = some v → Value.okWide Try.prog W .any base t v)
    (hW : DataW.Whole enc Try.prog Try.f7.params.toList Rows.policyRoutesSpec.vars false W args.toList ds gs before)
    (hz0 : (DataW.weightsEach Try.prog (Try.f7.params.toList ++ (OpenSpec.ofChange Rows.policyRoutesSpec).bare.plain.varTypes Try.prog) (ds ++ gs)).all (· ≤ reachBytes) = true) :
    Calls Try.prog 7 args W fun e W' => ∃ v, e = .returned v ∧ Rows.policyRoutesSpec.post enc Try.prog Try.f7 false true false false W args v W' := by
  have hW' := hW
  obtain ⟨p, q, hA0, hV, rfl, hfz, hnd⟩ := hW
  have hA : DataW.TrodAll enc Try.prog W 0 (fun _ => true) true Try.f7.params.toList args.toList ds p := hA0
  rw [Try.params7] at hA hval hz0
  obtain ⟨v0, v1, v2, v3, v4, d0, d1, d2, d3, d4, p0, p1, p2, p3, p4, rfl, rfl, rfl, h0, h1, h2, h3, h4⟩ := trodAll_five hA
  obtain ⟨rfl, rfl⟩ := trodVars_none hV
  obtain ⟨ia0, ib0, ic0, id0, is0, il0, io0, im0, in_0, ip0, ir0, it0, iz0, ie0, iy0, _, iu0⟩ := open_inputsR (hval 0 26 v0 rfl rfl) h0
  subst ie0
  obtain ⟨ta0, tc0, et0⟩ := iy0.len
  subst et0
  obtain ⟨x1, s1, _⟩ := open_tracks (hval 1 27 v1 rfl rfl) h1
  obtain ⟨rp2, rs2, re2⟩ := open_road (hval 2 29 v2 rfl rfl) h2
  subst re2
  obtain ⟨x3, e3⟩ := okWide_bool Try.underlying4 (hval 3 4 v3 rfl rfl)
  subst e3
  obtain ⟨x4, rfl, rfl, rfl, wf4⟩ := open_int Try.underlying3 (hval 4 3 v4 rfl rfl) h4
  have i4 := i64_of_wf wf4
  have hc := routes_any ia0 ib0 ic0 id0 is0 il0 io0 im0 in_0 ip0 ir0 (.slice ta0 iz0.length tc0) v1 _ rp2 rs2 x3 x4 W s1 ⟨_, _, _, rfl⟩
  refine hc.mono fun e W' ⟨he, hb⟩ => ⟨_, he, ?_⟩
  exact law_post laidOut (by decide +kernel) rfl (by kernel_rfl) Try.underlying4 hW' rfl hb

set_option maxRecDepth 100000 in
theorem policyRoutes_lifted (os : Os) (started : os.Started) (H : Type) (enc : TypeId × Value → H) :
    ReturnsInHanded {} Try.checked os 7 .any (Rows.policyRoutesSpec.pre6 enc Try.prog Try.f7 Rows.policyRoutesRow.domain false) (Rows.policyRoutesSpec.post enc Try.prog Try.f7 false true false false) := by
  refine returnsInHanded_of_change_sized (C := Try.checked) own started (by kernel_rfl) Try.func7
    (ChangeSpec.witness6 (enc := enc) (C := Try.checked) false ⟨#[], #[.agg #[.bool false, .bool false, .bool false, .bool false, .bool false, .bool false, .bool false, .int .i64 0, .bool false, .bool false, .int .i64 0, .slice none 0 0], .slice none 0 0, .agg #[.int .i64 0, .int .i64 0], .bool false, .int .i64 0], []⟩ 8 (by kernel_rfl) (by kernel_rfl) (by kernel_rfl) (by kernel_rfl)) ?_
  intro W base args ds gs before hval hW _ hz _
  exact policyRoutes_contract H enc W base args ds gs before hval hW hz

theorem policyRoutes_holds : Rows.PolicyRoutesSaid :=
  OpenClaim.holds_of_wide 7 Try.f7 rfl rfl rfl rfl rfl rfl rfl ⟨rfl, rfl, rfl, rfl, rfl⟩ rfl rfl rfl rfl rfl (by kernel_rfl) Try.func7 (by kernel_rfl)
    (of_decide_eq_true (by kernel_rfl)) (by unfold Func.isWrapper; first | (rw [if_pos (by decide +kernel)]; kernel_rfl) | (rw [if_neg (by decide +kernel)]; exact ⟨rfl, rfl⟩))
    (fun os started H enc _ => policyRoutes_lifted os started H enc)
end Go.Proofs.Ytgkihalokedmaaa

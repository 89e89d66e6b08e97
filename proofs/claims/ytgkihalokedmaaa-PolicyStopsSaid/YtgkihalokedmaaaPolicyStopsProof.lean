/-
  PolicyStops is true of every input: where the store died no signal shows clear, and barriers go down: any inputs, any tracks (of more than 100 tracks the law asks its small case alone).
  Conditions: none but the form's own.
-/
import Derived.Test.YtgkihalokedmaaaOpen
import Derived.Test.YtgkihalokedmaaaStops
import Derived.Test.YtgkihalokedmaaaTkRow
import Derived.Test.YtgkihalokedmaaaSnOpen
import Derived.Test.YtgkihalokedmaaaRdOpen
import Derived.Test.YtgkihalokedmaaaPoOpen
namespace Go.Proofs.Ytgkihalokedmaaa
open Go.ChangeShapes Go.WideShapes Go.ChangeAt Go.RowKit

set_option maxRecDepth 100000 in
theorem policyStops_contract (H : Type) (enc : TypeId × Value → H) (W : World) (base : Nat) (args : Array Value) (ds gs : List (DataW H)) (before : List MemPlace)
    (hval : ∀ (j : Nat) t v, Try.f6.params[j]? = some t → args[j]? = some v → Value.okWide Try.prog W .any base t v)
    (hW : DataW.Whole enc Try.prog Try.f6.params.toList Rows.policyStopsSpec.vars false W args.toList ds gs before)
    (hz0 : (DataW.weightsEach Try.prog (Try.f6.params.toList ++ (OpenSpec.ofChange Rows.policyStopsSpec).bare.plain.varTypes Try.prog) (ds ++ gs)).all (· ≤ reachBytes) = true) :
    Calls Try.prog 6 args W fun e W' => ∃ v, e = .returned v ∧ Rows.policyStopsSpec.post enc Try.prog Try.f6 false true false false W args v W' := by
  have hW' := hW
  obtain ⟨p, q, hA0, hV, rfl, hfz, hnd⟩ := hW
  have hA : DataW.TrodAll enc Try.prog W 0 (fun _ => true) true Try.f6.params.toList args.toList ds p := hA0
  rw [Try.params6] at hA hval hz0
  obtain ⟨v0, v1, d0, d1, p0, p1, rfl, rfl, rfl, h0, h1⟩ := trodAll_two hA
  obtain ⟨rfl, rfl⟩ := trodVars_none hV
  obtain ⟨ia0, ib0, ic0, id0, is0, il0, io0, im0, in_0, ip0, ir0, it0, iz0, ie0, iy0, _, iu0⟩ := open_inputsR (hval 0 26 v0 rfl rfl) h0
  subst ie0
  obtain ⟨ta0, tc0, et0⟩ := iy0.len
  subst et0
  obtain ⟨x1, s1, _⟩ := open_tracks (hval 1 27 v1 rfl rfl) h1
  have hc := stops_any ia0 ib0 ic0 id0 is0 il0 io0 im0 in_0 ip0 ir0 (.slice ta0 iz0.length tc0) v1 _ W s1 iu0.2
  refine hc.mono fun e W' ⟨he, hb⟩ => ⟨_, he, ?_⟩
  exact law_post laidOut (by decide +kernel) rfl (by kernel_rfl) Try.underlying4 hW' rfl hb

set_option maxRecDepth 100000 in
theorem policyStops_lifted (os : Os) (started : os.Started) (H : Type) (enc : TypeId × Value → H) :
    ReturnsInHanded {} Try.checked os 6 .any (Rows.policyStopsSpec.pre6 enc Try.prog Try.f6 Rows.policyStopsRow.domain false) (Rows.policyStopsSpec.post enc Try.prog Try.f6 false true false false) := by
  refine returnsInHanded_of_change_sized (C := Try.checked) own started (by kernel_rfl) Try.func6
    (ChangeSpec.witness6 (enc := enc) (C := Try.checked) false ⟨#[], #[.agg #[.bool false, .bool false, .bool false, .bool false, .bool false, .bool false, .bool false, .int .i64 0, .bool false, .bool false, .int .i64 0, .slice none 0 0], .slice none 0 0], []⟩ 8 (by kernel_rfl) (by kernel_rfl) (by kernel_rfl) (by kernel_rfl)) ?_
  intro W base args ds gs before hval hW _ hz _
  exact policyStops_contract H enc W base args ds gs before hval hW hz

theorem policyStops_holds : Rows.PolicyStopsSaid :=
  OpenClaim.holds_of_wide 6 Try.f6 rfl rfl rfl rfl rfl rfl rfl ⟨rfl, rfl, rfl, rfl, rfl⟩ rfl rfl rfl rfl rfl (by kernel_rfl) Try.func6 (by kernel_rfl)
    (of_decide_eq_true (by kernel_rfl)) (by unfold Func.isWrapper; first | (rw [if_pos (by decide +kernel)]; kernel_rfl) | (rw [if_neg (by decide +kernel)]; exact ⟨rfl, rfl⟩))
    (fun os started H enc _ => policyStops_lifted os started H enc)
end Go.Proofs.Ytgkihalokedmaaa

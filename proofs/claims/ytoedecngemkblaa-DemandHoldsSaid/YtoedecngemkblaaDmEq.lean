/-
  Demands compared.
-/
import Derived.Test.YtoedecngemkblaaEqF
namespace Go.Proofs.Ytoedecngemkblaa
open Go.RowKit

theorem noholdDemand : Try.prog.stoodInHeld 31 = false := by kernel_rfl
theorem eq_dm (n : Nat) (a b a' b' : Bool) (w : World) : (Op.equalIn (n + 2) 31 (.agg #[.bool a, .bool b]) (.agg #[.bool a', .bool b'])).run Try.prog w = .ok (decide (a = a' ∧ b = b')) w := by
  have hf : Try.prog.underlying 31 = some (.struct (Try.prog.fieldsOf 31)) := by unfold Program.fieldsOf; rw [Try.underlying31]
  rw [run_equalIn_agg w (n + 1) 31 _ _ hf noholdDemand]
  unfold Program.fieldsOf
  rw [Try.underlying31]
  dsimp only
  rw [eqF_bool (by decide) rfl rfl rfl, eqF_bool (by decide) rfl rfl rfl]
  simp only [Op.eqFields]
  by_cases h0 : a = a'
  · rw [if_pos h0]
    by_cases h1 : b = b'
    · rw [if_pos h1, decide_eq_true ⟨h0, h1⟩]; rfl
    · rw [if_neg h1, decide_eq_false (fun h => h1 h.2)]
  · rw [if_neg h0, decide_eq_false (fun h => h0 h.1)]
theorem eql_dm (a b a' b' r : Bool) (hr : r = decide (a = a' ∧ b = b')) (w : World) : (binOp .eql 31 (.agg #[.bool a, .bool b]) (.agg #[.bool a', .bool b'])).run Try.prog w = .ok (.bool r) w := by
  rw [run_eql_struct, eq_dm 9998, hr]
  simp [Result.andThen]
/-- A demand is itself. -/
theorem eql_dms (a b : Bool) (w : World) : (binOp .eql 31 (.agg #[.bool a, .bool b]) (.agg #[.bool a, .bool b])).run Try.prog w = .ok (.bool true) w := eql_dm a b a b true (by simp) w
end Go.Proofs.Ytoedecngemkblaa

/-
  Roads and lights compared.
-/
import Derived.Test.YtgkihalokedmaaaEqF
namespace Go.Proofs.Ytgkihalokedmaaa
open Go.RowKit

theorem noholdRoad : Try.prog.stoodInHeld 29 = false := by kernel_rfl
theorem eq_rd (n : Nat) (a b a' b' : Int) (w : World) : (Op.equalIn (n + 2) 29 (.agg #[.int .i64 a, .int .i64 b]) (.agg #[.int .i64 a', .int .i64 b'])).run Try.prog w = .ok (decide (a = a' ∧ b = b')) w := by
  have hf : Try.prog.underlying 29 = some (.struct (Try.prog.fieldsOf 29)) := by unfold Program.fieldsOf; rw [Try.underlying29]
  rw [run_equalIn_agg w (n + 1) 29 _ _ hf noholdRoad]
  unfold Program.fieldsOf
  rw [Try.underlying29]
  dsimp only
  rw [eqF_int (by decide) rfl rfl rfl, eqF_int (by decide) rfl rfl rfl]
  simp only [Op.eqFields]
  by_cases h0 : a = a'
  · rw [if_pos h0]
    by_cases h1 : b = b'
    · rw [if_pos h1, decide_eq_true ⟨h0, h1⟩]; rfl
    · rw [if_neg h1, decide_eq_false (fun h => h1 h.2)]
  · rw [if_neg h0, decide_eq_false (fun h => h0 h.1)]
theorem eql_rd (a b a' b' : Int) (r : Bool) (hr : r = decide (a = a' ∧ b = b')) (w : World) : (binOp .eql 29 (.agg #[.int .i64 a, .int .i64 b]) (.agg #[.int .i64 a', .int .i64 b'])).run Try.prog w = .ok (.bool r) w := by
  rw [run_eql_struct, eq_rd 9998, hr]
  simp [Result.andThen]
theorem noholdLights : Try.prog.stoodInHeld 46 = false := by kernel_rfl
theorem eq_lt (n : Nat) (a b c d e a' b' c' d' e' : Bool) (w : World) : (Op.equalIn (n + 2) 46 (.agg #[.bool a, .bool b, .bool c, .bool d, .bool e]) (.agg #[.bool a', .bool b', .bool c', .bool d', .bool e'])).run Try.prog w = .ok (decide (a = a' ∧ b = b' ∧ c = c' ∧ d = d' ∧ e = e')) w := by
  have hf : Try.prog.underlying 46 = some (.struct (Try.prog.fieldsOf 46)) := by unfold Program.fieldsOf; rw [Try.underlying46]
  rw [run_equalIn_agg w (n + 1) 46 _ _ hf noholdLights]
  unfold Program.fieldsOf
  rw [Try.underlying46]
  dsimp only
  rw [eqF_bool (by decide) rfl rfl rfl, eqF_bool (by decide) rfl rfl rfl, eqF_bool (by decide) rfl rfl rfl, eqF_bool (by decide) rfl rfl rfl, eqF_bool (by decide) rfl rfl rfl]
  simp only [Op.eqFields]
  by_cases h0 : a = a'
  · rw [if_pos h0]
    by_cases h1 : b = b'
    · rw [if_pos h1]
      by_cases h2 : c = c'
      · rw [if_pos h2]
        by_cases h3 : d = d'
        · rw [if_pos h3]
          by_cases h4 : e = e'
          · rw [if_pos h4, decide_eq_true ⟨h0, h1, h2, h3, h4⟩]; rfl
          · rw [if_neg h4, decide_eq_false (fun h => h4 h.2.2.2.2)]
        · rw [if_neg h3, decide_eq_false (fun h => h3 h.2.2.2.1)]
      · rw [if_neg h2, decide_eq_false (fun h => h2 h.2.2.1)]
    · rw [if_neg h1, decide_eq_false (fun h => h1 h.2.1)]
  · rw [if_neg h0, decide_eq_false (fun h => h0 h.1)]
theorem eql_lt (a b c d e a' b' c' d' e' r : Bool) (hr : r = decide (a = a' ∧ b = b' ∧ c = c' ∧ d = d' ∧ e = e')) (w : World) : (binOp .eql 46 (.agg #[.bool a, .bool b, .bool c, .bool d, .bool e]) (.agg #[.bool a', .bool b', .bool c', .bool d', .bool e'])).run Try.prog w = .ok (.bool r) w := by
  rw [run_eql_struct, eq_lt 9998, hr]
  simp [Result.andThen]
end Go.Proofs.Ytgkihalokedmaaa

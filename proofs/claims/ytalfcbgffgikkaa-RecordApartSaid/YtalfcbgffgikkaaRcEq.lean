/-
  Records compared.
-/
import Derived.Test.YtalfcbgffgikkaaEqF
namespace Go.Proofs.Ytalfcbgffgikkaa
open Go.RowKit

theorem noholdRecord : Try.prog.stoodInHeld 26 = false := by kernel_rfl
theorem eq_rc (n : Nat) (a b c a' b' c' : Int) (w : World) : (Op.equalIn (n + 2) 26 (.agg #[.int .i64 a, .int .i64 b, .int .i64 c]) (.agg #[.int .i64 a', .int .i64 b', .int .i64 c'])).run Try.prog w = .ok (decide (a = a' ∧ b = b' ∧ c = c')) w := by
  have hf : Try.prog.underlying 26 = some (.struct (Try.prog.fieldsOf 26)) := by unfold Program.fieldsOf; rw [Try.underlying26]
  rw [run_equalIn_agg w (n + 1) 26 _ _ hf noholdRecord]
  unfold Program.fieldsOf
  rw [Try.underlying26]
  dsimp only
  rw [eqF_int (by decide) rfl rfl rfl, eqF_int (by decide) rfl rfl rfl, eqF_int (by decide) rfl rfl rfl]
  simp only [Op.eqFields]
  by_cases h0 : a = a'
  · rw [if_pos h0]
    by_cases h1 : b = b'
    · rw [if_pos h1]
      by_cases h2 : c = c'
      · rw [if_pos h2, decide_eq_true ⟨h0, h1, h2⟩]; rfl
      · rw [if_neg h2, decide_eq_false (fun h => h2 h.2.2)]
    · rw [if_neg h1, decide_eq_false (fun h => h1 h.2.1)]
  · rw [if_neg h0, decide_eq_false (fun h => h0 h.1)]
theorem eql_rc (a b c a' b' c' : Int) (r : Bool) (hr : r = decide (a = a' ∧ b = b' ∧ c = c')) (w : World) : (binOp .eql 26 (.agg #[.int .i64 a, .int .i64 b, .int .i64 c]) (.agg #[.int .i64 a', .int .i64 b', .int .i64 c'])).run Try.prog w = .ok (.bool r) w := by
  rw [run_eql_struct, eq_rc 9998, hr]
  simp [Result.andThen]
theorem neq_rc (a b c a' b' c' : Int) (r : Bool) (hr : r = !decide (a = a' ∧ b = b' ∧ c = c')) (w : World) : (binOp .neq 26 (.agg #[.int .i64 a, .int .i64 b, .int .i64 c]) (.agg #[.int .i64 a', .int .i64 b', .int .i64 c'])).run Try.prog w = .ok (.bool r) w := by
  rw [run_neq_struct, eq_rc 9998, hr]
  simp [Result.andThen]
end Go.Proofs.Ytalfcbgffgikkaa

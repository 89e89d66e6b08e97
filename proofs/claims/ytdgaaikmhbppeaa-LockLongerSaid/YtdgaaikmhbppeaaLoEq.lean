/-
  Signals compared.
-/
import Derived.Test.YtdgaaikmhbppeaaEqF
namespace Go.Proofs.Ytdgaaikmhbppeaa
open Go.RowKit

theorem noholdLock : Try.prog.stoodInHeld 27 = false := by kernel_rfl
theorem eq_lo (d : Nat) (a a' : Bool) (b b' : Int) (w : World) : (Op.equalIn (d + 2) 27 (.agg #[.bool a, .int .i64 b]) (.agg #[.bool a', .int .i64 b'])).run Try.prog w = .ok (decide (a = a' ∧ b = b')) w := by
  have hf : Try.prog.underlying 27 = some (.struct (Try.prog.fieldsOf 27)) := by unfold Program.fieldsOf; rw [Try.underlying27]
  rw [run_equalIn_agg w (d + 1) 27 _ _ hf noholdLock]
  unfold Program.fieldsOf
  rw [Try.underlying27]
  dsimp only
  rw [eqF_bool (by decide) rfl rfl rfl, eqF_int (by decide) rfl rfl rfl]
  simp only [Op.eqFields]
  by_cases h0 : a = a'
  · rw [if_pos h0]
    by_cases h1 : b = b'
    · rw [if_pos h1, decide_eq_true ⟨h0, h1⟩]; rfl
    · rw [if_neg h1, decide_eq_false (fun h => h1 h.2)]
  · rw [if_neg h0, decide_eq_false (fun h => h0 h.1)]
theorem eql_lo (a a' : Bool) (b b' : Int) (r : Bool) (hr : r = decide (a = a' ∧ b = b')) (w : World) : (binOp .eql 27 (.agg #[.bool a, .int .i64 b]) (.agg #[.bool a', .int .i64 b'])).run Try.prog w = .ok (.bool r) w := by
  rw [run_eql_struct, eq_lo 9998, hr]
  simp [Result.andThen]
theorem eql_los (a : Bool) (b : Int) (w : World) : (binOp .eql 27 (.agg #[.bool a, .int .i64 b]) (.agg #[.bool a, .int .i64 b])).run Try.prog w = .ok (.bool true) w := eql_lo a a b b true (by simp) w
theorem neq_lo (a a' : Bool) (b b' : Int) (r : Bool) (hr : r = decide (¬ (a = a' ∧ b = b'))) (w : World) : (binOp .neq 27 (.agg #[.bool a, .int .i64 b]) (.agg #[.bool a', .int .i64 b'])).run Try.prog w = .ok (.bool r) w := by
  rw [run_neq_struct, eq_lo 9998, hr]
  simp [Result.andThen]
theorem neq_los (a : Bool) (b : Int) (w : World) : (binOp .neq 27 (.agg #[.bool a, .int .i64 b]) (.agg #[.bool a, .int .i64 b])).run Try.prog w = .ok (.bool false) w := neq_lo a a b b false (by simp) w
end Go.Proofs.Ytdgaaikmhbppeaa

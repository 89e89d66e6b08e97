/-
  Barriers, and what is told of tracks, compared.
-/
import Derived.Test.YtnbhjnbdnngiiaaEqF
namespace Go.Proofs.Ytnbhjnbdnngiiaa
open Go.RowKit

theorem noholdBarrier : Try.prog.stoodInHeld 27 = false := by kernel_rfl
theorem noholdCounts : Try.prog.stoodInHeld 33 = false := by kernel_rfl
abbrev samB (a b c d a' b' c' d' : Bool) : Prop := a = a' ∧ b = b' ∧ c = c' ∧ d = d'
theorem eq_bar (n : Nat) (a b c d a' b' c' d' : Bool) (w : World) : (Op.equalIn (n + 2) 27 (.agg #[.bool a, .bool b, .bool c, .bool d]) (.agg #[.bool a', .bool b', .bool c', .bool d'])).run Try.prog w = .ok (decide (samB a b c d a' b' c' d')) w := by
  have hf : Try.prog.underlying 27 = some (.struct (Try.prog.fieldsOf 27)) := by unfold Program.fieldsOf; rw [Try.underlying27]
  rw [run_equalIn_agg w (n + 1) 27 _ _ hf noholdBarrier]
  unfold Program.fieldsOf
  rw [Try.underlying27]
  dsimp only
  rw [eqF_bool (by decide) rfl rfl rfl, eqF_bool (by decide) rfl rfl rfl, eqF_bool (by decide) rfl rfl rfl, eqF_bool (by decide) rfl rfl rfl]
  simp only [Op.eqFields]
  by_cases h0 : a = a'
  · rw [if_pos h0]
    by_cases h1 : b = b'
    · rw [if_pos h1]
      by_cases h2 : c = c'
      · rw [if_pos h2]
        by_cases h3 : d = d'
        · rw [if_pos h3, decide_eq_true ⟨h0, h1, h2, h3⟩]; rfl
        · rw [if_neg h3, decide_eq_false (fun h => h3 h.2.2.2)]
      · rw [if_neg h2, decide_eq_false (fun h => h2 h.2.2.1)]
    · rw [if_neg h1, decide_eq_false (fun h => h1 h.2.1)]
  · rw [if_neg h0, decide_eq_false (fun h => h0 h.1)]
theorem eql_bar (a b c d a' b' c' d' r : Bool) (hr : r = decide (samB a b c d a' b' c' d')) (w : World) : (binOp .eql 27 (.agg #[.bool a, .bool b, .bool c, .bool d]) (.agg #[.bool a', .bool b', .bool c', .bool d'])).run Try.prog w = .ok (.bool r) w := by
  rw [run_eql_struct, eq_bar 9998, hr]
  simp [Result.andThen]
theorem neq_bar (a b c d a' b' c' d' r : Bool) (hr : r = decide (¬ samB a b c d a' b' c' d')) (w : World) : (binOp .neq 27 (.agg #[.bool a, .bool b, .bool c, .bool d]) (.agg #[.bool a', .bool b', .bool c', .bool d'])).run Try.prog w = .ok (.bool r) w := by
  rw [run_neq_struct, eq_bar 9998, hr]
  simp [Result.andThen]
abbrev samC (a : Bool) (b c d e : Int) (a' : Bool) (b' c' d' e' : Int) : Prop := a = a' ∧ b = b' ∧ c = c' ∧ d = d' ∧ e = e'
theorem eq_cnt (n : Nat) (a : Bool) (b c d e : Int) (a' : Bool) (b' c' d' e' : Int) (w : World) : (Op.equalIn (n + 2) 33 (.agg #[.bool a, .int .i64 b, .int .i64 c, .int .i64 d, .int .i64 e]) (.agg #[.bool a', .int .i64 b', .int .i64 c', .int .i64 d', .int .i64 e'])).run Try.prog w = .ok (decide (samC a b c d e a' b' c' d' e')) w := by
  have hf : Try.prog.underlying 33 = some (.struct (Try.prog.fieldsOf 33)) := by unfold Program.fieldsOf; rw [Try.underlying33]
  rw [run_equalIn_agg w (n + 1) 33 _ _ hf noholdCounts]
  unfold Program.fieldsOf
  rw [Try.underlying33]
  dsimp only
  rw [eqF_bool (by decide) rfl rfl rfl, eqF_int (by decide) rfl rfl rfl, eqF_int (by decide) rfl rfl rfl, eqF_int (by decide) rfl rfl rfl, eqF_int (by decide) rfl rfl rfl]
  simp only [Op.eqFields]
  by_cases h0 : a = a'
  · rw [if_pos h0]
    by_cases h1 : b = b'
    · rw [if_pos h1]
      by_cases h2 : c = c'
      · rw [if_pos h2]
        by_cases h3 : d = d'
        · rw [if_pos h3]
          by_cases h4 : e = e'
          · rw [if_pos h4, decide_eq_true ⟨h0, h1, h2, h3, h4⟩]; rfl
          · rw [if_neg h4, decide_eq_false (fun h => h4 h.2.2.2.2)]
        · rw [if_neg h3, decide_eq_false (fun h => h3 h.2.2.2.1)]
      · rw [if_neg h2, decide_eq_false (fun h => h2 h.2.2.1)]
    · rw [if_neg h1, decide_eq_false (fun h => h1 h.2.1)]
  · rw [if_neg h0, decide_eq_false (fun h => h0 h.1)]
theorem eql_cnt (a : Bool) (b c d e : Int) (a' : Bool) (b' c' d' e' : Int) (r : Bool) (hr : r = decide (samC a b c d e a' b' c' d' e')) (w : World) : (binOp .eql 33 (.agg #[.bool a, .int .i64 b, .int .i64 c, .int .i64 d, .int .i64 e]) (.agg #[.bool a', .int .i64 b', .int .i64 c', .int .i64 d', .int .i64 e'])).run Try.prog w = .ok (.bool r) w := by
  rw [run_eql_struct, eq_cnt 9998, hr]
  simp [Result.andThen]
theorem neq_cnt (a : Bool) (b c d e : Int) (a' : Bool) (b' c' d' e' : Int) (r : Bool) (hr : r = decide (¬ samC a b c d e a' b' c' d' e')) (w : World) : (binOp .neq 33 (.agg #[.bool a, .int .i64 b, .int .i64 c, .int .i64 d, .int .i64 e]) (.agg #[.bool a', .int .i64 b', .int .i64 c', .int .i64 d', .int .i64 e'])).run Try.prog w = .ok (.bool r) w := by
  rw [run_neq_struct, eq_cnt 9998, hr]
  simp [Result.andThen]
end Go.Proofs.Ytnbhjnbdnngiiaa

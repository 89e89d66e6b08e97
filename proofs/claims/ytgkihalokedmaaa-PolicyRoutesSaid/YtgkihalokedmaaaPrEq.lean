/-
  Pairs compared.
-/
import Derived.Test.YtgkihalokedmaaaEqF
import Derived.Test.YtgkihalokedmaaaPrMath
namespace Go.Proofs.Ytgkihalokedmaaa
open Go.RowKit

theorem noholdPair : Try.prog.stoodInHeld 41 = false := by kernel_rfl
theorem eq_pr (d : Nat) (p q : Pr) (w : World) : (Op.equalIn (d + 2) 41 (.agg (prv p)) (.agg (prv q))).run Try.prog w = .ok (decide (p.lie = q.lie ∧ p.pos = q.pos ∧ p.jump = q.jump)) w := by
  have hf : Try.prog.underlying 41 = some (.struct (Try.prog.fieldsOf 41)) := by unfold Program.fieldsOf; rw [Try.underlying41]
  rw [run_equalIn_agg w (d + 1) 41 _ _ hf noholdPair]
  unfold Program.fieldsOf
  rw [Try.underlying41]
  dsimp only
  rw [eqF_int (by decide) rfl rfl rfl, eqF_int (by decide) rfl rfl rfl, eqF_bool (by decide) rfl rfl rfl]
  simp only [Op.eqFields]
  by_cases h0 : p.lie = q.lie
  · rw [if_pos h0]
    by_cases h1 : p.pos = q.pos
    · rw [if_pos h1]
      by_cases h2 : p.jump = q.jump
      · rw [if_pos h2, decide_eq_true ⟨h0, h1, h2⟩]; rfl
      · rw [if_neg h2, decide_eq_false (fun h => h2 h.2.2)]
    · rw [if_neg h1, decide_eq_false (fun h => h1 h.2.1)]
  · rw [if_neg h0, decide_eq_false (fun h => h0 h.1)]
theorem eql_pr (p q : Pr) (r : Bool) (hr : r = decide (p.lie = q.lie ∧ p.pos = q.pos ∧ p.jump = q.jump)) (w : World) : (binOp .eql 41 (.agg (prv p)) (.agg (prv q))).run Try.prog w = .ok (.bool r) w := by
  rw [run_eql_struct, eq_pr 9998, hr]
  simp [Result.andThen]
/-- .. written out. -/
theorem eql_same (l s : Int) (j : Bool) (w : World) : (binOp .eql 41 (.agg #[.int .i64 l, .int .i64 s, .bool j]) (.agg #[.int .i64 l, .int .i64 s, .bool j])).run Try.prog w = .ok (.bool true) w :=
  eql_pr ⟨l, s, j⟩ ⟨l, s, j⟩ true (by simp) w
end Go.Proofs.Ytgkihalokedmaaa

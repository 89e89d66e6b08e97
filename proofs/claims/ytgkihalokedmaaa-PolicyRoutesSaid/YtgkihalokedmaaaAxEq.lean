/-
  Counters compared.
-/
import Derived.Test.YtgkihalokedmaaaEqF
import Derived.Test.YtgkihalokedmaaaAxMath
namespace Go.Proofs.Ytgkihalokedmaaa
open Go.RowKit

theorem noholdAxle : Try.prog.stoodInHeld 39 = false := by kernel_rfl
theorem eq_ax (d : Nat) (p q : Ax) (w : World) : (Op.equalIn (d + 2) 39 (.agg (axv p)) (.agg (axv q))).run Try.prog w = .ok (decide (p.had = q.had ∧ p.i = q.i ∧ p.o = q.o ∧ p.wrong = q.wrong)) w := by
  have hf : Try.prog.underlying 39 = some (.struct (Try.prog.fieldsOf 39)) := by unfold Program.fieldsOf; rw [Try.underlying39]
  rw [run_equalIn_agg w (d + 1) 39 _ _ hf noholdAxle]
  unfold Program.fieldsOf
  rw [Try.underlying39]
  dsimp only
  rw [eqF_bool (by decide) rfl rfl rfl, eqF_int (by decide) rfl rfl rfl, eqF_int (by decide) rfl rfl rfl, eqF_bool (by decide) rfl rfl rfl]
  simp only [Op.eqFields]
  by_cases h0 : p.had = q.had
  · rw [if_pos h0]
    by_cases h1 : p.i = q.i
    · rw [if_pos h1]
      by_cases h2 : p.o = q.o
      · rw [if_pos h2]
        by_cases h3 : p.wrong = q.wrong
        · rw [if_pos h3, decide_eq_true ⟨h0, h1, h2, h3⟩]; rfl
        · rw [if_neg h3, decide_eq_false (fun h => h3 h.2.2.2)]
      · rw [if_neg h2, decide_eq_false (fun h => h2 h.2.2.1)]
    · rw [if_neg h1, decide_eq_false (fun h => h1 h.2.1)]
  · rw [if_neg h0, decide_eq_false (fun h => h0 h.1)]
theorem eql_ax (p q : Ax) (r : Bool) (hr : r = decide (p.had = q.had ∧ p.i = q.i ∧ p.o = q.o ∧ p.wrong = q.wrong)) (w : World) : (binOp .eql 39 (.agg (axv p)) (.agg (axv q))).run Try.prog w = .ok (.bool r) w := by
  rw [run_eql_struct, eq_ax 9998, hr]
  simp [Result.andThen]
/-- .. written out. -/
theorem eql_axle (h : Bool) (i o : Int) (g : Bool) (w : World) : (binOp .eql 39 (.agg #[.bool h, .int .i64 i, .int .i64 o, .bool g]) (.agg #[.bool h, .int .i64 i, .int .i64 o, .bool g])).run Try.prog w = .ok (.bool true) w :=
  eql_ax ⟨h, i, o, g⟩ ⟨h, i, o, g⟩ true (by simp) w
end Go.Proofs.Ytgkihalokedmaaa

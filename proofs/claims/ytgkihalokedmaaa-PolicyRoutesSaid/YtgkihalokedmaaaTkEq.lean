/-
  A track compared with itself.
-/
import Derived.Test.YtgkihalokedmaaaAxEq
import Derived.Test.YtgkihalokedmaaaPrEq
namespace Go.Proofs.Ytgkihalokedmaaa
open Go.RowKit

theorem noholdTrack : Try.prog.stoodInHeld 43 = false := by kernel_rfl
theorem part_tkA (h : Bool) (i o : Int) (g : Bool) (l s : Int) (j cl : Bool) (n : Int) (f c : Bool) (w : World) : (part 39 #[.bool h, .int .i64 i, .int .i64 o, .bool g, .int .i64 l, .int .i64 s, .bool j, .bool cl, .int .i64 n, .bool f, .bool c] 0).run Try.prog w = .ok (.agg #[.bool h, .int .i64 i, .int .i64 o, .bool g]) w := by kernel_rfl
theorem part_tkP (h : Bool) (i o : Int) (g : Bool) (l s : Int) (j cl : Bool) (n : Int) (f c : Bool) (w : World) : (part 41 #[.bool h, .int .i64 i, .int .i64 o, .bool g, .int .i64 l, .int .i64 s, .bool j, .bool cl, .int .i64 n, .bool f, .bool c] 4).run Try.prog w = .ok (.agg #[.int .i64 l, .int .i64 s, .bool j]) w := by kernel_rfl
theorem eq_axle (d : Nat) (h : Bool) (i o : Int) (g : Bool) (w : World) : (Op.equalIn (d + 2) 39 (.agg #[.bool h, .int .i64 i, .int .i64 o, .bool g]) (.agg #[.bool h, .int .i64 i, .int .i64 o, .bool g])).run Try.prog w = .ok true w := by
  have := eq_ax d ⟨h, i, o, g⟩ ⟨h, i, o, g⟩ w
  simpa using this
theorem eq_pair (d : Nat) (l s : Int) (j : Bool) (w : World) : (Op.equalIn (d + 2) 41 (.agg #[.int .i64 l, .int .i64 s, .bool j]) (.agg #[.int .i64 l, .int .i64 s, .bool j])).run Try.prog w = .ok true w := by
  have := eq_pr d ⟨l, s, j⟩ ⟨l, s, j⟩ w
  simpa using this
theorem eq_tk (d : Nat) (h : Bool) (i o : Int) (g : Bool) (l s : Int) (j cl : Bool) (n : Int) (f c : Bool) (w : World) : (Op.equalIn (d + 3) 43 (.agg #[.bool h, .int .i64 i, .int .i64 o, .bool g, .int .i64 l, .int .i64 s, .bool j, .bool cl, .int .i64 n, .bool f, .bool c]) (.agg #[.bool h, .int .i64 i, .int .i64 o, .bool g, .int .i64 l, .int .i64 s, .bool j, .bool cl, .int .i64 n, .bool f, .bool c])).run Try.prog w = .ok true w := by
  have hf : Try.prog.underlying 43 = some (.struct (Try.prog.fieldsOf 43)) := by unfold Program.fieldsOf; rw [Try.underlying43]
  rw [run_equalIn_agg w (d + 2) 43 _ _ hf noholdTrack]
  unfold Program.fieldsOf
  rw [Try.underlying43]
  dsimp only
  rw [Op.eqFields, if_pos (by decide)]
  simp only [Sem.run_bind, part_tkA, Result.andThen_ok, eq_axle, Bool.not_true, Bool.false_eq_true, if_false]
  rw [Op.eqFields, if_pos (by decide)]
  simp only [Sem.run_bind, part_tkP, Result.andThen_ok, eq_pair, Bool.not_true, Bool.false_eq_true, if_false]
  rw [eqF_bool (by decide) rfl rfl rfl, if_pos rfl, eqF_int (by decide) rfl rfl rfl, if_pos rfl, eqF_bool (by decide) rfl rfl rfl, if_pos rfl, eqF_bool (by decide) rfl rfl rfl, if_pos rfl]
  simp only [Op.eqFields]
  rfl
theorem eql_tk (h : Bool) (i o : Int) (g : Bool) (l s : Int) (j cl : Bool) (n : Int) (f c : Bool) (w : World) : (binOp .eql 43 (.agg #[.bool h, .int .i64 i, .int .i64 o, .bool g, .int .i64 l, .int .i64 s, .bool j, .bool cl, .int .i64 n, .bool f, .bool c]) (.agg #[.bool h, .int .i64 i, .int .i64 o, .bool g, .int .i64 l, .int .i64 s, .bool j, .bool cl, .int .i64 n, .bool f, .bool c])).run Try.prog w = .ok (.bool true) w := by
  rw [run_eql_struct, eq_tk 9997]
  simp [Result.andThen]
theorem neq_tk (h : Bool) (i o : Int) (g : Bool) (l s : Int) (j cl : Bool) (n : Int) (f c : Bool) (w : World) : (binOp .neq 43 (.agg #[.bool h, .int .i64 i, .int .i64 o, .bool g, .int .i64 l, .int .i64 s, .bool j, .bool cl, .int .i64 n, .bool f, .bool c]) (.agg #[.bool h, .int .i64 i, .int .i64 o, .bool g, .int .i64 l, .int .i64 s, .bool j, .bool cl, .int .i64 n, .bool f, .bool c])).run Try.prog w = .ok (.bool false) w := by
  rw [run_neq_struct, eq_tk 9997]
  simp [Result.andThen]
end Go.Proofs.Ytgkihalokedmaaa

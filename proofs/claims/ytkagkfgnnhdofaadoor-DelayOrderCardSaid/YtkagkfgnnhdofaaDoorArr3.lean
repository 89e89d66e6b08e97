/-
  Arrays of three ints compared.
-/
import Derived.Test.YtkagkfgnnhdofaaDoorCore
import Derived.ChangeKeysEq
import Derived.Laws.StructEq
namespace Go.Proofs.YtkagkfgnnhdofaaDoor
open Go.RowKit

theorem plainInt : Tryd.prog.plainKey 3 = true := by kernel_rfl
theorem eqI_int {d : Nat} {xs ys : Array Value} {i : Nat} {is : List Nat} {a b : Int} (ha : xs[i]? = some (.int .i64 a)) (hb : ys[i]? = some (.int .i64 b)) (w : World) :
    (Op.eqItems (d + 1) 3 1 xs ys (i :: is)).run Tryd.prog w = if a = b then (Op.eqItems (d + 1) 3 1 xs ys is).run Tryd.prog w else .ok false w := by
  have e1 := run_part_plain w plainInt ha
  have e2 := run_part_plain w plainInt hb
  rw [Op.eqItems, Nat.mul_one]
  simp only [Sem.run_bind, e1, e2, Result.andThen_ok, run_equalIn_int w d 3 .i64 .i64 a b Tryd.underlying3]
  by_cases h : a = b
  · rw [if_pos h, beq_iff_eq.2 h]
    simp
  · rw [if_neg h, beq_eq_false_iff_ne.2 h]
    simp
theorem infoInt : (Tryd.prog.info? 3).isSome = true := by kernel_rfl
theorem cellsInt1 : Tryd.prog.cellsOf 3 = 1 := by kernel_rfl
theorem eq_arr3 (d : Nat) (a b c a' b' c' : Int) (w : World) : (Op.equalIn (d + 2) 32 (.agg #[.int .i64 a, .int .i64 b, .int .i64 c]) (.agg #[.int .i64 a', .int .i64 b', .int .i64 c'])).run Tryd.prog w = .ok (decide (a = a' ∧ b = b' ∧ c = c')) w := by
  obtain ⟨i, hi⟩ := Option.isSome_iff_exists.1 infoInt
  rw [run_equalIn_array w (d + 1) _ _ Tryd.underlying32 hi, cellsInt1, show List.range 3 = [0, 1, 2] from rfl, eqI_int rfl rfl, eqI_int rfl rfl, eqI_int rfl rfl]
  by_cases h0 : a = a'
  · rw [if_pos h0]
    by_cases h1 : b = b'
    · rw [if_pos h1]
      by_cases h2 : c = c'
      · rw [if_pos h2, decide_eq_true ⟨h0, h1, h2⟩]; rfl
      · rw [if_neg h2, decide_eq_false (fun h => h2 h.2.2)]
    · rw [if_neg h1, decide_eq_false (fun h => h1 h.2.1)]
  · rw [if_neg h0, decide_eq_false (fun h => h0 h.1)]
theorem eql_arr3 (a b c a' b' c' : Int) (r : Bool) (hr : r = decide (a = a' ∧ b = b' ∧ c = c')) (w : World) : (binOp .eql 32 (.agg #[.int .i64 a, .int .i64 b, .int .i64 c]) (.agg #[.int .i64 a', .int .i64 b', .int .i64 c'])).run Tryd.prog w = .ok (.bool r) w := by
  rw [run_eql_struct, eq_arr3 9998, hr]
  simp [Result.andThen]
theorem neq_arr3 (a b c a' b' c' : Int) (r : Bool) (hr : r = decide (¬ (a = a' ∧ b = b' ∧ c = c'))) (w : World) : (binOp .neq 32 (.agg #[.int .i64 a, .int .i64 b, .int .i64 c]) (.agg #[.int .i64 a', .int .i64 b', .int .i64 c'])).run Tryd.prog w = .ok (.bool r) w := by
  rw [run_neq_struct, eq_arr3 9998, hr]
  simp [Result.andThen]
end Go.Proofs.YtkagkfgnnhdofaaDoor

/-
  One field that is a number or a bool, of structs that are compared.
-/
import Derived.Test.YtalfcbgffgikkaaCore
import Derived.ChangeKeysEq
import Derived.Laws.StructEq
namespace Go.Proofs.Ytalfcbgffgikkaa
open Go.RowKit

theorem plainInt : Try.prog.plainKey 3 = true := by kernel_rfl
theorem eqF_int {d : Nat} {xs ys : Array Value} {f : Field} {fs : List Field} {a b : Int} (hn : f.name ≠ "_") (ht : f.type = 3) (ha : xs[f.offset]? = some (.int .i64 a)) (hb : ys[f.offset]? = some (.int .i64 b)) (w : World) :
    (Op.eqFields (d + 1) xs ys (f :: fs)).run Try.prog w = if a = b then (Op.eqFields (d + 1) xs ys fs).run Try.prog w else .ok false w := by
  have e1 := run_part_plain w plainInt ha
  have e2 := run_part_plain w plainInt hb
  rw [Op.eqFields, if_pos hn, ht]
  simp only [Sem.run_bind, e1, e2, Result.andThen_ok, run_equalIn_int w d 3 .i64 .i64 a b Try.underlying3]
  by_cases h : a = b
  · rw [if_pos h, beq_iff_eq.2 h]
    simp
  · rw [if_neg h, beq_eq_false_iff_ne.2 h]
    simp
theorem plainBool : Try.prog.plainKey 4 = true := by kernel_rfl
theorem eqF_bool {d : Nat} {xs ys : Array Value} {f : Field} {fs : List Field} {a b : Bool} (hn : f.name ≠ "_") (ht : f.type = 4) (ha : xs[f.offset]? = some (.bool a)) (hb : ys[f.offset]? = some (.bool b)) (w : World) :
    (Op.eqFields (d + 1) xs ys (f :: fs)).run Try.prog w = if a = b then (Op.eqFields (d + 1) xs ys fs).run Try.prog w else .ok false w := by
  have e1 := run_part_plain w plainBool ha
  have e2 := run_part_plain w plainBool hb
  rw [Op.eqFields, if_pos hn, ht]
  simp only [Sem.run_bind, e1, e2, Result.andThen_ok, run_equalIn_bool' w d 4 a b Try.underlying4]
  by_cases h : a = b
  · rw [if_pos h, beq_iff_eq.2 h]
    simp
  · rw [if_neg h, beq_eq_false_iff_ne.2 h]
    simp
end Go.Proofs.Ytalfcbgffgikkaa

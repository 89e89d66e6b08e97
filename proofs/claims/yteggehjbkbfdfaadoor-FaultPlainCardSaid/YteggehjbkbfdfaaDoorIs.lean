/-
  errors.Is by contracts: of two numbers (api.Errno); of a place, against a number or against the error behind it.
-/
import Derived.Test.YteggehjbkbfdfaaDoorAsC
namespace Go.Proofs.YteggehjbkbfdfaaDoor
open Go.RowKit Go.Extern.Stop Go.Stop Go.Extern

theorem methodComparable (v : Value) (w : World) : (Go.method 243 70 v "Comparable").run Tryd.prog w = .ok (83, v) w := by kernel_rfl
theorem methodIsP (v : Value) (w : World) : (Go.method 243 45 v "Is").run Tryd.prog w = .ok (65, v) w := by kernel_rfl
theorem xCompE (w : World) : (callFunc 83 #[.agg #[.pointer (some ⟨5, 24, none⟩)]]).run Tryd.prog w = .ok (.value (.bool true)) w := by kernel_rfl
theorem xCompS (w : World) : (callFunc 83 #[.agg #[.pointer (some ⟨5, 65, none⟩)]]).run Tryd.prog w = .ok (.value (.bool true)) w := by kernel_rfl
theorem compE : (Tryd.prog.info? 24).map (·.comparable) = some true := by kernel_rfl
theorem compPS : (Tryd.prog.info? 65).map (·.comparable) = some true := by kernel_rfl
theorem sizeS : (Tryd.prog.info? 67).map (·.size) = some 1 := by kernel_rfl
theorem noIsE (v : Value) (xT : TypeId) (w : World) : (Instr.typeAssert (.iface 24 v) xT 72 true).run Tryd.prog w = .ok (.tuple #[.nilIface, .bool false]) w := run_typeAssert_lacksB Tryd.underlying72 (by kernel_rfl) (by kernel_rfl) v xT w
theorem noUnwrapE (v : Value) (xT : TypeId) (w : World) : (Instr.typeAssert (.iface 24 v) xT 75 true).run Tryd.prog w = .ok (.tuple #[.nilIface, .bool false]) w := run_typeAssert_lacksB Tryd.underlying75 (by kernel_rfl) (by kernel_rfl) v xT w
theorem noUnwrapsE (v : Value) (xT : TypeId) (w : World) : (Instr.typeAssert (.iface 24 v) xT 77 true).run Tryd.prog w = .ok (.tuple #[.nilIface, .bool false]) w := run_typeAssert_lacksB Tryd.underlying77 (by kernel_rfl) (by kernel_rfl) v xT w
theorem hasIsP (v : Value) (xT : TypeId) (w : World) : (Instr.typeAssert (.iface 45 v) xT 72 true).run Tryd.prog w = .ok (.tuple #[.iface 45 v, .bool true]) w := run_typeAssert_hasB Tryd.underlying72 (by kernel_rfl) v xT w

/-- '==' of two errors that are numbers: as the numbers are. -/
theorem eqlE (a b : Int) (w : World) : (binOp .eql 26 (.iface 24 (.int .i64 a)) (.iface 24 (.int .i64 b))).run Tryd.prog w = .ok (.bool (a == b)) w := by
  obtain ⟨i, hi, hc⟩ := Option.map_eq_some_iff.1 compE
  have h : ∀ d, (Op.equalIn (d + 2) 26 (.iface 24 (.int .i64 a)) (.iface 24 (.int .i64 b))).run Tryd.prog w = .ok (a == b) w := by
    intro d
    simp [Op.equalIn, run_underlying Tryd.underlying26, run_underlying Tryd.underlying24, typeInfo, hi, hc]
  have h2 := h 9998
  simp only [binOp]
  simp [Op.equal, Op.maxDepth, h2]

set_option maxHeartbeats 4000000 in
theorem is_num (a b : Int) (w : World) :
    Calls Tryd.prog 16 #[.iface 24 (.int .i64 a), .iface 24 (.int .i64 b)] w fun e w' => e = .returned (.bool (a == b)) ∧ w = w' := by
  have x1 := xTypeOf
  have x2 := xCompE
  have t1 := typeOfE
  have m1 := methodComparable
  have n1 := noIsE
  have n2 := noUnwrapE
  have n3 := noUnwrapsE
  have q := eqlE a b
  by_cases hab : a = b
  · subst hab
    have hb : (a == a) = true := by simp
    go_enter Tryd.func16, Tryd.ntmps16
    go_wp2
    refine wp_loop_rounds 1 ?_
    rw [rounds_succ]
    go_wp2
    go_ret
    exact ⟨by simp, rfl⟩
  · have hb : (a == b) = false := by simp [hab]
    go_enter Tryd.func16, Tryd.ntmps16
    go_wp2
    refine wp_loop_rounds 1 ?_
    rw [rounds_succ]
    go_wp2
    go_ret
    refine ⟨?_, rfl⟩
    rw [hb]
    rfl

theorem assertE (v : Value) (xT : TypeId) (w : World) : (Instr.typeAssert (.iface 24 v) xT 24 true).run Tryd.prog w = .ok (.tuple #[v, .bool true]) w := by kernel_rfl
theorem assertES (v : Value) (xT : TypeId) (w : World) : (Instr.typeAssert (.iface 65 v) xT 24 true).run Tryd.prog w = .ok (.tuple #[.int .i64 0, .bool false]) w := by kernel_rfl

theorem pIs_num (b : Nat) (n : Int) (w : World) (h1 : w.cell? ⟨b, 1, none⟩ = some (.int .i64 n)) :
    Calls Tryd.prog 65 #[.pointer (some ⟨b, 0, none⟩), .iface 24 (.int .i64 n)] w fun e w' => e = .returned (.bool true) ∧ w = w' := by
  have a1 := assertE
  have hb : (n == n) = true := by simp
  go_enter Tryd.func65, Tryd.ntmps65
  go_wp2
  go_ret
  exact ⟨by simp, rfl⟩

theorem pIs_other (b : Nat) (x : Value) (w : World) :
    Calls Tryd.prog 65 #[.pointer (some ⟨b, 0, none⟩), .iface 65 x] w fun e w' => e = .returned (.bool false) ∧ w = w' := by
  have a1 := assertES
  go_enter Tryd.func65, Tryd.ntmps65
  go_wp2
  go_ret
  exact ⟨rfl, rfl⟩

set_option maxHeartbeats 4000000 in
set_option maxRecDepth 100000 in
theorem is_place (b : Nat) (n : Int) (w : World) (h1 : w.cell? ⟨b, 1, none⟩ = some (.int .i64 n)) :
    Calls Tryd.prog 16 #[.iface 45 (.pointer (some ⟨b, 0, none⟩)), .iface 24 (.int .i64 n)] w fun e w' => e = .returned (.bool true) ∧ w = w' := by
  have x1 := xTypeOf
  have x2 := xCompE
  have t1 := typeOfE
  have m1 := methodComparable
  have m2 := methodIsP
  have n1 := hasIsP
  have q := run_eql_iface_types (P := Tryd.prog) 45 24 (.pointer (some ⟨b, 0, none⟩)) (.int .i64 n) Tryd.underlying26 (by decide) w
  go_enter Tryd.func16, Tryd.ntmps16
  go_wp2
  refine wp_loop_rounds 1 ?_
  rw [rounds_succ]
  go_wp2_with (go_at_call 65; refine (pIs_num _ _ _ h1).mono ?_; rintro e w' ⟨rfl, rfl⟩)
  go_wp2
  go_ret
  exact ⟨rfl, rfl⟩

set_option maxHeartbeats 4000000 in
set_option maxRecDepth 100000 in
theorem is_behind (b : Nat) (a : Addr) (w : World) (h2 : w.cell? ⟨b, 2, none⟩ = some (.iface 65 (.pointer (some a)))) :
    Calls Tryd.prog 16 #[.iface 45 (.pointer (some ⟨b, 0, none⟩)), .iface 65 (.pointer (some a))] w fun e w' => e = .returned (.bool true) ∧ w = w' := by
  obtain ⟨i, hi, hcmp⟩ := Option.map_eq_some_iff.1 compPS
  obtain ⟨j, hj, hjs⟩ := Option.map_eq_some_iff.1 sizeS
  have x1 := xTypeOf
  have x2 := xCompS
  have t1 := typeOfS
  have m1 := methodComparable
  have m2 := methodIsP
  have m3 := methodUnwrapP
  have n1 := hasIsP
  have n2 := hasUnwrapP
  have q := run_eql_iface_types (P := Tryd.prog) 45 65 (.pointer (some ⟨b, 0, none⟩)) (.pointer (some a)) Tryd.underlying26 (by decide) w
  have q2 := run_eql_iface_ptr_same (P := Tryd.prog) w a Tryd.underlying26 Tryd.underlying65 hi hcmp hj
  go_enter Tryd.func16, Tryd.ntmps16
  go_wp2
  refine wp_loop_rounds 2 ?_
  rw [rounds_succ]
  go_wp2_with (first | (go_at_call 65; refine (pIs_other _ _ _).mono ?_; rintro e w' ⟨rfl, rfl⟩) | (go_at_call 66; refine (pUnwrap_any _ _ _ h2).mono ?_; rintro e w' ⟨rfl, rfl⟩))
  rw [rounds_succ]
  go_wp2
  go_ret
  exact ⟨rfl, rfl⟩
end Go.Proofs.YteggehjbkbfdfaaDoor

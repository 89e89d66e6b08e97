/-
  Errors of fault's own: made by New, told by Code.
-/
import Derived.Test.YtdgehinmkbhjlaaDoorCore
import Derived.WalkKit
import Derived.Lib.Hide
namespace Go.Proofs.YtdgehinmkbhjlaaDoor
open Go.RowKit

/-- An error of the code k. -/
theorem new_form (k : Int) (hk : (k == 0) = false) (s : ByteArray) (w : World) :
    Calls Tryd.prog 18 #[.int .i64 k, .string s] w fun e w' => ∃ g, w.heap.size ≤ g ∧ e = .returned (.iface 50 (.pointer (some ⟨g, 0, none⟩))) ∧ w'.cell? ⟨g, 1, none⟩ = some (.int .i64 k) ∧ Below w.heap.size w w' := by
  go_enter Tryd.func18, Tryd.ntmps18
  go_wp2
  go_ret
  exact ⟨_, Nat.le_refl _, rfl, by simp, below_alloc (Below.refl _ w) _⟩
theorem assertPP (v : Value) (xT : TypeId) (w : World) : (Instr.typeAssert (.iface 50 v) xT 50 true).run Tryd.prog w = .ok (.tuple #[v, .bool true]) w := by kernel_rfl
theorem code_place (b : Nat) (n : Int) (w : World) (h1 : w.cell? ⟨b, 1, none⟩ = some (.int .i64 n)) :
    Calls Tryd.prog 14 #[.iface 50 (.pointer (some ⟨b, 0, none⟩))] w fun e w' => e = .returned (.int .i64 n) ∧ w = w' := by
  have a1 := assertPP
  go_enter Tryd.func14, Tryd.ntmps14
  go_wp2
  go_ret
  exact ⟨rfl, rfl⟩
theorem code_nil (w : World) :
    Calls Tryd.prog 14 #[.nilIface] w fun e w' => e = .returned (.int .i64 0) ∧ w = w' := by
  go_enter Tryd.func14, Tryd.ntmps14
  go_wp2
  go_ret
  exact ⟨rfl, rfl⟩
end Go.Proofs.YtdgehinmkbhjlaaDoor

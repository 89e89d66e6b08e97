/-
  Errors of fault's own: made by New, told by Code.
-/
import Derived.WalkKit
import Derived.Lib.Hide
import Derived.Test.YtekackglcapppaaGreatDoorCore

namespace Go.Proofs.YtekackglcapppaaGreatDoor
open Go.RowKit

/-- An error of the code k. -/
theorem new_form (k : Int) (hk : (k == 0) = false) (s : ByteArray) (w : World) :
    Calls Tryz.prog 38 #[.int .i64 k, .string s] w fun e w' => ∃ g, w.heap.size ≤ g ∧ e = .returned (.iface 66 (.pointer (some ⟨g, 0, none⟩))) ∧ w'.cell? ⟨g, 1, none⟩ = some (.int .i64 k) ∧ Below w.heap.size w w' := by
  go_enter Tryz.func38, Tryz.ntmps38
  go_wp2
  go_ret
  exact ⟨_, Nat.le_refl _, rfl, by simp, below_alloc (Below.refl _ w) _⟩
/-- The same, with what lies behind the place: the number itself. -/
theorem new_form2 (k : Int) (hk : (k == 0) = false) (s : ByteArray) (w : World) :
    Calls Tryz.prog 38 #[.int .i64 k, .string s] w fun e w' => ∃ g, w.heap.size ≤ g ∧ e = .returned (.iface 66 (.pointer (some ⟨g, 0, none⟩))) ∧ (w'.cell? ⟨g, 1, none⟩ = some (.int .i64 k) ∧ w'.cell? ⟨g, 2, none⟩ = some (.iface 36 (.int .i64 k))) ∧ Below w.heap.size w w' := by
  go_enter Tryz.func38, Tryz.ntmps38
  go_wp2
  go_ret
  exact ⟨_, Nat.le_refl _, rfl, ⟨by simp, by simp⟩, below_alloc (Below.refl _ w) _⟩
theorem assertPP (v : Value) (xT : TypeId) (w : World) : (Instr.typeAssert (.iface 66 v) xT 66 true).run Tryz.prog w = .ok (.tuple #[v, .bool true]) w := by kernel_rfl
theorem code_place (b : Nat) (n : Int) (w : World) (h1 : w.cell? ⟨b, 1, none⟩ = some (.int .i64 n)) :
    Calls Tryz.prog 9 #[.iface 66 (.pointer (some ⟨b, 0, none⟩))] w fun e w' => e = .returned (.int .i64 n) ∧ w = w' := by
  have a1 := assertPP
  go_enter Tryz.func9, Tryz.ntmps9
  go_wp2
  go_ret
  exact ⟨rfl, rfl⟩
theorem code_nil (w : World) :
    Calls Tryz.prog 9 #[.nilIface] w fun e w' => e = .returned (.int .i64 0) ∧ w = w' := by
  go_enter Tryz.func9, Tryz.ntmps9
  go_wp2
  go_ret
  exact ⟨rfl, rfl⟩
/-- The error v is of the code k (0: none). -/
def ErrV (w : World) (v : Value) (k : Int) : Prop := (v = .nilIface ∧ k = 0) ∨ ∃ g, k ≠ 0 ∧ v = .iface 66 (.pointer (some ⟨g, 0, none⟩)) ∧ w.cell? ⟨g, 1, none⟩ = some (.int .i64 k)
theorem ErrV.below {w w' : World} {v : Value} {k : Int} (h : ErrV w v k) (hb : Below w.heap.size w w') : ErrV w' v k := by
  rcases h with h | ⟨g, h0, h1, h2⟩
  · exact .inl h
  · exact .inr ⟨g, h0, h1, below_cell hb h2⟩
theorem code_err {w : World} {v : Value} {k : Int} (h : ErrV w v k) : Calls Tryz.prog 9 #[v] w fun e w' => e = .returned (.int .i64 k) ∧ w = w' := by
  rcases h with ⟨rfl, rfl⟩ | ⟨g, _, rfl, h⟩
  · exact code_nil w
  · exact code_place g k w h
theorem ErrV.nil {w : World} {v : Value} (h : ErrV w v 0) : v = .nilIface := by
  rcases h with ⟨h, _⟩ | ⟨g, h0, _⟩
  · exact h
  · exact absurd rfl h0
theorem ErrV.not {w : World} {v : Value} {k : Int} (h : ErrV w v k) (hk : k ≠ 0) : ∃ g, v = .iface 66 (.pointer (some ⟨g, 0, none⟩)) ∧ w.cell? ⟨g, 1, none⟩ = some (.int .i64 k) := by
  rcases h with ⟨_, h⟩ | ⟨g, _, h1, h2⟩
  · exact absurd h hk
  · exact ⟨g, h1, h2⟩
end Go.Proofs.YtekackglcapppaaGreatDoor

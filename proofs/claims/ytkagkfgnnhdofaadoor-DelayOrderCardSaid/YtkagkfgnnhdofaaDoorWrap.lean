/-
  fault.Wrap of an error that is none, or one of fault's own.
-/
import Derived.Test.YtkagkfgnnhdofaaDoorErrs
namespace Go.Proofs.YtkagkfgnnhdofaaDoor
open Go.RowKit

theorem wrap_nil (s : ByteArray) (w : World) : Calls Tryd.prog 28 #[.nilIface, .string s] w fun e w' => e = .returned .nilIface ∧ w = w' := by
  go_enter Tryd.func28, Tryd.ntmps28
  go_wp2_with fail
  go_ret
  exact ⟨rfl, rfl⟩
theorem wrap_place (b : Nat) (k : Int) (hk : k ≠ 0) (s : ByteArray) (w : World) (h1 : w.cell? ⟨b, 1, none⟩ = some (.int .i64 k)) :
    Calls Tryd.prog 28 #[.iface 55 (.pointer (some ⟨b, 0, none⟩)), .string s] w fun e w' => ∃ r, e = .returned r ∧ ErrV w' r k ∧ Below w.heap.size w w' := by
  have HC := Lib.hid (code_place b k w h1)
  have HK := Lib.hid hk
  clear h1 hk
  go_enter Tryd.func28, Tryd.ntmps28
  go_wp2_with fail
  (with_reducible refine HC.out.mono ?_)
  rintro e w1 ⟨rfl, rfl⟩
  go_wp2_with fail
  go_ret
  exact ⟨_, rfl, .inr ⟨_, HK.out, rfl, by simp⟩, below_alloc (Below.refl _ w) _⟩
theorem wrap_any {w : World} {v : Value} {k : Int} (h : ErrV w v k) (s : ByteArray) : Calls Tryd.prog 28 #[v, .string s] w fun e w' => ∃ r, e = .returned r ∧ ErrV w' r k ∧ Below w.heap.size w w' := by
  rcases h with ⟨rfl, rfl⟩ | ⟨g, h0, rfl, h⟩
  · exact (wrap_nil s w).mono fun e w' ⟨he, hw⟩ => ⟨_, he, .inl ⟨rfl, rfl⟩, by rw [hw]; exact Below.refl _ _⟩
  · exact wrap_place g k h0 s w h
end Go.Proofs.YtkagkfgnnhdofaaDoor

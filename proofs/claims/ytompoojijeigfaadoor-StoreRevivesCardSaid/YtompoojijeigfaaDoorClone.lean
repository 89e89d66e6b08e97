/-
  bytes.Clone by contract.
-/
import Derived.Test.YtompoojijeigfaaDoorBytes
import Derived.WalkSpells
namespace Go.Proofs.YtompoojijeigfaaDoor
open Go.RowKit

theorem clone_any (v : Value) (xs : List (BitVec 8)) (w : World) (hv : Byts w v xs) (hl : xs.length ≤ 1000000) :
    Calls Tryd.prog 21 #[v] w fun e w' => ∃ r, e = .returned r ∧ Own w' w.heap.size r xs ∧ Below w.heap.size w w' := by
  have HV := Lib.hid hv
  have HL := Lib.hid hl
  have hq := fun (w : World) (a : Option Addr) (n c n' c' : Nat) => Lib.run_eql_slice_nil (P := Tryd.prog) w 22 _ a n c n' c' Tryd.underlying22
  rcases show v = .slice none 0 0 ∨ ∃ a n c, v = .slice (some a) n c by
    rcases hv with ⟨_, h | ⟨a, c, h⟩⟩ | ⟨g, o, cap, h, _⟩
    · exact .inl h
    · exact .inr ⟨_, _, _, h⟩
    · exact .inr ⟨_, _, _, h⟩ with rfl | ⟨a, n, c, rfl⟩
  · have HX := Lib.hid (show xs = [] by
      obtain ⟨a, c, e⟩ := hv.len
      simp only [Value.slice.injEq] at e
      exact List.length_eq_zero_iff.1 e.2.1.symm)
    clear hv hl
    go_enter Tryd.func21, Tryd.ntmps21
    go_wp2_with fail
    go_ret
    exact ⟨_, rfl, by rw [HX.out]; exact World.ownsRow_nil w _ 5 1, Below.refl _ w⟩
  · clear hv hl
    have HB := Lib.hid (below_alloc (Below.refl _ w) (.cells #[] 5))
    have HO := Lib.hid (own_lit w w.heap.size [] (Nat.le_refl _) (by unfold maxLen; simp))
    have HV1 := Lib.hid (HV.out.below HB.out)
    have hsz := HB.out.size
    have HLL := Lib.hid (show ([] : List (BitVec 8)).length + xs.length ≤ 140737488355328 by have := HL.out; simp; omega)
    go_enter Tryd.func21, Tryd.ntmps21
    go_wp2_with (at_builtin; refine wpList_app rfl _ _ rfl w.heap.size _ [] rfl HO.out _ xs rfl HV1.out HLL.out hsz ?_; intro v1 w2 hown1 hg1; have HO1 := Lib.hid hown1; have HB2 := Lib.hid (HO.out.grown HB.out hg1); clear hown1 hg1 HO HB HV1 hsz)
    go_ret
    exact ⟨_, rfl, by simpa using HO1.out, HB2.out⟩
end Go.Proofs.YtompoojijeigfaaDoor

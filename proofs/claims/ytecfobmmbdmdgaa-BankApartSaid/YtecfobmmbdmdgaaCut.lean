/-
  b[:k] of a slice of bytes.
-/
import Derived.Test.YtecfobmmbdmdgaaBytes
namespace Go.Proofs.Ytecfobmmbdmdgaa
open Go.RowKit

/-- b[:k]. -/
theorem cutL {w : World} {v : Value} {xs : List (BitVec 8)} (h : Byts w v xs) (k : Nat) (hk : k ≤ xs.length) : ∃ v1,
    (∀ w', (Instr.slice 23 v none (some (.int .i64 (k : Int))) none).run Try.prog w' = .ok v1 w') ∧ Byts w v1 (xs.take k) := by
  have hu : Try.prog.underlying 23 = some (.slice (Try.prog.elem 23)) := by rw [elemB]; exact Try.underlying23
  rcases h with ⟨rfl, rfl | ⟨a, c, rfl⟩⟩ | ⟨g, o, cap, rfl, hc, h⟩
  · obtain rfl : k = 0 := by simpa using hk
    refine ⟨.slice none 0 0, fun w' => ?_, .inl ⟨rfl, .inl rfl⟩⟩
    rw [run_slice_h _ _ _ _ _ hu _ _ (by simp) (by simp), elemB, sizeU8]; rfl
  · obtain rfl : k = 0 := by simpa using hk
    refine ⟨.slice (some a) 0 c, fun w' => ?_, .inl ⟨rfl, .inr ⟨a, c, rfl⟩⟩⟩
    rw [run_slice_h _ _ _ _ _ hu _ _ (by simp) (by simp), elemB, sizeU8]
    simp [Result.andThen, sliced, add_zero]
  · refine ⟨.slice (some ⟨g, o, none⟩) k cap, fun w' => ?_, Byts.take h hc k hk⟩
    rw [run_slice_h _ _ _ _ _ hu _ _ (by omega) (by omega), elemB, sizeU8]
    simp [Result.andThen, sliced, add_zero]
end Go.Proofs.Ytecfobmmbdmdgaa

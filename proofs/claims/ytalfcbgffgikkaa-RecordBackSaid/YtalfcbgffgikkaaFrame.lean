/-
  What stands around every law's walk: that true is answered and nothing older has changed is what the row asks; how slices and numbers among the arguments read.
-/
import Derived.Test.YtalfcbgffgikkaaBytes
import Derived.Test.YtalfcbgffgikkaaOpen
import Derived.Test.YtalfcbgffgikkaaCore
import Derived.Test.YtalfcbgffgikkaaRows
import Derived.ProofKit
import Derived.OpenShut
import Derived.Carry
import Derived.ChangeSlices
import Derived.SizedLaws
namespace Go.Proofs.Ytalfcbgffgikkaa
open Go.ChangeShapes Go.WideShapes Go.ChangeAt Go.RowKit

theorem cellsU8 : Try.prog.cellsOf 5 = 1 := by kernel_rfl
theorem bytesU8 : Try.prog.bytesOf 5 = 1 := by kernel_rfl
set_option maxRecDepth 100000 in
/-- A slice of bytes among the arguments. -/
theorem open_byts {H : Type} {enc : TypeId × Value → H} {W : World} {base : Nat} {v : Value} {d : DataW H} {p : List MemPlace}
    (hv : Value.okWide Try.prog W .any base 27 v) (h : DataW.Trod enc Try.prog W 0 (fun _ => true) true 27 v d p) :
    ∃ xs : List (BitVec 8), Byts W v xs ∧ xs.length ≤ maxLen ∧ ((d = .nil ∧ xs = []) ∨ ∃ el sp, d = .slice el sp ∧ el.length = xs.length) := by
  obtain ⟨zs, hs, hm, _, hd⟩ := open_sl cel (fun n => BitVec.ofNat 8 n.toNat) (fun n hn => by unfold cel; rw [u8_of_wf hn]) Try.underlying27 Try.underlying5 cellsU8 hv h
  refine ⟨_, hs, by simpa using hm, ?_⟩
  rcases hd with ⟨h1, rfl⟩ | ⟨sp, h1⟩
  · exact .inl ⟨h1, rfl⟩
  · exact .inr ⟨_, sp, h1, by simp [lits]⟩
/-- The form's own reach: a slice of bytes that was handed in has at most 2^47 - 4096 of them. -/
theorem reach_byts {H : Type} {ts : List TypeId} {ds : List (DataW H)} (h : (DataW.weightsEach Try.prog ts ds).all (· ≤ reachBytes) = true) {j : Nat} {d : DataW H} (ht : ts[j]? = some 27) (hj : ds[j]? = some d) {xs : List (BitVec 8)}
    (hd : (d = .nil ∧ xs = []) ∨ ∃ el sp, d = .slice el sp ∧ el.length = xs.length) : xs.length ≤ 140737488351232 := by
  rcases hd with ⟨_, rfl⟩ | ⟨el, sp, rfl, hl⟩
  · simp
  · have := sized_slice h ht hj Try.underlying27
    rw [bytesU8] at this
    unfold reachBytes at this
    omega

end Go.Proofs.Ytalfcbgffgikkaa

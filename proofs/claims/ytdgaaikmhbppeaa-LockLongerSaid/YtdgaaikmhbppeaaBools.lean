/-
  A slice of truths among the arguments.
-/
import Derived.Test.YtdgaaikmhbppeaaElg
import Derived.OpenShut
namespace Go.Proofs.Ytdgaaikmhbppeaa
open Go.ChangeShapes Go.WideShapes Go.ChangeAt Go.RowKit Go.Joins

theorem cells_truth : Try.prog.cellsOf 4 = 1 := by kernel_rfl
/-- A truth at a place. -/
def RBo (w : World) (g o : Nat) (y : Bool) : Prop := w.cell? ⟨g, o, none⟩ = some (.bool y)
section
variable {H : Type} {enc : TypeId × Value → H} {W : World}
theorem open_bools {base : Nat} {v : Value} {d : DataW H} {p : List MemPlace} (hv : Value.okWide Try.prog W .any base 33 v) (h : DataW.Trod enc Try.prog W 0 (fun _ => true) true 33 v d p) : ∃ ls : List Bool, Els RBo 1 W v ls ∧ ls.length ≤ maxLen :=
  open_els (R := RBo) (sz := 1) Try.underlying33 cells_truth (by decide) (fun g o n cs x hl hc ht => by
    match cs, hl with
    | [v0], _ =>
      obtain ⟨a, e0, _⟩ := DataW.trod_bool Try.underlying4 ht
      simp at e0
      subst e0
      exact ⟨a, by have := hc 0 (by omega); unfold RBo; simpa using this⟩) hv h
end
end Go.Proofs.Ytdgaaikmhbppeaa

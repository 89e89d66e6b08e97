/-
  No cell of these rows narrows 'for every input' (looked for: loops, veiled, ifaces, maps, wideKeys, modest, calm, conditions, laid).
  DERIVED. THE GIVEN ROWS OF THIS SEAT. 5 by the template 'for every input the law returns true; each argument reads behind the call as it read before'; 0 by the template 'total and deterministic' (their statements: YtmljjihjmppcmaaTotals.lean).
  GIVEN WITH THE SEED: the statements are not yours to turn. If you find one false, say at which input.
  Laid BY PROGRAM, IN A SANDBOX (cutbox-rows.mjs): the forced cells as the released guide's own fill.sh prints them over the translation 0dcf6a3c9247617b… (all of the seat's roots in one cut). By AI agents, Wed Nov 11 2026. No macro, syntax, notation, axiom, sorry.
-/
import Derived.Test.YtmljjihjmppcmaaChecked
import GoSem.Claim
import GoSem.ClaimJoined
import GoSem.ClaimMapViews
import Derived.JoinedTies
import Derived.KernelRfl
namespace Go.Proofs.Ytmljjihjmppcmaa
/- THE CELL 'sum', in the pinned program and in every row, IS THE sha256 OF THE DUMP (.gsa) THAT YtmljjihjmppcmaaProg.lean LOADS. Nothing in Lean hashes anything: it is a label: what it is worth is what the hold of that sum in a sandbox is worth. -/
noncomputable def Try.pinned : Pinned := { name := "ytmljjihjmppcmaa", sum := "0dcf6a3c9247617b9d64168f25c4d7d0652a4f188298fe72eb5b37d830dd0b73", checked := Try.checked }
namespace Rows
def none {H : Type} : Left H := { results := [], args := [] }

/-- 'crossbucklaw18.ProveSteps': WHATEVER THE INPUT: true; the input reads as it did. -/
def proveStepsSpec : ChangeSpec := { name := "proveSteps", fn := fun _ => fun
  | [d1, d2, d3] => { results := [.lit (.bool true)], args := [d1, d2, d3] }
  | _ => none }
def proveStepsRow : OpenClaim := { program := "ytmljjihjmppcmaa", sum := "0dcf6a3c9247617b9d64168f25c4d7d0652a4f188298fe72eb5b37d830dd0b73", func := "crossbuck/crossbucklaw18.ProveSteps", spec := "proveSteps", apart := false }
def ProveStepsSaid : Prop := proveStepsRow.holds Try.pinned (OpenSpec.ofChange proveStepsSpec)

/-- ITS FALSE NEIGHBOUR: 'it returns false'. Refute it at one input. -/
def proveStepsWrong : ChangeSpec := { name := "proveSteps", fn := fun _ => fun
  | [d1, d2, d3] => { results := [.lit (.bool false)], args := [d1, d2, d3] }
  | _ => none }
def ProveStepsWrongFalsely : Prop := proveStepsRow.holds Try.pinned (OpenSpec.ofChange proveStepsWrong)

/-- 'crossbucklaw18.ProveLong': WHATEVER THE INPUT: true; the input reads as it did. -/
def proveLongSpec : ChangeSpec := { name := "proveLong", fn := fun _ => fun
  | [d1, d2] => { results := [.lit (.bool true)], args := [d1, d2] }
  | _ => none }
def proveLongRow : OpenClaim := { program := "ytmljjihjmppcmaa", sum := "0dcf6a3c9247617b9d64168f25c4d7d0652a4f188298fe72eb5b37d830dd0b73", func := "crossbuck/crossbucklaw18.ProveLong", spec := "proveLong", apart := false }
def ProveLongSaid : Prop := proveLongRow.holds Try.pinned (OpenSpec.ofChange proveLongSpec)

/-- ITS FALSE NEIGHBOUR: 'it returns false'. Refute it at one input. -/
def proveLongWrong : ChangeSpec := { name := "proveLong", fn := fun _ => fun
  | [d1, d2] => { results := [.lit (.bool false)], args := [d1, d2] }
  | _ => none }
def ProveLongWrongFalsely : Prop := proveLongRow.holds Try.pinned (OpenSpec.ofChange proveLongWrong)

/-- 'crossbucklaw18.ProveAnew': WHATEVER THE INPUT: true; the input reads as it did. -/
def proveAnewSpec : ChangeSpec := { name := "proveAnew", fn := fun _ => fun
  | [d1, d2, d3, d4] => { results := [.lit (.bool true)], args := [d1, d2, d3, d4] }
  | _ => none }
def proveAnewRow : OpenClaim := { program := "ytmljjihjmppcmaa", sum := "0dcf6a3c9247617b9d64168f25c4d7d0652a4f188298fe72eb5b37d830dd0b73", func := "crossbuck/crossbucklaw18.ProveAnew", spec := "proveAnew", apart := false }
def ProveAnewSaid : Prop := proveAnewRow.holds Try.pinned (OpenSpec.ofChange proveAnewSpec)

/-- ITS FALSE NEIGHBOUR: 'it returns false'. Refute it at one input. -/
def proveAnewWrong : ChangeSpec := { name := "proveAnew", fn := fun _ => fun
  | [d1, d2, d3, d4] => { results := [.lit (.bool false)], args := [d1, d2, d3, d4] }
  | _ => none }
def ProveAnewWrongFalsely : Prop := proveAnewRow.holds Try.pinned (OpenSpec.ofChange proveAnewWrong)

/-- 'crossbucklaw18.ProveBounds': WHATEVER THE INPUT: true; the input reads as it did. -/
def proveBoundsSpec : ChangeSpec := { name := "proveBounds", fn := fun _ => fun
  | [d1, d2, d3] => { results := [.lit (.bool true)], args := [d1, d2, d3] }
  | _ => none }
def proveBoundsRow : OpenClaim := { program := "ytmljjihjmppcmaa", sum := "0dcf6a3c9247617b9d64168f25c4d7d0652a4f188298fe72eb5b37d830dd0b73", func := "crossbuck/crossbucklaw18.ProveBounds", spec := "proveBounds", apart := false }
def ProveBoundsSaid : Prop := proveBoundsRow.holds Try.pinned (OpenSpec.ofChange proveBoundsSpec)

/-- ITS FALSE NEIGHBOUR: 'it returns false'. Refute it at one input. -/
def proveBoundsWrong : ChangeSpec := { name := "proveBounds", fn := fun _ => fun
  | [d1, d2, d3] => { results := [.lit (.bool false)], args := [d1, d2, d3] }
  | _ => none }
def ProveBoundsWrongFalsely : Prop := proveBoundsRow.holds Try.pinned (OpenSpec.ofChange proveBoundsWrong)

/-- 'crossbucklaw18.ProveSooner': WHATEVER THE INPUT: true; the input reads as it did. -/
def proveSoonerSpec : ChangeSpec := { name := "proveSooner", fn := fun _ => fun
  | [d1, d2, d3] => { results := [.lit (.bool true)], args := [d1, d2, d3] }
  | _ => none }
def proveSoonerRow : OpenClaim := { program := "ytmljjihjmppcmaa", sum := "0dcf6a3c9247617b9d64168f25c4d7d0652a4f188298fe72eb5b37d830dd0b73", func := "crossbuck/crossbucklaw18.ProveSooner", spec := "proveSooner", apart := false }
def ProveSoonerSaid : Prop := proveSoonerRow.holds Try.pinned (OpenSpec.ofChange proveSoonerSpec)

/-- ITS FALSE NEIGHBOUR: 'it returns false'. Refute it at one input. -/
def proveSoonerWrong : ChangeSpec := { name := "proveSooner", fn := fun _ => fun
  | [d1, d2, d3] => { results := [.lit (.bool false)], args := [d1, d2, d3] }
  | _ => none }
def ProveSoonerWrongFalsely : Prop := proveSoonerRow.holds Try.pinned (OpenSpec.ofChange proveSoonerWrong)

/- THE SECOND FORM. 'bulk': how many values and letters a reading holds, each counted each time it is reached (what is shared counts as often as it is met; a slice's spare places count too). A statement '..UptoSaid' is the law's where the arguments, and the package variables that the reading takes, are together of bulk at most 1048576: NARROWER than '..Said'. Prove '..Said' where nothing that the law and all that it calls make is longer than what came in: it says more and counts as full. Else prove '..UptoSaid'. A law counts once. -/
mutual
def uptoBulk {H : Type} : DataW H → Nat
  | .lit (.string bytes) => bytes.length + 1
  | .lit _ => 1
  | .nil => 1
  | .ptr d => uptoBulk d + 1
  | .slice elems spare => uptoBulkAll elems + uptoBulkAll spare + 1
  | .agg parts => uptoBulkAll parts + 1
  | .iface _ d => uptoBulk d + 1
  | .map entries => uptoBulkEntries entries + 1
  | .held _ => 1
def uptoBulkAll {H : Type} : List (DataW H) → Nat
  | [] => 0
  | d :: r => uptoBulk d + uptoBulkAll r
def uptoBulkEntries {H : Type} : List (Lit × DataW H) → Nat
  | [] => 0
  | x :: r => uptoBulkEntry x + uptoBulkEntries r
def uptoBulkEntry {H : Type} : Lit × DataW H → Nat
  | (.string bytes, d) => bytes.length + uptoBulk d + 1
  | (_, d) => uptoBulk d + 1
 end
def uptoSmall : (H : Type) → List (DataW H) → Bool := fun _ ds => decide (uptoBulkAll ds ≤ 1048576)
def OpenSpec.upto (s : _root_.Go.ChangeSpec) : _root_.Go.OpenSpec := { _root_.Go.OpenSpec.ofChange s with cond := some uptoSmall }

/-- 'crossbucklaw18.ProveSteps', WHERE WHAT IT READS IS OF BULK AT MOST 1048576: true; the input reads as it did. -/
def proveStepsUptoRow : OpenClaim := { program := "ytmljjihjmppcmaa", sum := "0dcf6a3c9247617b9d64168f25c4d7d0652a4f188298fe72eb5b37d830dd0b73", func := "crossbuck/crossbucklaw18.ProveSteps", spec := "proveSteps", apart := false, narrowed := true }
def ProveStepsUptoSaid : Prop := proveStepsUptoRow.holds Try.pinned (OpenSpec.upto proveStepsSpec)

/-- 'crossbucklaw18.ProveLong', WHERE WHAT IT READS IS OF BULK AT MOST 1048576: true; the input reads as it did. -/
def proveLongUptoRow : OpenClaim := { program := "ytmljjihjmppcmaa", sum := "0dcf6a3c9247617b9d64168f25c4d7d0652a4f188298fe72eb5b37d830dd0b73", func := "crossbuck/crossbucklaw18.ProveLong", spec := "proveLong", apart := false, narrowed := true }
def ProveLongUptoSaid : Prop := proveLongUptoRow.holds Try.pinned (OpenSpec.upto proveLongSpec)

/-- 'crossbucklaw18.ProveAnew', WHERE WHAT IT READS IS OF BULK AT MOST 1048576: true; the input reads as it did. -/
def proveAnewUptoRow : OpenClaim := { program := "ytmljjihjmppcmaa", sum := "0dcf6a3c9247617b9d64168f25c4d7d0652a4f188298fe72eb5b37d830dd0b73", func := "crossbuck/crossbucklaw18.ProveAnew", spec := "proveAnew", apart := false, narrowed := true }
def ProveAnewUptoSaid : Prop := proveAnewUptoRow.holds Try.pinned (OpenSpec.upto proveAnewSpec)

/-- 'crossbucklaw18.ProveBounds', WHERE WHAT IT READS IS OF BULK AT MOST 1048576: true; the input reads as it did. -/
def proveBoundsUptoRow : OpenClaim := { program := "ytmljjihjmppcmaa", sum := "0dcf6a3c9247617b9d64168f25c4d7d0652a4f188298fe72eb5b37d830dd0b73", func := "crossbuck/crossbucklaw18.ProveBounds", spec := "proveBounds", apart := false, narrowed := true }
def ProveBoundsUptoSaid : Prop := proveBoundsUptoRow.holds Try.pinned (OpenSpec.upto proveBoundsSpec)

/-- 'crossbucklaw18.ProveSooner', WHERE WHAT IT READS IS OF BULK AT MOST 1048576: true; the input reads as it did. -/
def proveSoonerUptoRow : OpenClaim := { program := "ytmljjihjmppcmaa", sum := "0dcf6a3c9247617b9d64168f25c4d7d0652a4f188298fe72eb5b37d830dd0b73", func := "crossbuck/crossbucklaw18.ProveSooner", spec := "proveSooner", apart := false, narrowed := true }
def ProveSoonerUptoSaid : Prop := proveSoonerUptoRow.holds Try.pinned (OpenSpec.upto proveSoonerSpec)

end Rows
end Go.Proofs.Ytmljjihjmppcmaa

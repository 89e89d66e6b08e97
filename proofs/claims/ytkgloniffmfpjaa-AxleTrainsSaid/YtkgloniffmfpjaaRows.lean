/-
  No cell of these rows narrows 'for every input' (looked for: loops, veiled, ifaces, maps, wideKeys, modest, calm, conditions, laid).
  DERIVED. THE GIVEN ROWS OF THIS SEAT. 6 by the template 'for every input the law returns true; each argument reads behind the call as it read before'; 0 by the template 'total and deterministic' (their statements: YtkgloniffmfpjaaTotals.lean).
  GIVEN WITH THE SEED: the statements are not yours to turn. If you find one false, say at which input.
  Laid BY PROGRAM, IN A SANDBOX (cutbox-rows.mjs): the forced cells as the released guide's own fill.sh prints them over the translation 256a0a3940eb4e18… (all of the seat's roots in one cut). By AI agents, Wed Nov 11 2026. No macro, syntax, notation, axiom, sorry.
-/
import Derived.Test.YtkgloniffmfpjaaChecked
import GoSem.Claim
import GoSem.ClaimJoined
import GoSem.ClaimMapViews
import Derived.JoinedTies
import Derived.KernelRfl
namespace Go.Proofs.Ytkgloniffmfpjaa
/- THE CELL 'sum', in the pinned program and in every row, IS THE sha256 OF THE DUMP (.gsa) THAT YtkgloniffmfpjaaProg.lean LOADS. Nothing in Lean hashes anything: it is a label: what it is worth is what the hold of that sum in a sandbox is worth. -/
noncomputable def Try.pinned : Pinned := { name := "ytkgloniffmfpjaa", sum := "256a0a3940eb4e1878c3b977554d1f4104bf6fcf4f06bf81c30c06a68baf897f", checked := Try.checked }
namespace Rows
def none {H : Type} : Left H := { results := [], args := [] }

/-- 'crossbucklaw11.AxleSteps': WHATEVER THE INPUT: true; the input reads as it did. -/
def axleStepsSpec : ChangeSpec := { name := "axleSteps", fn := fun _ => fun
  | [d1, d2, d3] => { results := [.lit (.bool true)], args := [d1, d2, d3] }
  | _ => none }
def axleStepsRow : OpenClaim := { program := "ytkgloniffmfpjaa", sum := "256a0a3940eb4e1878c3b977554d1f4104bf6fcf4f06bf81c30c06a68baf897f", func := "crossbuck/crossbucklaw11.AxleSteps", spec := "axleSteps", apart := false }
def AxleStepsSaid : Prop := axleStepsRow.holds Try.pinned (OpenSpec.ofChange axleStepsSpec)

/-- ITS FALSE NEIGHBOUR: 'it returns false'. Refute it at one input. -/
def axleStepsWrong : ChangeSpec := { name := "axleSteps", fn := fun _ => fun
  | [d1, d2, d3] => { results := [.lit (.bool false)], args := [d1, d2, d3] }
  | _ => none }
def AxleStepsWrongFalsely : Prop := axleStepsRow.holds Try.pinned (OpenSpec.ofChange axleStepsWrong)

/-- 'crossbucklaw11.AxleClears': WHATEVER THE INPUT: true; the input reads as it did. -/
def axleClearsSpec : ChangeSpec := { name := "axleClears", fn := fun _ => fun
  | [d1, d2, d3, d4] => { results := [.lit (.bool true)], args := [d1, d2, d3, d4] }
  | _ => none }
def axleClearsRow : OpenClaim := { program := "ytkgloniffmfpjaa", sum := "256a0a3940eb4e1878c3b977554d1f4104bf6fcf4f06bf81c30c06a68baf897f", func := "crossbuck/crossbucklaw11.AxleClears", spec := "axleClears", apart := false }
def AxleClearsSaid : Prop := axleClearsRow.holds Try.pinned (OpenSpec.ofChange axleClearsSpec)

/-- ITS FALSE NEIGHBOUR: 'it returns false'. Refute it at one input. -/
def axleClearsWrong : ChangeSpec := { name := "axleClears", fn := fun _ => fun
  | [d1, d2, d3, d4] => { results := [.lit (.bool false)], args := [d1, d2, d3, d4] }
  | _ => none }
def AxleClearsWrongFalsely : Prop := axleClearsRow.holds Try.pinned (OpenSpec.ofChange axleClearsWrong)

/-- 'crossbucklaw11.AxleWrong': WHATEVER THE INPUT: true; the input reads as it did. -/
def axleWrongSpec : ChangeSpec := { name := "axleWrong", fn := fun _ => fun
  | [d1, d2] => { results := [.lit (.bool true)], args := [d1, d2] }
  | _ => none }
def axleWrongRow : OpenClaim := { program := "ytkgloniffmfpjaa", sum := "256a0a3940eb4e1878c3b977554d1f4104bf6fcf4f06bf81c30c06a68baf897f", func := "crossbuck/crossbucklaw11.AxleWrong", spec := "axleWrong", apart := false }
def AxleWrongSaid : Prop := axleWrongRow.holds Try.pinned (OpenSpec.ofChange axleWrongSpec)

/-- ITS FALSE NEIGHBOUR: 'it returns false'. Refute it at one input. -/
def axleWrongWrong : ChangeSpec := { name := "axleWrong", fn := fun _ => fun
  | [d1, d2] => { results := [.lit (.bool false)], args := [d1, d2] }
  | _ => none }
def AxleWrongWrongFalsely : Prop := axleWrongRow.holds Try.pinned (OpenSpec.ofChange axleWrongWrong)

/-- 'crossbucklaw11.AxleLeaps': WHATEVER THE INPUT: true; the input reads as it did. -/
def axleLeapsSpec : ChangeSpec := { name := "axleLeaps", fn := fun _ => fun
  | [d1, d2, d3] => { results := [.lit (.bool true)], args := [d1, d2, d3] }
  | _ => none }
def axleLeapsRow : OpenClaim := { program := "ytkgloniffmfpjaa", sum := "256a0a3940eb4e1878c3b977554d1f4104bf6fcf4f06bf81c30c06a68baf897f", func := "crossbuck/crossbucklaw11.AxleLeaps", spec := "axleLeaps", apart := false }
def AxleLeapsSaid : Prop := axleLeapsRow.holds Try.pinned (OpenSpec.ofChange axleLeapsSpec)

/-- ITS FALSE NEIGHBOUR: 'it returns false'. Refute it at one input. -/
def axleLeapsWrong : ChangeSpec := { name := "axleLeaps", fn := fun _ => fun
  | [d1, d2, d3] => { results := [.lit (.bool false)], args := [d1, d2, d3] }
  | _ => none }
def AxleLeapsWrongFalsely : Prop := axleLeapsRow.holds Try.pinned (OpenSpec.ofChange axleLeapsWrong)

/-- 'crossbucklaw11.AxleSame': WHATEVER THE INPUT: true; the input reads as it did. -/
def axleSameSpec : ChangeSpec := { name := "axleSame", fn := fun _ => fun
  | [d1, d2, d3, d4] => { results := [.lit (.bool true)], args := [d1, d2, d3, d4] }
  | _ => none }
def axleSameRow : OpenClaim := { program := "ytkgloniffmfpjaa", sum := "256a0a3940eb4e1878c3b977554d1f4104bf6fcf4f06bf81c30c06a68baf897f", func := "crossbuck/crossbucklaw11.AxleSame", spec := "axleSame", apart := false }
def AxleSameSaid : Prop := axleSameRow.holds Try.pinned (OpenSpec.ofChange axleSameSpec)

/-- ITS FALSE NEIGHBOUR: 'it returns false'. Refute it at one input. -/
def axleSameWrong : ChangeSpec := { name := "axleSame", fn := fun _ => fun
  | [d1, d2, d3, d4] => { results := [.lit (.bool false)], args := [d1, d2, d3, d4] }
  | _ => none }
def AxleSameWrongFalsely : Prop := axleSameRow.holds Try.pinned (OpenSpec.ofChange axleSameWrong)

/-- 'crossbucklaw11.AxleTrains': WHATEVER THE INPUT: true; the input reads as it did. -/
def axleTrainsSpec : ChangeSpec := { name := "axleTrains", fn := fun _ => fun
  | [d1, d2] => { results := [.lit (.bool true)], args := [d1, d2] }
  | _ => none }
def axleTrainsRow : OpenClaim := { program := "ytkgloniffmfpjaa", sum := "256a0a3940eb4e1878c3b977554d1f4104bf6fcf4f06bf81c30c06a68baf897f", func := "crossbuck/crossbucklaw11.AxleTrains", spec := "axleTrains", apart := false }
def AxleTrainsSaid : Prop := axleTrainsRow.holds Try.pinned (OpenSpec.ofChange axleTrainsSpec)

/-- ITS FALSE NEIGHBOUR: 'it returns false'. Refute it at one input. -/
def axleTrainsWrong : ChangeSpec := { name := "axleTrains", fn := fun _ => fun
  | [d1, d2] => { results := [.lit (.bool false)], args := [d1, d2] }
  | _ => none }
def AxleTrainsWrongFalsely : Prop := axleTrainsRow.holds Try.pinned (OpenSpec.ofChange axleTrainsWrong)

/- THE SECOND FORM. 'bulk': how many values and letters a reading holds, each counted each time it is reached (what is shared counts as often as it is met; a slice's spare places count too). A statement '..UptoSaid' is the law's where the arguments, and the package variables that the reading takes, are together of bulk at most 1048576: NARROWER than '..Said'. Prove '..Said' where nothing that the law and all that it calls make is longer than what came in: it says more and counts as full. Else prove '..UptoSaid'. A law counts once. -/
mutual
def uptoBulk {H : Type} : DataW H → Nat
  | .lit (.string bytes) => bytes.length + 1
  | .lit _ => 1
  | .nil => 1
  | .ptr d => uptoBulk d + 1
  | .slice elems spare => uptoBulkAll elems + uptoBulkAll spare + 1
  | .agg parts => uptoBulkAll parts + 1
  | .iface _ d => uptoBulk d + 1
  | .map entries => uptoBulkEntries entries + 1
  | .held _ => 1
def uptoBulkAll {H : Type} : List (DataW H) → Nat
  | [] => 0
  | d :: r => uptoBulk d + uptoBulkAll r
def uptoBulkEntries {H : Type} : List (Lit × DataW H) → Nat
  | [] => 0
  | x :: r => uptoBulkEntry x + uptoBulkEntries r
def uptoBulkEntry {H : Type} : Lit × DataW H → Nat
  | (.string bytes, d) => bytes.length + uptoBulk d + 1
  | (_, d) => uptoBulk d + 1
 end
def uptoSmall : (H : Type) → List (DataW H) → Bool := fun _ ds => decide (uptoBulkAll ds ≤ 1048576)
def OpenSpec.upto (s : _root_.Go.ChangeSpec) : _root_.Go.OpenSpec := { _root_.Go.OpenSpec.ofChange s with cond := some uptoSmall }

/-- 'crossbucklaw11.AxleSteps', WHERE WHAT IT READS IS OF BULK AT MOST 1048576: true; the input reads as it did. -/
def axleStepsUptoRow : OpenClaim := { program := "ytkgloniffmfpjaa", sum := "256a0a3940eb4e1878c3b977554d1f4104bf6fcf4f06bf81c30c06a68baf897f", func := "crossbuck/crossbucklaw11.AxleSteps", spec := "axleSteps", apart := false, narrowed := true }
def AxleStepsUptoSaid : Prop := axleStepsUptoRow.holds Try.pinned (OpenSpec.upto axleStepsSpec)

/-- 'crossbucklaw11.AxleClears', WHERE WHAT IT READS IS OF BULK AT MOST 1048576: true; the input reads as it did. -/
def axleClearsUptoRow : OpenClaim := { program := "ytkgloniffmfpjaa", sum := "256a0a3940eb4e1878c3b977554d1f4104bf6fcf4f06bf81c30c06a68baf897f", func := "crossbuck/crossbucklaw11.AxleClears", spec := "axleClears", apart := false, narrowed := true }
def AxleClearsUptoSaid : Prop := axleClearsUptoRow.holds Try.pinned (OpenSpec.upto axleClearsSpec)

/-- 'crossbucklaw11.AxleWrong', WHERE WHAT IT READS IS OF BULK AT MOST 1048576: true; the input reads as it did. -/
def axleWrongUptoRow : OpenClaim := { program := "ytkgloniffmfpjaa", sum := "256a0a3940eb4e1878c3b977554d1f4104bf6fcf4f06bf81c30c06a68baf897f", func := "crossbuck/crossbucklaw11.AxleWrong", spec := "axleWrong", apart := false, narrowed := true }
def AxleWrongUptoSaid : Prop := axleWrongUptoRow.holds Try.pinned (OpenSpec.upto axleWrongSpec)

/-- 'crossbucklaw11.AxleLeaps', WHERE WHAT IT READS IS OF BULK AT MOST 1048576: true; the input reads as it did. -/
def axleLeapsUptoRow : OpenClaim := { program := "ytkgloniffmfpjaa", sum := "256a0a3940eb4e1878c3b977554d1f4104bf6fcf4f06bf81c30c06a68baf897f", func := "crossbuck/crossbucklaw11.AxleLeaps", spec := "axleLeaps", apart := false, narrowed := true }
def AxleLeapsUptoSaid : Prop := axleLeapsUptoRow.holds Try.pinned (OpenSpec.upto axleLeapsSpec)

/-- 'crossbucklaw11.AxleSame', WHERE WHAT IT READS IS OF BULK AT MOST 1048576: true; the input reads as it did. -/
def axleSameUptoRow : OpenClaim := { program := "ytkgloniffmfpjaa", sum := "256a0a3940eb4e1878c3b977554d1f4104bf6fcf4f06bf81c30c06a68baf897f", func := "crossbuck/crossbucklaw11.AxleSame", spec := "axleSame", apart := false, narrowed := true }
def AxleSameUptoSaid : Prop := axleSameUptoRow.holds Try.pinned (OpenSpec.upto axleSameSpec)

/-- 'crossbucklaw11.AxleTrains', WHERE WHAT IT READS IS OF BULK AT MOST 1048576: true; the input reads as it did. -/
def axleTrainsUptoRow : OpenClaim := { program := "ytkgloniffmfpjaa", sum := "256a0a3940eb4e1878c3b977554d1f4104bf6fcf4f06bf81c30c06a68baf897f", func := "crossbuck/crossbucklaw11.AxleTrains", spec := "axleTrains", apart := false, narrowed := true }
def AxleTrainsUptoSaid : Prop := axleTrainsUptoRow.holds Try.pinned (OpenSpec.upto axleTrainsSpec)

end Rows
end Go.Proofs.Ytkgloniffmfpjaa

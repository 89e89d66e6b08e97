/-
  NARROWER THAN 'FOR EVERY INPUT', by the rows' own cells (each row's printed sentence says how): InputsSteps: laid · InputsTakes: laid · InputsStale: laid · InputsRefused: laid · InputsTold: laid · InputsLost: laid.
  DERIVED. THE GIVEN ROWS OF THIS SEAT. 6 by the template 'for every input the law returns true; each argument reads behind the call as it read before'; 0 by the template 'total and deterministic' (their statements: YtolfdfbhignniaaDoorTotals.lean).
  GIVEN WITH THE SEED: the statements are not yours to turn. If you find one false, say at which input.
  Laid BY PROGRAM, IN A SANDBOX (cutbox-rows.mjs): the forced cells as the released guide's own fill.sh prints them over the translation 2c599e9d4e4c3938… (all of the seat's roots in one cut). By AI agents, Wed Nov 11 2026. No macro, syntax, notation, axiom, sorry.
-/
import Derived.Test.YtolfdfbhignniaaDoorChecked
import GoSem.Claim
import GoSem.ClaimJoined
import GoSem.ClaimMapViews
import Derived.JoinedTies
import Derived.KernelRfl
namespace Go.Proofs.YtolfdfbhignniaaDoor
/- THE CELL 'sum', in the pinned program and in every row, IS THE sha256 OF THE DUMP (.gsa) THAT YtolfdfbhignniaaDoorProg.lean LOADS. Nothing in Lean hashes anything: it is a label: what it is worth is what the hold of that sum in a sandbox is worth. -/
noncomputable def Tryd.pinned : Pinned := { name := "ytolfdfbhignniaadoor", sum := "2c599e9d4e4c3938092971002c5f7848952863d4ba21c11a91d40bcf02d32dba", checked := Tryd.checked }
namespace Rows
def none {H : Type} : Left H := { results := [], args := [] }

/- WHAT THE LISTED PACKAGE-LEVEL VARIABLES READ AS WHEN THE CALL BEGINS. Each datum BY PROGRAM (the guide's laid-datum.mjs) off the statement by which the dump's own 'gosem.cut.vars' lays the variable. In a bare row this is a premise. The card (YtolfdfbhignniaaDoorCards.lean) ties it to the program's text. -/
def laid_errors_errorType {H : Type} : DataW H := .iface "internal/reflectlite.rtype" (.agg [.ptr (.lit (.string [101, 114, 114, 111, 114]))])

/-- 'crossbucklaw14.InputsSteps': WHATEVER THE INPUT: true; the input reads as it did. -/
def inputsStepsSpec : ChangeSpec := { name := "inputsSteps", fn := fun _ => fun
  | [d1, d2, d3] => { results := [.lit (.bool true)], args := [d1, d2, d3] }
  | _ => none }
def inputsStepsRow : OpenClaim := { program := "ytolfdfbhignniaadoor", sum := "2c599e9d4e4c3938092971002c5f7848952863d4ba21c11a91d40bcf02d32dba", func := "crossbuck/crossbucklaw14.InputsSteps", spec := "inputsSteps", inPlace := ["internal/reflectlite.ValueOf", "(internal/reflectlite.Value).Type", "(internal/reflectlite.Value).IsNil", "internal/reflectlite.TypeOf", "(internal/reflectlite.Value).Elem", "(internal/reflectlite.Value).Set"], unfollowed := true, recurses := true, named := ["errors.errorType"], apart := false, laid := [("errors.errorType", laid_errors_errorType)] }
def InputsStepsSaid : Prop := inputsStepsRow.holds Tryd.pinned (OpenSpec.ofChange inputsStepsSpec)

/-- ITS FALSE NEIGHBOUR: 'it returns false'. Refute it at one input. -/
def inputsStepsWrong : ChangeSpec := { name := "inputsSteps", fn := fun _ => fun
  | [d1, d2, d3] => { results := [.lit (.bool false)], args := [d1, d2, d3] }
  | _ => none }
def InputsStepsWrongFalsely : Prop := inputsStepsRow.holds Tryd.pinned (OpenSpec.ofChange inputsStepsWrong)

/-- 'crossbucklaw14.InputsTakes': WHATEVER THE INPUT: true; the input reads as it did. -/
def inputsTakesSpec : ChangeSpec := { name := "inputsTakes", fn := fun _ => fun
  | [d1, d2, d3] => { results := [.lit (.bool true)], args := [d1, d2, d3] }
  | _ => none }
def inputsTakesRow : OpenClaim := { program := "ytolfdfbhignniaadoor", sum := "2c599e9d4e4c3938092971002c5f7848952863d4ba21c11a91d40bcf02d32dba", func := "crossbuck/crossbucklaw14.InputsTakes", spec := "inputsTakes", inPlace := ["internal/reflectlite.ValueOf", "(internal/reflectlite.Value).Type", "(internal/reflectlite.Value).IsNil", "internal/reflectlite.TypeOf", "(internal/reflectlite.Value).Elem", "(internal/reflectlite.Value).Set"], unfollowed := true, recurses := true, named := ["errors.errorType"], apart := false, laid := [("errors.errorType", laid_errors_errorType)] }
def InputsTakesSaid : Prop := inputsTakesRow.holds Tryd.pinned (OpenSpec.ofChange inputsTakesSpec)

/-- ITS FALSE NEIGHBOUR: 'it returns false'. Refute it at one input. -/
def inputsTakesWrong : ChangeSpec := { name := "inputsTakes", fn := fun _ => fun
  | [d1, d2, d3] => { results := [.lit (.bool false)], args := [d1, d2, d3] }
  | _ => none }
def InputsTakesWrongFalsely : Prop := inputsTakesRow.holds Tryd.pinned (OpenSpec.ofChange inputsTakesWrong)

/-- 'crossbucklaw14.InputsStale': WHATEVER THE INPUT: true; the input reads as it did. -/
def inputsStaleSpec : ChangeSpec := { name := "inputsStale", fn := fun _ => fun
  | [d1, d2, d3] => { results := [.lit (.bool true)], args := [d1, d2, d3] }
  | _ => none }
def inputsStaleRow : OpenClaim := { program := "ytolfdfbhignniaadoor", sum := "2c599e9d4e4c3938092971002c5f7848952863d4ba21c11a91d40bcf02d32dba", func := "crossbuck/crossbucklaw14.InputsStale", spec := "inputsStale", inPlace := ["internal/reflectlite.ValueOf", "(internal/reflectlite.Value).Type", "(internal/reflectlite.Value).IsNil", "internal/reflectlite.TypeOf", "(internal/reflectlite.Value).Elem", "(internal/reflectlite.Value).Set"], unfollowed := true, recurses := true, named := ["errors.errorType"], apart := false, laid := [("errors.errorType", laid_errors_errorType)] }
def InputsStaleSaid : Prop := inputsStaleRow.holds Tryd.pinned (OpenSpec.ofChange inputsStaleSpec)

/-- ITS FALSE NEIGHBOUR: 'it returns false'. Refute it at one input. -/
def inputsStaleWrong : ChangeSpec := { name := "inputsStale", fn := fun _ => fun
  | [d1, d2, d3] => { results := [.lit (.bool false)], args := [d1, d2, d3] }
  | _ => none }
def InputsStaleWrongFalsely : Prop := inputsStaleRow.holds Tryd.pinned (OpenSpec.ofChange inputsStaleWrong)

/-- 'crossbucklaw14.InputsRefused': WHATEVER THE INPUT: true; the input reads as it did. -/
def inputsRefusedSpec : ChangeSpec := { name := "inputsRefused", fn := fun _ => fun
  | [d1, d2, d3, d4] => { results := [.lit (.bool true)], args := [d1, d2, d3, d4] }
  | _ => none }
def inputsRefusedRow : OpenClaim := { program := "ytolfdfbhignniaadoor", sum := "2c599e9d4e4c3938092971002c5f7848952863d4ba21c11a91d40bcf02d32dba", func := "crossbuck/crossbucklaw14.InputsRefused", spec := "inputsRefused", inPlace := ["internal/reflectlite.ValueOf", "(internal/reflectlite.Value).Type", "(internal/reflectlite.Value).IsNil", "internal/reflectlite.TypeOf", "(internal/reflectlite.Value).Elem", "(internal/reflectlite.Value).Set"], unfollowed := true, recurses := true, named := ["errors.errorType"], apart := false, laid := [("errors.errorType", laid_errors_errorType)] }
def InputsRefusedSaid : Prop := inputsRefusedRow.holds Tryd.pinned (OpenSpec.ofChange inputsRefusedSpec)

/-- ITS FALSE NEIGHBOUR: 'it returns false'. Refute it at one input. -/
def inputsRefusedWrong : ChangeSpec := { name := "inputsRefused", fn := fun _ => fun
  | [d1, d2, d3, d4] => { results := [.lit (.bool false)], args := [d1, d2, d3, d4] }
  | _ => none }
def InputsRefusedWrongFalsely : Prop := inputsRefusedRow.holds Tryd.pinned (OpenSpec.ofChange inputsRefusedWrong)

/-- 'crossbucklaw14.InputsTold': WHATEVER THE INPUT: true; the input reads as it did. -/
def inputsToldSpec : ChangeSpec := { name := "inputsTold", fn := fun _ => fun
  | [d1, d2] => { results := [.lit (.bool true)], args := [d1, d2] }
  | _ => none }
def inputsToldRow : OpenClaim := { program := "ytolfdfbhignniaadoor", sum := "2c599e9d4e4c3938092971002c5f7848952863d4ba21c11a91d40bcf02d32dba", func := "crossbuck/crossbucklaw14.InputsTold", spec := "inputsTold", inPlace := ["internal/reflectlite.ValueOf", "(internal/reflectlite.Value).Type", "(internal/reflectlite.Value).IsNil", "internal/reflectlite.TypeOf", "(internal/reflectlite.Value).Elem", "(internal/reflectlite.Value).Set"], unfollowed := true, recurses := true, named := ["errors.errorType"], apart := false, laid := [("errors.errorType", laid_errors_errorType)] }
def InputsToldSaid : Prop := inputsToldRow.holds Tryd.pinned (OpenSpec.ofChange inputsToldSpec)

/-- ITS FALSE NEIGHBOUR: 'it returns false'. Refute it at one input. -/
def inputsToldWrong : ChangeSpec := { name := "inputsTold", fn := fun _ => fun
  | [d1, d2] => { results := [.lit (.bool false)], args := [d1, d2] }
  | _ => none }
def InputsToldWrongFalsely : Prop := inputsToldRow.holds Tryd.pinned (OpenSpec.ofChange inputsToldWrong)

/-- 'crossbucklaw14.InputsLost': WHATEVER THE INPUT: true; the input reads as it did. -/
def inputsLostSpec : ChangeSpec := { name := "inputsLost", fn := fun _ => fun
  | [d1, d2, d3] => { results := [.lit (.bool true)], args := [d1, d2, d3] }
  | _ => none }
def inputsLostRow : OpenClaim := { program := "ytolfdfbhignniaadoor", sum := "2c599e9d4e4c3938092971002c5f7848952863d4ba21c11a91d40bcf02d32dba", func := "crossbuck/crossbucklaw14.InputsLost", spec := "inputsLost", inPlace := ["internal/reflectlite.ValueOf", "(internal/reflectlite.Value).Type", "(internal/reflectlite.Value).IsNil", "internal/reflectlite.TypeOf", "(internal/reflectlite.Value).Elem", "(internal/reflectlite.Value).Set"], unfollowed := true, recurses := true, named := ["errors.errorType"], apart := false, laid := [("errors.errorType", laid_errors_errorType)] }
def InputsLostSaid : Prop := inputsLostRow.holds Tryd.pinned (OpenSpec.ofChange inputsLostSpec)

/-- ITS FALSE NEIGHBOUR: 'it returns false'. Refute it at one input. -/
def inputsLostWrong : ChangeSpec := { name := "inputsLost", fn := fun _ => fun
  | [d1, d2, d3] => { results := [.lit (.bool false)], args := [d1, d2, d3] }
  | _ => none }
def InputsLostWrongFalsely : Prop := inputsLostRow.holds Tryd.pinned (OpenSpec.ofChange inputsLostWrong)

/- THE SECOND FORM. 'bulk': how many values and letters a reading holds, each counted each time it is reached (what is shared counts as often as it is met; a slice's spare places count too). A statement '..UptoSaid' is the law's where the arguments, and the package variables that the reading takes, are together of bulk at most 1048576: NARROWER than '..Said'. Prove '..Said' where nothing that the law and all that it calls make is longer than what came in: it says more and counts as full. Else prove '..UptoSaid'. A law counts once. -/
mutual
def uptoBulk {H : Type} : DataW H → Nat
  | .lit (.string bytes) => bytes.length + 1
  | .lit _ => 1
  | .nil => 1
  | .ptr d => uptoBulk d + 1
  | .slice elems spare => uptoBulkAll elems + uptoBulkAll spare + 1
  | .agg parts => uptoBulkAll parts + 1
  | .iface _ d => uptoBulk d + 1
  | .map entries => uptoBulkEntries entries + 1
  | .held _ => 1
def uptoBulkAll {H : Type} : List (DataW H) → Nat
  | [] => 0
  | d :: r => uptoBulk d + uptoBulkAll r
def uptoBulkEntries {H : Type} : List (Lit × DataW H) → Nat
  | [] => 0
  | x :: r => uptoBulkEntry x + uptoBulkEntries r
def uptoBulkEntry {H : Type} : Lit × DataW H → Nat
  | (.string bytes, d) => bytes.length + uptoBulk d + 1
  | (_, d) => uptoBulk d + 1
 end
def uptoSmall : (H : Type) → List (DataW H) → Bool := fun _ ds => decide (uptoBulkAll ds ≤ 1048576)
def OpenSpec.upto (s : _root_.Go.ChangeSpec) : _root_.Go.OpenSpec := { _root_.Go.OpenSpec.ofChange s with cond := some uptoSmall }

/-- 'crossbucklaw14.InputsSteps', WHERE WHAT IT READS IS OF BULK AT MOST 1048576: true; the input reads as it did. -/
def inputsStepsUptoRow : OpenClaim := { program := "ytolfdfbhignniaadoor", sum := "2c599e9d4e4c3938092971002c5f7848952863d4ba21c11a91d40bcf02d32dba", func := "crossbuck/crossbucklaw14.InputsSteps", spec := "inputsSteps", inPlace := ["internal/reflectlite.ValueOf", "(internal/reflectlite.Value).Type", "(internal/reflectlite.Value).IsNil", "internal/reflectlite.TypeOf", "(internal/reflectlite.Value).Elem", "(internal/reflectlite.Value).Set"], unfollowed := true, recurses := true, named := ["errors.errorType"], apart := false, laid := [("errors.errorType", laid_errors_errorType)], narrowed := true }
def InputsStepsUptoSaid : Prop := inputsStepsUptoRow.holds Tryd.pinned (OpenSpec.upto inputsStepsSpec)

/-- 'crossbucklaw14.InputsTakes', WHERE WHAT IT READS IS OF BULK AT MOST 1048576: true; the input reads as it did. -/
def inputsTakesUptoRow : OpenClaim := { program := "ytolfdfbhignniaadoor", sum := "2c599e9d4e4c3938092971002c5f7848952863d4ba21c11a91d40bcf02d32dba", func := "crossbuck/crossbucklaw14.InputsTakes", spec := "inputsTakes", inPlace := ["internal/reflectlite.ValueOf", "(internal/reflectlite.Value).Type", "(internal/reflectlite.Value).IsNil", "internal/reflectlite.TypeOf", "(internal/reflectlite.Value).Elem", "(internal/reflectlite.Value).Set"], unfollowed := true, recurses := true, named := ["errors.errorType"], apart := false, laid := [("errors.errorType", laid_errors_errorType)], narrowed := true }
def InputsTakesUptoSaid : Prop := inputsTakesUptoRow.holds Tryd.pinned (OpenSpec.upto inputsTakesSpec)

/-- 'crossbucklaw14.InputsStale', WHERE WHAT IT READS IS OF BULK AT MOST 1048576: true; the input reads as it did. -/
def inputsStaleUptoRow : OpenClaim := { program := "ytolfdfbhignniaadoor", sum := "2c599e9d4e4c3938092971002c5f7848952863d4ba21c11a91d40bcf02d32dba", func := "crossbuck/crossbucklaw14.InputsStale", spec := "inputsStale", inPlace := ["internal/reflectlite.ValueOf", "(internal/reflectlite.Value).Type", "(internal/reflectlite.Value).IsNil", "internal/reflectlite.TypeOf", "(internal/reflectlite.Value).Elem", "(internal/reflectlite.Value).Set"], unfollowed := true, recurses := true, named := ["errors.errorType"], apart := false, laid := [("errors.errorType", laid_errors_errorType)], narrowed := true }
def InputsStaleUptoSaid : Prop := inputsStaleUptoRow.holds Tryd.pinned (OpenSpec.upto inputsStaleSpec)

/-- 'crossbucklaw14.InputsRefused', WHERE WHAT IT READS IS OF BULK AT MOST 1048576: true; the input reads as it did. -/
def inputsRefusedUptoRow : OpenClaim := { program := "ytolfdfbhignniaadoor", sum := "2c599e9d4e4c3938092971002c5f7848952863d4ba21c11a91d40bcf02d32dba", func := "crossbuck/crossbucklaw14.InputsRefused", spec := "inputsRefused", inPlace := ["internal/reflectlite.ValueOf", "(internal/reflectlite.Value).Type", "(internal/reflectlite.Value).IsNil", "internal/reflectlite.TypeOf", "(internal/reflectlite.Value).Elem", "(internal/reflectlite.Value).Set"], unfollowed := true, recurses := true, named := ["errors.errorType"], apart := false, laid := [("errors.errorType", laid_errors_errorType)], narrowed := true }
def InputsRefusedUptoSaid : Prop := inputsRefusedUptoRow.holds Tryd.pinned (OpenSpec.upto inputsRefusedSpec)

/-- 'crossbucklaw14.InputsTold', WHERE WHAT IT READS IS OF BULK AT MOST 1048576: true; the input reads as it did. -/
def inputsToldUptoRow : OpenClaim := { program := "ytolfdfbhignniaadoor", sum := "2c599e9d4e4c3938092971002c5f7848952863d4ba21c11a91d40bcf02d32dba", func := "crossbuck/crossbucklaw14.InputsTold", spec := "inputsTold", inPlace := ["internal/reflectlite.ValueOf", "(internal/reflectlite.Value).Type", "(internal/reflectlite.Value).IsNil", "internal/reflectlite.TypeOf", "(internal/reflectlite.Value).Elem", "(internal/reflectlite.Value).Set"], unfollowed := true, recurses := true, named := ["errors.errorType"], apart := false, laid := [("errors.errorType", laid_errors_errorType)], narrowed := true }
def InputsToldUptoSaid : Prop := inputsToldUptoRow.holds Tryd.pinned (OpenSpec.upto inputsToldSpec)

/-- 'crossbucklaw14.InputsLost', WHERE WHAT IT READS IS OF BULK AT MOST 1048576: true; the input reads as it did. -/
def inputsLostUptoRow : OpenClaim := { program := "ytolfdfbhignniaadoor", sum := "2c599e9d4e4c3938092971002c5f7848952863d4ba21c11a91d40bcf02d32dba", func := "crossbuck/crossbucklaw14.InputsLost", spec := "inputsLost", inPlace := ["internal/reflectlite.ValueOf", "(internal/reflectlite.Value).Type", "(internal/reflectlite.Value).IsNil", "internal/reflectlite.TypeOf", "(internal/reflectlite.Value).Elem", "(internal/reflectlite.Value).Set"], unfollowed := true, recurses := true, named := ["errors.errorType"], apart := false, laid := [("errors.errorType", laid_errors_errorType)], narrowed := true }
def InputsLostUptoSaid : Prop := inputsLostUptoRow.holds Tryd.pinned (OpenSpec.upto inputsLostSpec)

end Rows
end Go.Proofs.YtolfdfbhignniaaDoor

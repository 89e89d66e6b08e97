/-
  NARROWER THAN 'FOR EVERY INPUT', by the rows' own cells (each row's printed sentence says how): DelayReckons: laid · DelayTables: laid · DelayWarns: laid · DelayOrder: laid · DelaySums: laid · DelayBounds: laid.
  DERIVED. THE GIVEN ROWS OF THIS SEAT. 6 by the template 'for every input the law returns true; each argument reads behind the call as it read before'; 0 by the template 'total and deterministic' (their statements: YtkagkfgnnhdofaaDoorTotals.lean).
  GIVEN WITH THE SEED: the statements are not yours to turn. If you find one false, say at which input.
  Laid BY PROGRAM, IN A SANDBOX (cutbox-rows.mjs): the forced cells as the released guide's own fill.sh prints them over the translation 444836fc7d985e9c… (all of the seat's roots in one cut). By AI agents, Wed Nov 11 2026. No macro, syntax, notation, axiom, sorry.
-/
import Derived.Test.YtkagkfgnnhdofaaDoorChecked
import GoSem.Claim
import GoSem.ClaimJoined
import GoSem.ClaimMapViews
import Derived.JoinedTies
import Derived.KernelRfl
namespace Go.Proofs.YtkagkfgnnhdofaaDoor
/- THE CELL 'sum', in the pinned program and in every row, IS THE sha256 OF THE DUMP (.gsa) THAT YtkagkfgnnhdofaaDoorProg.lean LOADS. Nothing in Lean hashes anything: it is a label: what it is worth is what the hold of that sum in a sandbox is worth. -/
noncomputable def Tryd.pinned : Pinned := { name := "ytkagkfgnnhdofaadoor", sum := "444836fc7d985e9c76d62e7ab128e03289d15105344bf1239258cfc2dc1e137a", checked := Tryd.checked }
namespace Rows
def none {H : Type} : Left H := { results := [], args := [] }

/- WHAT THE LISTED PACKAGE-LEVEL VARIABLES READ AS WHEN THE CALL BEGINS. Each datum BY PROGRAM (the guide's laid-datum.mjs) off the statement by which the dump's own 'gosem.cut.vars' lays the variable. In a bare row this is a premise. The card (YtkagkfgnnhdofaaDoorCards.lean) ties it to the program's text. -/
def laid_errors_errorType {H : Type} : DataW H := .iface "internal/reflectlite.rtype" (.agg [.ptr (.lit (.string [101, 114, 114, 111, 114]))])

/-- 'crossbucklaw09.DelayReckons': WHATEVER THE INPUT: true; the input reads as it did. -/
def delayReckonsSpec : ChangeSpec := { name := "delayReckons", fn := fun _ => fun
  | [d1, d2] => { results := [.lit (.bool true)], args := [d1, d2] }
  | _ => none }
def delayReckonsRow : OpenClaim := { program := "ytkagkfgnnhdofaadoor", sum := "444836fc7d985e9c76d62e7ab128e03289d15105344bf1239258cfc2dc1e137a", func := "crossbuck/crossbucklaw09.DelayReckons", spec := "delayReckons", inPlace := ["internal/reflectlite.ValueOf", "(internal/reflectlite.Value).Type", "(internal/reflectlite.Value).IsNil", "internal/reflectlite.TypeOf", "(internal/reflectlite.Value).Elem", "(internal/reflectlite.Value).Set"], unfollowed := true, recurses := true, named := ["errors.errorType"], apart := false, laid := [("errors.errorType", laid_errors_errorType)] }
def DelayReckonsSaid : Prop := delayReckonsRow.holds Tryd.pinned (OpenSpec.ofChange delayReckonsSpec)

/-- ITS FALSE NEIGHBOUR: 'it returns false'. Refute it at one input. -/
def delayReckonsWrong : ChangeSpec := { name := "delayReckons", fn := fun _ => fun
  | [d1, d2] => { results := [.lit (.bool false)], args := [d1, d2] }
  | _ => none }
def DelayReckonsWrongFalsely : Prop := delayReckonsRow.holds Tryd.pinned (OpenSpec.ofChange delayReckonsWrong)

/-- 'crossbucklaw09.DelayTables': WHATEVER THE INPUT: true; the input reads as it did. -/
def delayTablesSpec : ChangeSpec := { name := "delayTables", fn := fun _ => fun
  | [d1, d2, d3] => { results := [.lit (.bool true)], args := [d1, d2, d3] }
  | _ => none }
def delayTablesRow : OpenClaim := { program := "ytkagkfgnnhdofaadoor", sum := "444836fc7d985e9c76d62e7ab128e03289d15105344bf1239258cfc2dc1e137a", func := "crossbuck/crossbucklaw09.DelayTables", spec := "delayTables", inPlace := ["internal/reflectlite.ValueOf", "(internal/reflectlite.Value).Type", "(internal/reflectlite.Value).IsNil", "internal/reflectlite.TypeOf", "(internal/reflectlite.Value).Elem", "(internal/reflectlite.Value).Set"], unfollowed := true, recurses := true, named := ["errors.errorType"], apart := false, laid := [("errors.errorType", laid_errors_errorType)] }
def DelayTablesSaid : Prop := delayTablesRow.holds Tryd.pinned (OpenSpec.ofChange delayTablesSpec)

/-- ITS FALSE NEIGHBOUR: 'it returns false'. Refute it at one input. -/
def delayTablesWrong : ChangeSpec := { name := "delayTables", fn := fun _ => fun
  | [d1, d2, d3] => { results := [.lit (.bool false)], args := [d1, d2, d3] }
  | _ => none }
def DelayTablesWrongFalsely : Prop := delayTablesRow.holds Tryd.pinned (OpenSpec.ofChange delayTablesWrong)

/-- 'crossbucklaw09.DelayWarns': WHATEVER THE INPUT: true; the input reads as it did. -/
def delayWarnsSpec : ChangeSpec := { name := "delayWarns", fn := fun _ => fun
  | [d1, d2, d3, d4] => { results := [.lit (.bool true)], args := [d1, d2, d3, d4] }
  | _ => none }
def delayWarnsRow : OpenClaim := { program := "ytkagkfgnnhdofaadoor", sum := "444836fc7d985e9c76d62e7ab128e03289d15105344bf1239258cfc2dc1e137a", func := "crossbuck/crossbucklaw09.DelayWarns", spec := "delayWarns", inPlace := ["internal/reflectlite.ValueOf", "(internal/reflectlite.Value).Type", "(internal/reflectlite.Value).IsNil", "internal/reflectlite.TypeOf", "(internal/reflectlite.Value).Elem", "(internal/reflectlite.Value).Set"], unfollowed := true, recurses := true, named := ["errors.errorType"], apart := false, laid := [("errors.errorType", laid_errors_errorType)] }
def DelayWarnsSaid : Prop := delayWarnsRow.holds Tryd.pinned (OpenSpec.ofChange delayWarnsSpec)

/-- ITS FALSE NEIGHBOUR: 'it returns false'. Refute it at one input. -/
def delayWarnsWrong : ChangeSpec := { name := "delayWarns", fn := fun _ => fun
  | [d1, d2, d3, d4] => { results := [.lit (.bool false)], args := [d1, d2, d3, d4] }
  | _ => none }
def DelayWarnsWrongFalsely : Prop := delayWarnsRow.holds Tryd.pinned (OpenSpec.ofChange delayWarnsWrong)

/-- 'crossbucklaw09.DelayOrder': WHATEVER THE INPUT: true; the input reads as it did. -/
def delayOrderSpec : ChangeSpec := { name := "delayOrder", fn := fun _ => fun
  | [d1, d2, d3] => { results := [.lit (.bool true)], args := [d1, d2, d3] }
  | _ => none }
def delayOrderRow : OpenClaim := { program := "ytkagkfgnnhdofaadoor", sum := "444836fc7d985e9c76d62e7ab128e03289d15105344bf1239258cfc2dc1e137a", func := "crossbuck/crossbucklaw09.DelayOrder", spec := "delayOrder", inPlace := ["internal/reflectlite.ValueOf", "(internal/reflectlite.Value).Type", "(internal/reflectlite.Value).IsNil", "internal/reflectlite.TypeOf", "(internal/reflectlite.Value).Elem", "(internal/reflectlite.Value).Set"], unfollowed := true, recurses := true, named := ["errors.errorType"], apart := false, laid := [("errors.errorType", laid_errors_errorType)] }
def DelayOrderSaid : Prop := delayOrderRow.holds Tryd.pinned (OpenSpec.ofChange delayOrderSpec)

/-- ITS FALSE NEIGHBOUR: 'it returns false'. Refute it at one input. -/
def delayOrderWrong : ChangeSpec := { name := "delayOrder", fn := fun _ => fun
  | [d1, d2, d3] => { results := [.lit (.bool false)], args := [d1, d2, d3] }
  | _ => none }
def DelayOrderWrongFalsely : Prop := delayOrderRow.holds Tryd.pinned (OpenSpec.ofChange delayOrderWrong)

/-- 'crossbucklaw09.DelaySums': WHATEVER THE INPUT: true; the input reads as it did. -/
def delaySumsSpec : ChangeSpec := { name := "delaySums", fn := fun _ => fun
  | [d1, d2] => { results := [.lit (.bool true)], args := [d1, d2] }
  | _ => none }
def delaySumsRow : OpenClaim := { program := "ytkagkfgnnhdofaadoor", sum := "444836fc7d985e9c76d62e7ab128e03289d15105344bf1239258cfc2dc1e137a", func := "crossbuck/crossbucklaw09.DelaySums", spec := "delaySums", inPlace := ["internal/reflectlite.ValueOf", "(internal/reflectlite.Value).Type", "(internal/reflectlite.Value).IsNil", "internal/reflectlite.TypeOf", "(internal/reflectlite.Value).Elem", "(internal/reflectlite.Value).Set"], unfollowed := true, recurses := true, named := ["errors.errorType"], apart := false, laid := [("errors.errorType", laid_errors_errorType)] }
def DelaySumsSaid : Prop := delaySumsRow.holds Tryd.pinned (OpenSpec.ofChange delaySumsSpec)

/-- ITS FALSE NEIGHBOUR: 'it returns false'. Refute it at one input. -/
def delaySumsWrong : ChangeSpec := { name := "delaySums", fn := fun _ => fun
  | [d1, d2] => { results := [.lit (.bool false)], args := [d1, d2] }
  | _ => none }
def DelaySumsWrongFalsely : Prop := delaySumsRow.holds Tryd.pinned (OpenSpec.ofChange delaySumsWrong)

/-- 'crossbucklaw09.DelayBounds': WHATEVER THE INPUT: true; the input reads as it did. -/
def delayBoundsSpec : ChangeSpec := { name := "delayBounds", fn := fun _ => fun
  | [d1, d2] => { results := [.lit (.bool true)], args := [d1, d2] }
  | _ => none }
def delayBoundsRow : OpenClaim := { program := "ytkagkfgnnhdofaadoor", sum := "444836fc7d985e9c76d62e7ab128e03289d15105344bf1239258cfc2dc1e137a", func := "crossbuck/crossbucklaw09.DelayBounds", spec := "delayBounds", inPlace := ["internal/reflectlite.ValueOf", "(internal/reflectlite.Value).Type", "(internal/reflectlite.Value).IsNil", "internal/reflectlite.TypeOf", "(internal/reflectlite.Value).Elem", "(internal/reflectlite.Value).Set"], unfollowed := true, recurses := true, named := ["errors.errorType"], apart := false, laid := [("errors.errorType", laid_errors_errorType)] }
def DelayBoundsSaid : Prop := delayBoundsRow.holds Tryd.pinned (OpenSpec.ofChange delayBoundsSpec)

/-- ITS FALSE NEIGHBOUR: 'it returns false'. Refute it at one input. -/
def delayBoundsWrong : ChangeSpec := { name := "delayBounds", fn := fun _ => fun
  | [d1, d2] => { results := [.lit (.bool false)], args := [d1, d2] }
  | _ => none }
def DelayBoundsWrongFalsely : Prop := delayBoundsRow.holds Tryd.pinned (OpenSpec.ofChange delayBoundsWrong)

/- THE SECOND FORM. 'bulk': how many values and letters a reading holds, each counted each time it is reached (what is shared counts as often as it is met; a slice's spare places count too). A statement '..UptoSaid' is the law's where the arguments, and the package variables that the reading takes, are together of bulk at most 1048576: NARROWER than '..Said'. Prove '..Said' where nothing that the law and all that it calls make is longer than what came in: it says more and counts as full. Else prove '..UptoSaid'. A law counts once. -/
mutual
def uptoBulk {H : Type} : DataW H → Nat
  | .lit (.string bytes) => bytes.length + 1
  | .lit _ => 1
  | .nil => 1
  | .ptr d => uptoBulk d + 1
  | .slice elems spare => uptoBulkAll elems + uptoBulkAll spare + 1
  | .agg parts => uptoBulkAll parts + 1
  | .iface _ d => uptoBulk d + 1
  | .map entries => uptoBulkEntries entries + 1
  | .held _ => 1
def uptoBulkAll {H : Type} : List (DataW H) → Nat
  | [] => 0
  | d :: r => uptoBulk d + uptoBulkAll r
def uptoBulkEntries {H : Type} : List (Lit × DataW H) → Nat
  | [] => 0
  | x :: r => uptoBulkEntry x + uptoBulkEntries r
def uptoBulkEntry {H : Type} : Lit × DataW H → Nat
  | (.string bytes, d) => bytes.length + uptoBulk d + 1
  | (_, d) => uptoBulk d + 1
 end
def uptoSmall : (H : Type) → List (DataW H) → Bool := fun _ ds => decide (uptoBulkAll ds ≤ 1048576)
def OpenSpec.upto (s : _root_.Go.ChangeSpec) : _root_.Go.OpenSpec := { _root_.Go.OpenSpec.ofChange s with cond := some uptoSmall }

/-- 'crossbucklaw09.DelayReckons', WHERE WHAT IT READS IS OF BULK AT MOST 1048576: true; the input reads as it did. -/
def delayReckonsUptoRow : OpenClaim := { program := "ytkagkfgnnhdofaadoor", sum := "444836fc7d985e9c76d62e7ab128e03289d15105344bf1239258cfc2dc1e137a", func := "crossbuck/crossbucklaw09.DelayReckons", spec := "delayReckons", inPlace := ["internal/reflectlite.ValueOf", "(internal/reflectlite.Value).Type", "(internal/reflectlite.Value).IsNil", "internal/reflectlite.TypeOf", "(internal/reflectlite.Value).Elem", "(internal/reflectlite.Value).Set"], unfollowed := true, recurses := true, named := ["errors.errorType"], apart := false, laid := [("errors.errorType", laid_errors_errorType)], narrowed := true }
def DelayReckonsUptoSaid : Prop := delayReckonsUptoRow.holds Tryd.pinned (OpenSpec.upto delayReckonsSpec)

/-- 'crossbucklaw09.DelayTables', WHERE WHAT IT READS IS OF BULK AT MOST 1048576: true; the input reads as it did. -/
def delayTablesUptoRow : OpenClaim := { program := "ytkagkfgnnhdofaadoor", sum := "444836fc7d985e9c76d62e7ab128e03289d15105344bf1239258cfc2dc1e137a", func := "crossbuck/crossbucklaw09.DelayTables", spec := "delayTables", inPlace := ["internal/reflectlite.ValueOf", "(internal/reflectlite.Value).Type", "(internal/reflectlite.Value).IsNil", "internal/reflectlite.TypeOf", "(internal/reflectlite.Value).Elem", "(internal/reflectlite.Value).Set"], unfollowed := true, recurses := true, named := ["errors.errorType"], apart := false, laid := [("errors.errorType", laid_errors_errorType)], narrowed := true }
def DelayTablesUptoSaid : Prop := delayTablesUptoRow.holds Tryd.pinned (OpenSpec.upto delayTablesSpec)

/-- 'crossbucklaw09.DelayWarns', WHERE WHAT IT READS IS OF BULK AT MOST 1048576: true; the input reads as it did. -/
def delayWarnsUptoRow : OpenClaim := { program := "ytkagkfgnnhdofaadoor", sum := "444836fc7d985e9c76d62e7ab128e03289d15105344bf1239258cfc2dc1e137a", func := "crossbuck/crossbucklaw09.DelayWarns", spec := "delayWarns", inPlace := ["internal/reflectlite.ValueOf", "(internal/reflectlite.Value).Type", "(internal/reflectlite.Value).IsNil", "internal/reflectlite.TypeOf", "(internal/reflectlite.Value).Elem", "(internal/reflectlite.Value).Set"], unfollowed := true, recurses := true, named := ["errors.errorType"], apart := false, laid := [("errors.errorType", laid_errors_errorType)], narrowed := true }
def DelayWarnsUptoSaid : Prop := delayWarnsUptoRow.holds Tryd.pinned (OpenSpec.upto delayWarnsSpec)

/-- 'crossbucklaw09.DelayOrder', WHERE WHAT IT READS IS OF BULK AT MOST 1048576: true; the input reads as it did. -/
def delayOrderUptoRow : OpenClaim := { program := "ytkagkfgnnhdofaadoor", sum := "444836fc7d985e9c76d62e7ab128e03289d15105344bf1239258cfc2dc1e137a", func := "crossbuck/crossbucklaw09.DelayOrder", spec := "delayOrder", inPlace := ["internal/reflectlite.ValueOf", "(internal/reflectlite.Value).Type", "(internal/reflectlite.Value).IsNil", "internal/reflectlite.TypeOf", "(internal/reflectlite.Value).Elem", "(internal/reflectlite.Value).Set"], unfollowed := true, recurses := true, named := ["errors.errorType"], apart := false, laid := [("errors.errorType", laid_errors_errorType)], narrowed := true }
def DelayOrderUptoSaid : Prop := delayOrderUptoRow.holds Tryd.pinned (OpenSpec.upto delayOrderSpec)

/-- 'crossbucklaw09.DelaySums', WHERE WHAT IT READS IS OF BULK AT MOST 1048576: true; the input reads as it did. -/
def delaySumsUptoRow : OpenClaim := { program := "ytkagkfgnnhdofaadoor", sum := "444836fc7d985e9c76d62e7ab128e03289d15105344bf1239258cfc2dc1e137a", func := "crossbuck/crossbucklaw09.DelaySums", spec := "delaySums", inPlace := ["internal/reflectlite.ValueOf", "(internal/reflectlite.Value).Type", "(internal/reflectlite.Value).IsNil", "internal/reflectlite.TypeOf", "(internal/reflectlite.Value).Elem", "(internal/reflectlite.Value).Set"], unfollowed := true, recurses := true, named := ["errors.errorType"], apart := false, laid := [("errors.errorType", laid_errors_errorType)], narrowed := true }
def DelaySumsUptoSaid : Prop := delaySumsUptoRow.holds Tryd.pinned (OpenSpec.upto delaySumsSpec)

/-- 'crossbucklaw09.DelayBounds', WHERE WHAT IT READS IS OF BULK AT MOST 1048576: true; the input reads as it did. -/
def delayBoundsUptoRow : OpenClaim := { program := "ytkagkfgnnhdofaadoor", sum := "444836fc7d985e9c76d62e7ab128e03289d15105344bf1239258cfc2dc1e137a", func := "crossbuck/crossbucklaw09.DelayBounds", spec := "delayBounds", inPlace := ["internal/reflectlite.ValueOf", "(internal/reflectlite.Value).Type", "(internal/reflectlite.Value).IsNil", "internal/reflectlite.TypeOf", "(internal/reflectlite.Value).Elem", "(internal/reflectlite.Value).Set"], unfollowed := true, recurses := true, named := ["errors.errorType"], apart := false, laid := [("errors.errorType", laid_errors_errorType)], narrowed := true }
def DelayBoundsUptoSaid : Prop := delayBoundsUptoRow.holds Tryd.pinned (OpenSpec.upto delayBoundsSpec)

end Rows
end Go.Proofs.YtkagkfgnnhdofaaDoor

/-
  No cell of these rows narrows 'for every input' (looked for: loops, veiled, ifaces, maps, wideKeys, modest, calm, conditions, laid).
  DERIVED. THE GIVEN ROWS OF THIS SEAT. 5 by the template 'for every input the law returns true; each argument reads behind the call as it read before'; 0 by the template 'total and deterministic' (their statements: YtnbhjnbdnngiiaaTotals.lean).
  GIVEN WITH THE SEED: the statements are not yours to turn. If you find one false, say at which input.
  Laid BY PROGRAM, IN A SANDBOX (cutbox-rows.mjs): the forced cells as the released guide's own fill.sh prints them over the translation 8947a120de6f7f40… (all of the seat's roots in one cut). By AI agents, Wed Nov 11 2026. No macro, syntax, notation, axiom, sorry.
-/
import Derived.Test.YtnbhjnbdnngiiaaChecked
import GoSem.Claim
import GoSem.ClaimJoined
import GoSem.ClaimMapViews
import Derived.JoinedTies
import Derived.KernelRfl
namespace Go.Proofs.Ytnbhjnbdnngiiaa
/- THE CELL 'sum', in the pinned program and in every row, IS THE sha256 OF THE DUMP (.gsa) THAT YtnbhjnbdnngiiaaProg.lean LOADS. Nothing in Lean hashes anything: it is a label: what it is worth is what the hold of that sum in a sandbox is worth. -/
noncomputable def Try.pinned : Pinned := { name := "ytnbhjnbdnngiiaa", sum := "8947a120de6f7f40a8f0132690a0dbd173e3714241b27b1c850ef87048964e51", checked := Try.checked }
namespace Rows
def none {H : Type} : Left H := { results := [], args := [] }

/-- 'crossbucklaw13.SensorReads': WHATEVER THE INPUT: true; the input reads as it did. -/
def sensorReadsSpec : ChangeSpec := { name := "sensorReads", fn := fun _ => fun
  | [d1, d2, d3] => { results := [.lit (.bool true)], args := [d1, d2, d3] }
  | _ => none }
def sensorReadsRow : OpenClaim := { program := "ytnbhjnbdnngiiaa", sum := "8947a120de6f7f40a8f0132690a0dbd173e3714241b27b1c850ef87048964e51", func := "crossbuck/crossbucklaw13.SensorReads", spec := "sensorReads", apart := false }
def SensorReadsSaid : Prop := sensorReadsRow.holds Try.pinned (OpenSpec.ofChange sensorReadsSpec)

/-- ITS FALSE NEIGHBOUR: 'it returns false'. Refute it at one input. -/
def sensorReadsWrong : ChangeSpec := { name := "sensorReads", fn := fun _ => fun
  | [d1, d2, d3] => { results := [.lit (.bool false)], args := [d1, d2, d3] }
  | _ => none }
def SensorReadsWrongFalsely : Prop := sensorReadsRow.holds Try.pinned (OpenSpec.ofChange sensorReadsWrong)

/-- 'crossbucklaw13.SensorBack': WHATEVER THE INPUT: true; the input reads as it did. -/
def sensorBackSpec : ChangeSpec := { name := "sensorBack", fn := fun _ => fun
  | [d] => { results := [.lit (.bool true)], args := [d] }
  | _ => none }
def sensorBackRow : OpenClaim := { program := "ytnbhjnbdnngiiaa", sum := "8947a120de6f7f40a8f0132690a0dbd173e3714241b27b1c850ef87048964e51", func := "crossbuck/crossbucklaw13.SensorBack", spec := "sensorBack", apart := false }
def SensorBackSaid : Prop := sensorBackRow.holds Try.pinned (OpenSpec.ofChange sensorBackSpec)

/-- ITS FALSE NEIGHBOUR: 'it returns false'. Refute it at one input. -/
def sensorBackWrong : ChangeSpec := { name := "sensorBack", fn := fun _ => fun
  | [d] => { results := [.lit (.bool false)], args := [d] }
  | _ => none }
def SensorBackWrongFalsely : Prop := sensorBackRow.holds Try.pinned (OpenSpec.ofChange sensorBackWrong)

/-- 'crossbucklaw13.SensorTight': WHATEVER THE INPUT: true; the input reads as it did. -/
def sensorTightSpec : ChangeSpec := { name := "sensorTight", fn := fun _ => fun
  | [d1, d2, d3] => { results := [.lit (.bool true)], args := [d1, d2, d3] }
  | _ => none }
def sensorTightRow : OpenClaim := { program := "ytnbhjnbdnngiiaa", sum := "8947a120de6f7f40a8f0132690a0dbd173e3714241b27b1c850ef87048964e51", func := "crossbuck/crossbucklaw13.SensorTight", spec := "sensorTight", apart := false }
def SensorTightSaid : Prop := sensorTightRow.holds Try.pinned (OpenSpec.ofChange sensorTightSpec)

/-- ITS FALSE NEIGHBOUR: 'it returns false'. Refute it at one input. -/
def sensorTightWrong : ChangeSpec := { name := "sensorTight", fn := fun _ => fun
  | [d1, d2, d3] => { results := [.lit (.bool false)], args := [d1, d2, d3] }
  | _ => none }
def SensorTightWrongFalsely : Prop := sensorTightRow.holds Try.pinned (OpenSpec.ofChange sensorTightWrong)

/-- 'crossbucklaw13.SensorSure': WHATEVER THE INPUT: true; the input reads as it did. -/
def sensorSureSpec : ChangeSpec := { name := "sensorSure", fn := fun _ => fun
  | [d1, d2, d3] => { results := [.lit (.bool true)], args := [d1, d2, d3] }
  | _ => none }
def sensorSureRow : OpenClaim := { program := "ytnbhjnbdnngiiaa", sum := "8947a120de6f7f40a8f0132690a0dbd173e3714241b27b1c850ef87048964e51", func := "crossbuck/crossbucklaw13.SensorSure", spec := "sensorSure", apart := false }
def SensorSureSaid : Prop := sensorSureRow.holds Try.pinned (OpenSpec.ofChange sensorSureSpec)

/-- ITS FALSE NEIGHBOUR: 'it returns false'. Refute it at one input. -/
def sensorSureWrong : ChangeSpec := { name := "sensorSure", fn := fun _ => fun
  | [d1, d2, d3] => { results := [.lit (.bool false)], args := [d1, d2, d3] }
  | _ => none }
def SensorSureWrongFalsely : Prop := sensorSureRow.holds Try.pinned (OpenSpec.ofChange sensorSureWrong)

/-- 'crossbucklaw13.SensorOnce': WHATEVER THE INPUT: true; the input reads as it did. -/
def sensorOnceSpec : ChangeSpec := { name := "sensorOnce", fn := fun _ => fun
  | [d] => { results := [.lit (.bool true)], args := [d] }
  | _ => none }
def sensorOnceRow : OpenClaim := { program := "ytnbhjnbdnngiiaa", sum := "8947a120de6f7f40a8f0132690a0dbd173e3714241b27b1c850ef87048964e51", func := "crossbuck/crossbucklaw13.SensorOnce", spec := "sensorOnce", apart := false }
def SensorOnceSaid : Prop := sensorOnceRow.holds Try.pinned (OpenSpec.ofChange sensorOnceSpec)

/-- ITS FALSE NEIGHBOUR: 'it returns false'. Refute it at one input. -/
def sensorOnceWrong : ChangeSpec := { name := "sensorOnce", fn := fun _ => fun
  | [d] => { results := [.lit (.bool false)], args := [d] }
  | _ => none }
def SensorOnceWrongFalsely : Prop := sensorOnceRow.holds Try.pinned (OpenSpec.ofChange sensorOnceWrong)

/- THE SECOND FORM. 'bulk': how many values and letters a reading holds, each counted each time it is reached (what is shared counts as often as it is met; a slice's spare places count too). A statement '..UptoSaid' is the law's where the arguments, and the package variables that the reading takes, are together of bulk at most 1048576: NARROWER than '..Said'. Prove '..Said' where nothing that the law and all that it calls make is longer than what came in: it says more and counts as full. Else prove '..UptoSaid'. A law counts once. -/
mutual
def uptoBulk {H : Type} : DataW H → Nat
  | .lit (.string bytes) => bytes.length + 1
  | .lit _ => 1
  | .nil => 1
  | .ptr d => uptoBulk d + 1
  | .slice elems spare => uptoBulkAll elems + uptoBulkAll spare + 1
  | .agg parts => uptoBulkAll parts + 1
  | .iface _ d => uptoBulk d + 1
  | .map entries => uptoBulkEntries entries + 1
  | .held _ => 1
def uptoBulkAll {H : Type} : List (DataW H) → Nat
  | [] => 0
  | d :: r => uptoBulk d + uptoBulkAll r
def uptoBulkEntries {H : Type} : List (Lit × DataW H) → Nat
  | [] => 0
  | x :: r => uptoBulkEntry x + uptoBulkEntries r
def uptoBulkEntry {H : Type} : Lit × DataW H → Nat
  | (.string bytes, d) => bytes.length + uptoBulk d + 1
  | (_, d) => uptoBulk d + 1
 end
def uptoSmall : (H : Type) → List (DataW H) → Bool := fun _ ds => decide (uptoBulkAll ds ≤ 1048576)
def OpenSpec.upto (s : _root_.Go.ChangeSpec) : _root_.Go.OpenSpec := { _root_.Go.OpenSpec.ofChange s with cond := some uptoSmall }

/-- 'crossbucklaw13.SensorReads', WHERE WHAT IT READS IS OF BULK AT MOST 1048576: true; the input reads as it did. -/
def sensorReadsUptoRow : OpenClaim := { program := "ytnbhjnbdnngiiaa", sum := "8947a120de6f7f40a8f0132690a0dbd173e3714241b27b1c850ef87048964e51", func := "crossbuck/crossbucklaw13.SensorReads", spec := "sensorReads", apart := false, narrowed := true }
def SensorReadsUptoSaid : Prop := sensorReadsUptoRow.holds Try.pinned (OpenSpec.upto sensorReadsSpec)

/-- 'crossbucklaw13.SensorBack', WHERE WHAT IT READS IS OF BULK AT MOST 1048576: true; the input reads as it did. -/
def sensorBackUptoRow : OpenClaim := { program := "ytnbhjnbdnngiiaa", sum := "8947a120de6f7f40a8f0132690a0dbd173e3714241b27b1c850ef87048964e51", func := "crossbuck/crossbucklaw13.SensorBack", spec := "sensorBack", apart := false, narrowed := true }
def SensorBackUptoSaid : Prop := sensorBackUptoRow.holds Try.pinned (OpenSpec.upto sensorBackSpec)

/-- 'crossbucklaw13.SensorTight', WHERE WHAT IT READS IS OF BULK AT MOST 1048576: true; the input reads as it did. -/
def sensorTightUptoRow : OpenClaim := { program := "ytnbhjnbdnngiiaa", sum := "8947a120de6f7f40a8f0132690a0dbd173e3714241b27b1c850ef87048964e51", func := "crossbuck/crossbucklaw13.SensorTight", spec := "sensorTight", apart := false, narrowed := true }
def SensorTightUptoSaid : Prop := sensorTightUptoRow.holds Try.pinned (OpenSpec.upto sensorTightSpec)

/-- 'crossbucklaw13.SensorSure', WHERE WHAT IT READS IS OF BULK AT MOST 1048576: true; the input reads as it did. -/
def sensorSureUptoRow : OpenClaim := { program := "ytnbhjnbdnngiiaa", sum := "8947a120de6f7f40a8f0132690a0dbd173e3714241b27b1c850ef87048964e51", func := "crossbuck/crossbucklaw13.SensorSure", spec := "sensorSure", apart := false, narrowed := true }
def SensorSureUptoSaid : Prop := sensorSureUptoRow.holds Try.pinned (OpenSpec.upto sensorSureSpec)

/-- 'crossbucklaw13.SensorOnce', WHERE WHAT IT READS IS OF BULK AT MOST 1048576: true; the input reads as it did. -/
def sensorOnceUptoRow : OpenClaim := { program := "ytnbhjnbdnngiiaa", sum := "8947a120de6f7f40a8f0132690a0dbd173e3714241b27b1c850ef87048964e51", func := "crossbuck/crossbucklaw13.SensorOnce", spec := "sensorOnce", apart := false, narrowed := true }
def SensorOnceUptoSaid : Prop := sensorOnceUptoRow.holds Try.pinned (OpenSpec.upto sensorOnceSpec)

end Rows
end Go.Proofs.Ytnbhjnbdnngiiaa

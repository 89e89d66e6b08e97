/-
  No cell of these rows narrows 'for every input' (looked for: loops, veiled, ifaces, maps, wideKeys, modest, calm, conditions, laid).
  DERIVED. THE GIVEN ROWS OF THIS SEAT. 5 by the template 'for every input the law returns true; each argument reads behind the call as it read before'; 0 by the template 'total and deterministic' (their statements: YtgkihalokedmaaaTotals.lean).
  GIVEN WITH THE SEED: the statements are not yours to turn. If you find one false, say at which input.
  Laid BY PROGRAM, IN A SANDBOX (cutbox-rows.mjs): the forced cells as the released guide's own fill.sh prints them over the translation f4f0da94d1e4c4f0… (all of the seat's roots in one cut). By AI agents, Wed Nov 11 2026. No macro, syntax, notation, axiom, sorry.
-/
import Derived.Test.YtgkihalokedmaaaChecked
import GoSem.Claim
import GoSem.ClaimJoined
import GoSem.ClaimMapViews
import Derived.JoinedTies
import Derived.KernelRfl
namespace Go.Proofs.Ytgkihalokedmaaa
/- THE CELL 'sum', in the pinned program and in every row, IS THE sha256 OF THE DUMP (.gsa) THAT YtgkihalokedmaaaProg.lean LOADS. Nothing in Lean hashes anything: it is a label: what it is worth is what the hold of that sum in a sandbox is worth. -/
noncomputable def Try.pinned : Pinned := { name := "ytgkihalokedmaaa", sum := "f4f0da94d1e4c4f0c3a34b16f3ace3563764ddfe088adf26abfe5784154bb5d6", checked := Try.checked }
namespace Rows
def none {H : Type} : Left H := { results := [], args := [] }

/-- 'crossbucklaw23.PolicyTells': WHATEVER THE INPUT: true; the input reads as it did. -/
def policyTellsSpec : ChangeSpec := { name := "policyTells", fn := fun _ => fun
  | [d1, d2, d3, d4, d5, d6, d7] => { results := [.lit (.bool true)], args := [d1, d2, d3, d4, d5, d6, d7] }
  | _ => none }
def policyTellsRow : OpenClaim := { program := "ytgkihalokedmaaa", sum := "f4f0da94d1e4c4f0c3a34b16f3ace3563764ddfe088adf26abfe5784154bb5d6", func := "crossbuck/crossbucklaw23.PolicyTells", spec := "policyTells", unfollowed := true, recurses := true, apart := false }
def PolicyTellsSaid : Prop := policyTellsRow.holds Try.pinned (OpenSpec.ofChange policyTellsSpec)

/-- ITS FALSE NEIGHBOUR: 'it returns false'. Refute it at one input. -/
def policyTellsWrong : ChangeSpec := { name := "policyTells", fn := fun _ => fun
  | [d1, d2, d3, d4, d5, d6, d7] => { results := [.lit (.bool false)], args := [d1, d2, d3, d4, d5, d6, d7] }
  | _ => none }
def PolicyTellsWrongFalsely : Prop := policyTellsRow.holds Try.pinned (OpenSpec.ofChange policyTellsWrong)

/-- 'crossbucklaw23.PolicySafe': WHATEVER THE INPUT: true; the input reads as it did. -/
def policySafeSpec : ChangeSpec := { name := "policySafe", fn := fun _ => fun
  | [d1, d2, d3, d4] => { results := [.lit (.bool true)], args := [d1, d2, d3, d4] }
  | _ => none }
def policySafeRow : OpenClaim := { program := "ytgkihalokedmaaa", sum := "f4f0da94d1e4c4f0c3a34b16f3ace3563764ddfe088adf26abfe5784154bb5d6", func := "crossbuck/crossbucklaw23.PolicySafe", spec := "policySafe", unfollowed := true, recurses := true, apart := false }
def PolicySafeSaid : Prop := policySafeRow.holds Try.pinned (OpenSpec.ofChange policySafeSpec)

/-- ITS FALSE NEIGHBOUR: 'it returns false'. Refute it at one input. -/
def policySafeWrong : ChangeSpec := { name := "policySafe", fn := fun _ => fun
  | [d1, d2, d3, d4] => { results := [.lit (.bool false)], args := [d1, d2, d3, d4] }
  | _ => none }
def PolicySafeWrongFalsely : Prop := policySafeRow.holds Try.pinned (OpenSpec.ofChange policySafeWrong)

/-- 'crossbucklaw23.PolicyRestarts': WHATEVER THE INPUT: true; the input reads as it did. -/
def policyRestartsSpec : ChangeSpec := { name := "policyRestarts", fn := fun _ => fun
  | [d1, d2, d3] => { results := [.lit (.bool true)], args := [d1, d2, d3] }
  | _ => none }
def policyRestartsRow : OpenClaim := { program := "ytgkihalokedmaaa", sum := "f4f0da94d1e4c4f0c3a34b16f3ace3563764ddfe088adf26abfe5784154bb5d6", func := "crossbuck/crossbucklaw23.PolicyRestarts", spec := "policyRestarts", unfollowed := true, recurses := true, apart := false }
def PolicyRestartsSaid : Prop := policyRestartsRow.holds Try.pinned (OpenSpec.ofChange policyRestartsSpec)

/-- ITS FALSE NEIGHBOUR: 'it returns false'. Refute it at one input. -/
def policyRestartsWrong : ChangeSpec := { name := "policyRestarts", fn := fun _ => fun
  | [d1, d2, d3] => { results := [.lit (.bool false)], args := [d1, d2, d3] }
  | _ => none }
def PolicyRestartsWrongFalsely : Prop := policyRestartsRow.holds Try.pinned (OpenSpec.ofChange policyRestartsWrong)

/-- 'crossbucklaw23.PolicyStops': WHATEVER THE INPUT: true; the input reads as it did. -/
def policyStopsSpec : ChangeSpec := { name := "policyStops", fn := fun _ => fun
  | [d1, d2] => { results := [.lit (.bool true)], args := [d1, d2] }
  | _ => none }
def policyStopsRow : OpenClaim := { program := "ytgkihalokedmaaa", sum := "f4f0da94d1e4c4f0c3a34b16f3ace3563764ddfe088adf26abfe5784154bb5d6", func := "crossbuck/crossbucklaw23.PolicyStops", spec := "policyStops", unfollowed := true, recurses := true, apart := false }
def PolicyStopsSaid : Prop := policyStopsRow.holds Try.pinned (OpenSpec.ofChange policyStopsSpec)

/-- ITS FALSE NEIGHBOUR: 'it returns false'. Refute it at one input. -/
def policyStopsWrong : ChangeSpec := { name := "policyStops", fn := fun _ => fun
  | [d1, d2] => { results := [.lit (.bool false)], args := [d1, d2] }
  | _ => none }
def PolicyStopsWrongFalsely : Prop := policyStopsRow.holds Try.pinned (OpenSpec.ofChange policyStopsWrong)

/-- 'crossbucklaw23.PolicyRoutes': WHATEVER THE INPUT: true; the input reads as it did. -/
def policyRoutesSpec : ChangeSpec := { name := "policyRoutes", fn := fun _ => fun
  | [d1, d2, d3, d4, d5] => { results := [.lit (.bool true)], args := [d1, d2, d3, d4, d5] }
  | _ => none }
def policyRoutesRow : OpenClaim := { program := "ytgkihalokedmaaa", sum := "f4f0da94d1e4c4f0c3a34b16f3ace3563764ddfe088adf26abfe5784154bb5d6", func := "crossbuck/crossbucklaw23.PolicyRoutes", spec := "policyRoutes", unfollowed := true, recurses := true, apart := false }
def PolicyRoutesSaid : Prop := policyRoutesRow.holds Try.pinned (OpenSpec.ofChange policyRoutesSpec)

/-- ITS FALSE NEIGHBOUR: 'it returns false'. Refute it at one input. -/
def policyRoutesWrong : ChangeSpec := { name := "policyRoutes", fn := fun _ => fun
  | [d1, d2, d3, d4, d5] => { results := [.lit (.bool false)], args := [d1, d2, d3, d4, d5] }
  | _ => none }
def PolicyRoutesWrongFalsely : Prop := policyRoutesRow.holds Try.pinned (OpenSpec.ofChange policyRoutesWrong)

/- THE SECOND FORM. 'bulk': how many values and letters a reading holds, each counted each time it is reached (what is shared counts as often as it is met; a slice's spare places count too). A statement '..UptoSaid' is the law's where the arguments, and the package variables that the reading takes, are together of bulk at most 1048576: NARROWER than '..Said'. Prove '..Said' where nothing that the law and all that it calls make is longer than what came in: it says more and counts as full. Else prove '..UptoSaid'. A law counts once. -/
mutual
def uptoBulk {H : Type} : DataW H → Nat
  | .lit (.string bytes) => bytes.length + 1
  | .lit _ => 1
  | .nil => 1
  | .ptr d => uptoBulk d + 1
  | .slice elems spare => uptoBulkAll elems + uptoBulkAll spare + 1
  | .agg parts => uptoBulkAll parts + 1
  | .iface _ d => uptoBulk d + 1
  | .map entries => uptoBulkEntries entries + 1
  | .held _ => 1
def uptoBulkAll {H : Type} : List (DataW H) → Nat
  | [] => 0
  | d :: r => uptoBulk d + uptoBulkAll r
def uptoBulkEntries {H : Type} : List (Lit × DataW H) → Nat
  | [] => 0
  | x :: r => uptoBulkEntry x + uptoBulkEntries r
def uptoBulkEntry {H : Type} : Lit × DataW H → Nat
  | (.string bytes, d) => bytes.length + uptoBulk d + 1
  | (_, d) => uptoBulk d + 1
 end
def uptoSmall : (H : Type) → List (DataW H) → Bool := fun _ ds => decide (uptoBulkAll ds ≤ 1048576)
def OpenSpec.upto (s : _root_.Go.ChangeSpec) : _root_.Go.OpenSpec := { _root_.Go.OpenSpec.ofChange s with cond := some uptoSmall }

/-- 'crossbucklaw23.PolicyTells', WHERE WHAT IT READS IS OF BULK AT MOST 1048576: true; the input reads as it did. -/
def policyTellsUptoRow : OpenClaim := { program := "ytgkihalokedmaaa", sum := "f4f0da94d1e4c4f0c3a34b16f3ace3563764ddfe088adf26abfe5784154bb5d6", func := "crossbuck/crossbucklaw23.PolicyTells", spec := "policyTells", unfollowed := true, recurses := true, apart := false, narrowed := true }
def PolicyTellsUptoSaid : Prop := policyTellsUptoRow.holds Try.pinned (OpenSpec.upto policyTellsSpec)

/-- 'crossbucklaw23.PolicySafe', WHERE WHAT IT READS IS OF BULK AT MOST 1048576: true; the input reads as it did. -/
def policySafeUptoRow : OpenClaim := { program := "ytgkihalokedmaaa", sum := "f4f0da94d1e4c4f0c3a34b16f3ace3563764ddfe088adf26abfe5784154bb5d6", func := "crossbuck/crossbucklaw23.PolicySafe", spec := "policySafe", unfollowed := true, recurses := true, apart := false, narrowed := true }
def PolicySafeUptoSaid : Prop := policySafeUptoRow.holds Try.pinned (OpenSpec.upto policySafeSpec)

/-- 'crossbucklaw23.PolicyRestarts', WHERE WHAT IT READS IS OF BULK AT MOST 1048576: true; the input reads as it did. -/
def policyRestartsUptoRow : OpenClaim := { program := "ytgkihalokedmaaa", sum := "f4f0da94d1e4c4f0c3a34b16f3ace3563764ddfe088adf26abfe5784154bb5d6", func := "crossbuck/crossbucklaw23.PolicyRestarts", spec := "policyRestarts", unfollowed := true, recurses := true, apart := false, narrowed := true }
def PolicyRestartsUptoSaid : Prop := policyRestartsUptoRow.holds Try.pinned (OpenSpec.upto policyRestartsSpec)

/-- 'crossbucklaw23.PolicyStops', WHERE WHAT IT READS IS OF BULK AT MOST 1048576: true; the input reads as it did. -/
def policyStopsUptoRow : OpenClaim := { program := "ytgkihalokedmaaa", sum := "f4f0da94d1e4c4f0c3a34b16f3ace3563764ddfe088adf26abfe5784154bb5d6", func := "crossbuck/crossbucklaw23.PolicyStops", spec := "policyStops", unfollowed := true, recurses := true, apart := false, narrowed := true }
def PolicyStopsUptoSaid : Prop := policyStopsUptoRow.holds Try.pinned (OpenSpec.upto policyStopsSpec)

/-- 'crossbucklaw23.PolicyRoutes', WHERE WHAT IT READS IS OF BULK AT MOST 1048576: true; the input reads as it did. -/
def policyRoutesUptoRow : OpenClaim := { program := "ytgkihalokedmaaa", sum := "f4f0da94d1e4c4f0c3a34b16f3ace3563764ddfe088adf26abfe5784154bb5d6", func := "crossbuck/crossbucklaw23.PolicyRoutes", spec := "policyRoutes", unfollowed := true, recurses := true, apart := false, narrowed := true }
def PolicyRoutesUptoSaid : Prop := policyRoutesUptoRow.holds Try.pinned (OpenSpec.upto policyRoutesSpec)

end Rows
end Go.Proofs.Ytgkihalokedmaaa

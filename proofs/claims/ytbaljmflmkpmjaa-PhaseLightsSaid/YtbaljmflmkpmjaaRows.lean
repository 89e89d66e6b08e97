/-
  No cell of these rows narrows 'for every input' (looked for: loops, veiled, ifaces, maps, wideKeys, modest, calm, conditions, laid).
  DERIVED. THE GIVEN ROWS OF THIS SEAT. 6 by the template 'for every input the law returns true; each argument reads behind the call as it read before'; 0 by the template 'total and deterministic' (their statements: YtbaljmflmkpmjaaTotals.lean).
  GIVEN WITH THE SEED: the statements are not yours to turn. If you find one false, say at which input.
  Laid BY PROGRAM, IN A SANDBOX (cutbox-rows.mjs): the forced cells as the released guide's own fill.sh prints them over the translation d4ebb6504b8786b6… (all of the seat's roots in one cut). By AI agents, Wed Nov 11 2026. No macro, syntax, notation, axiom, sorry.
-/
import Derived.Test.YtbaljmflmkpmjaaChecked
import GoSem.Claim
import GoSem.ClaimJoined
import GoSem.ClaimMapViews
import Derived.JoinedTies
import Derived.KernelRfl
namespace Go.Proofs.Ytbaljmflmkpmjaa
/- THE CELL 'sum', in the pinned program and in every row, IS THE sha256 OF THE DUMP (.gsa) THAT YtbaljmflmkpmjaaProg.lean LOADS. Nothing in Lean hashes anything: it is a label: what it is worth is what the hold of that sum in a sandbox is worth. -/
noncomputable def Try.pinned : Pinned := { name := "ytbaljmflmkpmjaa", sum := "d4ebb6504b8786b6bc2c40079d3c327694b4542216d59cacb43d3040ba96319a", checked := Try.checked }
namespace Rows
def none {H : Type} : Left H := { results := [], args := [] }

/-- 'crossbucklaw20.PhaseWarns': WHATEVER THE INPUT: true; the input reads as it did. -/
def phaseWarnsSpec : ChangeSpec := { name := "phaseWarns", fn := fun _ => fun
  | [d1, d2] => { results := [.lit (.bool true)], args := [d1, d2] }
  | _ => none }
def phaseWarnsRow : OpenClaim := { program := "ytbaljmflmkpmjaa", sum := "d4ebb6504b8786b6bc2c40079d3c327694b4542216d59cacb43d3040ba96319a", func := "crossbuck/crossbucklaw20.PhaseWarns", spec := "phaseWarns", apart := false }
def PhaseWarnsSaid : Prop := phaseWarnsRow.holds Try.pinned (OpenSpec.ofChange phaseWarnsSpec)

/-- ITS FALSE NEIGHBOUR: 'it returns false'. Refute it at one input. -/
def phaseWarnsWrong : ChangeSpec := { name := "phaseWarns", fn := fun _ => fun
  | [d1, d2] => { results := [.lit (.bool false)], args := [d1, d2] }
  | _ => none }
def PhaseWarnsWrongFalsely : Prop := phaseWarnsRow.holds Try.pinned (OpenSpec.ofChange phaseWarnsWrong)

/-- 'crossbucklaw20.PhaseExits': WHATEVER THE INPUT: true; the input reads as it did. -/
def phaseExitsSpec : ChangeSpec := { name := "phaseExits", fn := fun _ => fun
  | [d1, d2] => { results := [.lit (.bool true)], args := [d1, d2] }
  | _ => none }
def phaseExitsRow : OpenClaim := { program := "ytbaljmflmkpmjaa", sum := "d4ebb6504b8786b6bc2c40079d3c327694b4542216d59cacb43d3040ba96319a", func := "crossbuck/crossbucklaw20.PhaseExits", spec := "phaseExits", apart := false }
def PhaseExitsSaid : Prop := phaseExitsRow.holds Try.pinned (OpenSpec.ofChange phaseExitsSpec)

/-- ITS FALSE NEIGHBOUR: 'it returns false'. Refute it at one input. -/
def phaseExitsWrong : ChangeSpec := { name := "phaseExits", fn := fun _ => fun
  | [d1, d2] => { results := [.lit (.bool false)], args := [d1, d2] }
  | _ => none }
def PhaseExitsWrongFalsely : Prop := phaseExitsRow.holds Try.pinned (OpenSpec.ofChange phaseExitsWrong)

/-- 'crossbucklaw20.PhaseOpens': WHATEVER THE INPUT: true; the input reads as it did. -/
def phaseOpensSpec : ChangeSpec := { name := "phaseOpens", fn := fun _ => fun
  | [d1, d2] => { results := [.lit (.bool true)], args := [d1, d2] }
  | _ => none }
def phaseOpensRow : OpenClaim := { program := "ytbaljmflmkpmjaa", sum := "d4ebb6504b8786b6bc2c40079d3c327694b4542216d59cacb43d3040ba96319a", func := "crossbuck/crossbucklaw20.PhaseOpens", spec := "phaseOpens", apart := false }
def PhaseOpensSaid : Prop := phaseOpensRow.holds Try.pinned (OpenSpec.ofChange phaseOpensSpec)

/-- ITS FALSE NEIGHBOUR: 'it returns false'. Refute it at one input. -/
def phaseOpensWrong : ChangeSpec := { name := "phaseOpens", fn := fun _ => fun
  | [d1, d2] => { results := [.lit (.bool false)], args := [d1, d2] }
  | _ => none }
def PhaseOpensWrongFalsely : Prop := phaseOpensRow.holds Try.pinned (OpenSpec.ofChange phaseOpensWrong)

/-- 'crossbucklaw20.PhaseRaises': WHATEVER THE INPUT: true; the input reads as it did. -/
def phaseRaisesSpec : ChangeSpec := { name := "phaseRaises", fn := fun _ => fun
  | [d1, d2, d3] => { results := [.lit (.bool true)], args := [d1, d2, d3] }
  | _ => none }
def phaseRaisesRow : OpenClaim := { program := "ytbaljmflmkpmjaa", sum := "d4ebb6504b8786b6bc2c40079d3c327694b4542216d59cacb43d3040ba96319a", func := "crossbuck/crossbucklaw20.PhaseRaises", spec := "phaseRaises", apart := false }
def PhaseRaisesSaid : Prop := phaseRaisesRow.holds Try.pinned (OpenSpec.ofChange phaseRaisesSpec)

/-- ITS FALSE NEIGHBOUR: 'it returns false'. Refute it at one input. -/
def phaseRaisesWrong : ChangeSpec := { name := "phaseRaises", fn := fun _ => fun
  | [d1, d2, d3] => { results := [.lit (.bool false)], args := [d1, d2, d3] }
  | _ => none }
def PhaseRaisesWrongFalsely : Prop := phaseRaisesRow.holds Try.pinned (OpenSpec.ofChange phaseRaisesWrong)

/-- 'crossbucklaw20.PhaseFails': WHATEVER THE INPUT: true; the input reads as it did. -/
def phaseFailsSpec : ChangeSpec := { name := "phaseFails", fn := fun _ => fun
  | [d1, d2, d3] => { results := [.lit (.bool true)], args := [d1, d2, d3] }
  | _ => none }
def phaseFailsRow : OpenClaim := { program := "ytbaljmflmkpmjaa", sum := "d4ebb6504b8786b6bc2c40079d3c327694b4542216d59cacb43d3040ba96319a", func := "crossbuck/crossbucklaw20.PhaseFails", spec := "phaseFails", apart := false }
def PhaseFailsSaid : Prop := phaseFailsRow.holds Try.pinned (OpenSpec.ofChange phaseFailsSpec)

/-- ITS FALSE NEIGHBOUR: 'it returns false'. Refute it at one input. -/
def phaseFailsWrong : ChangeSpec := { name := "phaseFails", fn := fun _ => fun
  | [d1, d2, d3] => { results := [.lit (.bool false)], args := [d1, d2, d3] }
  | _ => none }
def PhaseFailsWrongFalsely : Prop := phaseFailsRow.holds Try.pinned (OpenSpec.ofChange phaseFailsWrong)

/-- 'crossbucklaw20.PhaseLights': WHATEVER THE INPUT: true; the input reads as it did. -/
def phaseLightsSpec : ChangeSpec := { name := "phaseLights", fn := fun _ => fun
  | [d] => { results := [.lit (.bool true)], args := [d] }
  | _ => none }
def phaseLightsRow : OpenClaim := { program := "ytbaljmflmkpmjaa", sum := "d4ebb6504b8786b6bc2c40079d3c327694b4542216d59cacb43d3040ba96319a", func := "crossbuck/crossbucklaw20.PhaseLights", spec := "phaseLights", apart := false }
def PhaseLightsSaid : Prop := phaseLightsRow.holds Try.pinned (OpenSpec.ofChange phaseLightsSpec)

/-- ITS FALSE NEIGHBOUR: 'it returns false'. Refute it at one input. -/
def phaseLightsWrong : ChangeSpec := { name := "phaseLights", fn := fun _ => fun
  | [d] => { results := [.lit (.bool false)], args := [d] }
  | _ => none }
def PhaseLightsWrongFalsely : Prop := phaseLightsRow.holds Try.pinned (OpenSpec.ofChange phaseLightsWrong)

/- THE SECOND FORM. 'bulk': how many values and letters a reading holds, each counted each time it is reached (what is shared counts as often as it is met; a slice's spare places count too). A statement '..UptoSaid' is the law's where the arguments, and the package variables that the reading takes, are together of bulk at most 1048576: NARROWER than '..Said'. Prove '..Said' where nothing that the law and all that it calls make is longer than what came in: it says more and counts as full. Else prove '..UptoSaid'. A law counts once. -/
mutual
def uptoBulk {H : Type} : DataW H → Nat
  | .lit (.string bytes) => bytes.length + 1
  | .lit _ => 1
  | .nil => 1
  | .ptr d => uptoBulk d + 1
  | .slice elems spare => uptoBulkAll elems + uptoBulkAll spare + 1
  | .agg parts => uptoBulkAll parts + 1
  | .iface _ d => uptoBulk d + 1
  | .map entries => uptoBulkEntries entries + 1
  | .held _ => 1
def uptoBulkAll {H : Type} : List (DataW H) → Nat
  | [] => 0
  | d :: r => uptoBulk d + uptoBulkAll r
def uptoBulkEntries {H : Type} : List (Lit × DataW H) → Nat
  | [] => 0
  | x :: r => uptoBulkEntry x + uptoBulkEntries r
def uptoBulkEntry {H : Type} : Lit × DataW H → Nat
  | (.string bytes, d) => bytes.length + uptoBulk d + 1
  | (_, d) => uptoBulk d + 1
 end
def uptoSmall : (H : Type) → List (DataW H) → Bool := fun _ ds => decide (uptoBulkAll ds ≤ 1048576)
def OpenSpec.upto (s : _root_.Go.ChangeSpec) : _root_.Go.OpenSpec := { _root_.Go.OpenSpec.ofChange s with cond := some uptoSmall }

/-- 'crossbucklaw20.PhaseWarns', WHERE WHAT IT READS IS OF BULK AT MOST 1048576: true; the input reads as it did. -/
def phaseWarnsUptoRow : OpenClaim := { program := "ytbaljmflmkpmjaa", sum := "d4ebb6504b8786b6bc2c40079d3c327694b4542216d59cacb43d3040ba96319a", func := "crossbuck/crossbucklaw20.PhaseWarns", spec := "phaseWarns", apart := false, narrowed := true }
def PhaseWarnsUptoSaid : Prop := phaseWarnsUptoRow.holds Try.pinned (OpenSpec.upto phaseWarnsSpec)

/-- 'crossbucklaw20.PhaseExits', WHERE WHAT IT READS IS OF BULK AT MOST 1048576: true; the input reads as it did. -/
def phaseExitsUptoRow : OpenClaim := { program := "ytbaljmflmkpmjaa", sum := "d4ebb6504b8786b6bc2c40079d3c327694b4542216d59cacb43d3040ba96319a", func := "crossbuck/crossbucklaw20.PhaseExits", spec := "phaseExits", apart := false, narrowed := true }
def PhaseExitsUptoSaid : Prop := phaseExitsUptoRow.holds Try.pinned (OpenSpec.upto phaseExitsSpec)

/-- 'crossbucklaw20.PhaseOpens', WHERE WHAT IT READS IS OF BULK AT MOST 1048576: true; the input reads as it did. -/
def phaseOpensUptoRow : OpenClaim := { program := "ytbaljmflmkpmjaa", sum := "d4ebb6504b8786b6bc2c40079d3c327694b4542216d59cacb43d3040ba96319a", func := "crossbuck/crossbucklaw20.PhaseOpens", spec := "phaseOpens", apart := false, narrowed := true }
def PhaseOpensUptoSaid : Prop := phaseOpensUptoRow.holds Try.pinned (OpenSpec.upto phaseOpensSpec)

/-- 'crossbucklaw20.PhaseRaises', WHERE WHAT IT READS IS OF BULK AT MOST 1048576: true; the input reads as it did. -/
def phaseRaisesUptoRow : OpenClaim := { program := "ytbaljmflmkpmjaa", sum := "d4ebb6504b8786b6bc2c40079d3c327694b4542216d59cacb43d3040ba96319a", func := "crossbuck/crossbucklaw20.PhaseRaises", spec := "phaseRaises", apart := false, narrowed := true }
def PhaseRaisesUptoSaid : Prop := phaseRaisesUptoRow.holds Try.pinned (OpenSpec.upto phaseRaisesSpec)

/-- 'crossbucklaw20.PhaseFails', WHERE WHAT IT READS IS OF BULK AT MOST 1048576: true; the input reads as it did. -/
def phaseFailsUptoRow : OpenClaim := { program := "ytbaljmflmkpmjaa", sum := "d4ebb6504b8786b6bc2c40079d3c327694b4542216d59cacb43d3040ba96319a", func := "crossbuck/crossbucklaw20.PhaseFails", spec := "phaseFails", apart := false, narrowed := true }
def PhaseFailsUptoSaid : Prop := phaseFailsUptoRow.holds Try.pinned (OpenSpec.upto phaseFailsSpec)

/-- 'crossbucklaw20.PhaseLights', WHERE WHAT IT READS IS OF BULK AT MOST 1048576: true; the input reads as it did. -/
def phaseLightsUptoRow : OpenClaim := { program := "ytbaljmflmkpmjaa", sum := "d4ebb6504b8786b6bc2c40079d3c327694b4542216d59cacb43d3040ba96319a", func := "crossbuck/crossbucklaw20.PhaseLights", spec := "phaseLights", apart := false, narrowed := true }
def PhaseLightsUptoSaid : Prop := phaseLightsUptoRow.holds Try.pinned (OpenSpec.upto phaseLightsSpec)

end Rows
end Go.Proofs.Ytbaljmflmkpmjaa

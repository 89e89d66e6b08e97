/-
  No cell of these rows narrows 'for every input' (looked for: loops, veiled, ifaces, maps, wideKeys, modest, calm, conditions, laid).
  DERIVED. THE GIVEN ROWS OF THIS SEAT. 5 by the template 'for every input the law returns true; each argument reads behind the call as it read before'; 0 by the template 'total and deterministic' (their statements: YteknfjnfaedebaaTotals.lean).
  GIVEN WITH THE SEED: the statements are not yours to turn. If you find one false, say at which input.
  Laid BY PROGRAM, IN A SANDBOX (cutbox-rows.mjs): the forced cells as the released guide's own fill.sh prints them over the translation 7ba54d3f288b3a8f… (all of the seat's roots in one cut). By AI agents, Wed Nov 11 2026. No macro, syntax, notation, axiom, sorry.
-/
import Derived.Test.YteknfjnfaedebaaChecked
import GoSem.Claim
import GoSem.ClaimJoined
import GoSem.ClaimMapViews
import Derived.JoinedTies
import Derived.KernelRfl
namespace Go.Proofs.Yteknfjnfaedebaa
/- THE CELL 'sum', in the pinned program and in every row, IS THE sha256 OF THE DUMP (.gsa) THAT YteknfjnfaedebaaProg.lean LOADS. Nothing in Lean hashes anything: it is a label: what it is worth is what the hold of that sum in a sandbox is worth. -/
noncomputable def Try.pinned : Pinned := { name := "yteknfjnfaedebaa", sum := "7ba54d3f288b3a8f2eeaff99e08b7ccac271d8136b36781378470432d2cf86a3", checked := Try.checked }
namespace Rows
def none {H : Type} : Left H := { results := [], args := [] }

/-- 'crossbucklaw12.TrackSafe': WHATEVER THE INPUT: true; the input reads as it did. -/
def trackSafeSpec : ChangeSpec := { name := "trackSafe", fn := fun _ => fun
  | [d1, d2, d3] => { results := [.lit (.bool true)], args := [d1, d2, d3] }
  | _ => none }
def trackSafeRow : OpenClaim := { program := "yteknfjnfaedebaa", sum := "7ba54d3f288b3a8f2eeaff99e08b7ccac271d8136b36781378470432d2cf86a3", func := "crossbuck/crossbucklaw12.TrackSafe", spec := "trackSafe", apart := false }
def TrackSafeSaid : Prop := trackSafeRow.holds Try.pinned (OpenSpec.ofChange trackSafeSpec)

/-- ITS FALSE NEIGHBOUR: 'it returns false'. Refute it at one input. -/
def trackSafeWrong : ChangeSpec := { name := "trackSafe", fn := fun _ => fun
  | [d1, d2, d3] => { results := [.lit (.bool false)], args := [d1, d2, d3] }
  | _ => none }
def TrackSafeWrongFalsely : Prop := trackSafeRow.holds Try.pinned (OpenSpec.ofChange trackSafeWrong)

/-- 'crossbucklaw12.TrackTrains': WHATEVER THE INPUT: true; the input reads as it did. -/
def trackTrainsSpec : ChangeSpec := { name := "trackTrains", fn := fun _ => fun
  | [d1, d2, d3, d4, d5] => { results := [.lit (.bool true)], args := [d1, d2, d3, d4, d5] }
  | _ => none }
def trackTrainsRow : OpenClaim := { program := "yteknfjnfaedebaa", sum := "7ba54d3f288b3a8f2eeaff99e08b7ccac271d8136b36781378470432d2cf86a3", func := "crossbuck/crossbucklaw12.TrackTrains", spec := "trackTrains", apart := false }
def TrackTrainsSaid : Prop := trackTrainsRow.holds Try.pinned (OpenSpec.ofChange trackTrainsSpec)

/-- ITS FALSE NEIGHBOUR: 'it returns false'. Refute it at one input. -/
def trackTrainsWrong : ChangeSpec := { name := "trackTrains", fn := fun _ => fun
  | [d1, d2, d3, d4, d5] => { results := [.lit (.bool false)], args := [d1, d2, d3, d4, d5] }
  | _ => none }
def TrackTrainsWrongFalsely : Prop := trackTrainsRow.holds Try.pinned (OpenSpec.ofChange trackTrainsWrong)

/-- 'crossbucklaw12.TrackResets': WHATEVER THE INPUT: true; the input reads as it did. -/
def trackResetsSpec : ChangeSpec := { name := "trackResets", fn := fun _ => fun
  | [d1, d2, d3] => { results := [.lit (.bool true)], args := [d1, d2, d3] }
  | _ => none }
def trackResetsRow : OpenClaim := { program := "yteknfjnfaedebaa", sum := "7ba54d3f288b3a8f2eeaff99e08b7ccac271d8136b36781378470432d2cf86a3", func := "crossbuck/crossbucklaw12.TrackResets", spec := "trackResets", apart := false }
def TrackResetsSaid : Prop := trackResetsRow.holds Try.pinned (OpenSpec.ofChange trackResetsSpec)

/-- ITS FALSE NEIGHBOUR: 'it returns false'. Refute it at one input. -/
def trackResetsWrong : ChangeSpec := { name := "trackResets", fn := fun _ => fun
  | [d1, d2, d3] => { results := [.lit (.bool false)], args := [d1, d2, d3] }
  | _ => none }
def TrackResetsWrongFalsely : Prop := trackResetsRow.holds Try.pinned (OpenSpec.ofChange trackResetsWrong)

/-- 'crossbucklaw12.TrackStale': WHATEVER THE INPUT: true; the input reads as it did. -/
def trackStaleSpec : ChangeSpec := { name := "trackStale", fn := fun _ => fun
  | [d1, d2, d3, d4] => { results := [.lit (.bool true)], args := [d1, d2, d3, d4] }
  | _ => none }
def trackStaleRow : OpenClaim := { program := "yteknfjnfaedebaa", sum := "7ba54d3f288b3a8f2eeaff99e08b7ccac271d8136b36781378470432d2cf86a3", func := "crossbuck/crossbucklaw12.TrackStale", spec := "trackStale", apart := false }
def TrackStaleSaid : Prop := trackStaleRow.holds Try.pinned (OpenSpec.ofChange trackStaleSpec)

/-- ITS FALSE NEIGHBOUR: 'it returns false'. Refute it at one input. -/
def trackStaleWrong : ChangeSpec := { name := "trackStale", fn := fun _ => fun
  | [d1, d2, d3, d4] => { results := [.lit (.bool false)], args := [d1, d2, d3, d4] }
  | _ => none }
def TrackStaleWrongFalsely : Prop := trackStaleRow.holds Try.pinned (OpenSpec.ofChange trackStaleWrong)

/-- 'crossbucklaw12.TrackLonger': WHATEVER THE INPUT: true; the input reads as it did. -/
def trackLongerSpec : ChangeSpec := { name := "trackLonger", fn := fun _ => fun
  | [d1, d2, d3, d4, d5] => { results := [.lit (.bool true)], args := [d1, d2, d3, d4, d5] }
  | _ => none }
def trackLongerRow : OpenClaim := { program := "yteknfjnfaedebaa", sum := "7ba54d3f288b3a8f2eeaff99e08b7ccac271d8136b36781378470432d2cf86a3", func := "crossbuck/crossbucklaw12.TrackLonger", spec := "trackLonger", apart := false }
def TrackLongerSaid : Prop := trackLongerRow.holds Try.pinned (OpenSpec.ofChange trackLongerSpec)

/-- ITS FALSE NEIGHBOUR: 'it returns false'. Refute it at one input. -/
def trackLongerWrong : ChangeSpec := { name := "trackLonger", fn := fun _ => fun
  | [d1, d2, d3, d4, d5] => { results := [.lit (.bool false)], args := [d1, d2, d3, d4, d5] }
  | _ => none }
def TrackLongerWrongFalsely : Prop := trackLongerRow.holds Try.pinned (OpenSpec.ofChange trackLongerWrong)

/- THE SECOND FORM. 'bulk': how many values and letters a reading holds, each counted each time it is reached (what is shared counts as often as it is met; a slice's spare places count too). A statement '..UptoSaid' is the law's where the arguments, and the package variables that the reading takes, are together of bulk at most 1048576: NARROWER than '..Said'. Prove '..Said' where nothing that the law and all that it calls make is longer than what came in: it says more and counts as full. Else prove '..UptoSaid'. A law counts once. -/
mutual
def uptoBulk {H : Type} : DataW H → Nat
  | .lit (.string bytes) => bytes.length + 1
  | .lit _ => 1
  | .nil => 1
  | .ptr d => uptoBulk d + 1
  | .slice elems spare => uptoBulkAll elems + uptoBulkAll spare + 1
  | .agg parts => uptoBulkAll parts + 1
  | .iface _ d => uptoBulk d + 1
  | .map entries => uptoBulkEntries entries + 1
  | .held _ => 1
def uptoBulkAll {H : Type} : List (DataW H) → Nat
  | [] => 0
  | d :: r => uptoBulk d + uptoBulkAll r
def uptoBulkEntries {H : Type} : List (Lit × DataW H) → Nat
  | [] => 0
  | x :: r => uptoBulkEntry x + uptoBulkEntries r
def uptoBulkEntry {H : Type} : Lit × DataW H → Nat
  | (.string bytes, d) => bytes.length + uptoBulk d + 1
  | (_, d) => uptoBulk d + 1
 end
def uptoSmall : (H : Type) → List (DataW H) → Bool := fun _ ds => decide (uptoBulkAll ds ≤ 1048576)
def OpenSpec.upto (s : _root_.Go.ChangeSpec) : _root_.Go.OpenSpec := { _root_.Go.OpenSpec.ofChange s with cond := some uptoSmall }

/-- 'crossbucklaw12.TrackSafe', WHERE WHAT IT READS IS OF BULK AT MOST 1048576: true; the input reads as it did. -/
def trackSafeUptoRow : OpenClaim := { program := "yteknfjnfaedebaa", sum := "7ba54d3f288b3a8f2eeaff99e08b7ccac271d8136b36781378470432d2cf86a3", func := "crossbuck/crossbucklaw12.TrackSafe", spec := "trackSafe", apart := false, narrowed := true }
def TrackSafeUptoSaid : Prop := trackSafeUptoRow.holds Try.pinned (OpenSpec.upto trackSafeSpec)

/-- 'crossbucklaw12.TrackTrains', WHERE WHAT IT READS IS OF BULK AT MOST 1048576: true; the input reads as it did. -/
def trackTrainsUptoRow : OpenClaim := { program := "yteknfjnfaedebaa", sum := "7ba54d3f288b3a8f2eeaff99e08b7ccac271d8136b36781378470432d2cf86a3", func := "crossbuck/crossbucklaw12.TrackTrains", spec := "trackTrains", apart := false, narrowed := true }
def TrackTrainsUptoSaid : Prop := trackTrainsUptoRow.holds Try.pinned (OpenSpec.upto trackTrainsSpec)

/-- 'crossbucklaw12.TrackResets', WHERE WHAT IT READS IS OF BULK AT MOST 1048576: true; the input reads as it did. -/
def trackResetsUptoRow : OpenClaim := { program := "yteknfjnfaedebaa", sum := "7ba54d3f288b3a8f2eeaff99e08b7ccac271d8136b36781378470432d2cf86a3", func := "crossbuck/crossbucklaw12.TrackResets", spec := "trackResets", apart := false, narrowed := true }
def TrackResetsUptoSaid : Prop := trackResetsUptoRow.holds Try.pinned (OpenSpec.upto trackResetsSpec)

/-- 'crossbucklaw12.TrackStale', WHERE WHAT IT READS IS OF BULK AT MOST 1048576: true; the input reads as it did. -/
def trackStaleUptoRow : OpenClaim := { program := "yteknfjnfaedebaa", sum := "7ba54d3f288b3a8f2eeaff99e08b7ccac271d8136b36781378470432d2cf86a3", func := "crossbuck/crossbucklaw12.TrackStale", spec := "trackStale", apart := false, narrowed := true }
def TrackStaleUptoSaid : Prop := trackStaleUptoRow.holds Try.pinned (OpenSpec.upto trackStaleSpec)

/-- 'crossbucklaw12.TrackLonger', WHERE WHAT IT READS IS OF BULK AT MOST 1048576: true; the input reads as it did. -/
def trackLongerUptoRow : OpenClaim := { program := "yteknfjnfaedebaa", sum := "7ba54d3f288b3a8f2eeaff99e08b7ccac271d8136b36781378470432d2cf86a3", func := "crossbuck/crossbucklaw12.TrackLonger", spec := "trackLonger", apart := false, narrowed := true }
def TrackLongerUptoSaid : Prop := trackLongerUptoRow.holds Try.pinned (OpenSpec.upto trackLongerSpec)

end Rows
end Go.Proofs.Yteknfjnfaedebaa

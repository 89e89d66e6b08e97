/-
  No cell of these rows narrows 'for every input' (looked for: loops, veiled, ifaces, maps, wideKeys, modest, calm, conditions, laid).
  DERIVED. THE GIVEN ROWS OF THIS SEAT. 4 by the template 'for every input the law returns true; each argument reads behind the call as it read before'; 0 by the template 'total and deterministic' (their statements: YtabhfbdfahidoaaTotals.lean).
  GIVEN WITH THE SEED: the statements are not yours to turn. If you find one false, say at which input.
  Laid BY PROGRAM, IN A SANDBOX (cutbox-rows.mjs): the forced cells as the released guide's own fill.sh prints them over the translation 83a50ea142806110… (all of the seat's roots in one cut). By AI agents, Wed Nov 11 2026. No macro, syntax, notation, axiom, sorry.
-/
import Derived.Test.YtabhfbdfahidoaaChecked
import GoSem.Claim
import GoSem.ClaimJoined
import GoSem.ClaimMapViews
import Derived.JoinedTies
import Derived.KernelRfl
namespace Go.Proofs.Ytabhfbdfahidoaa
/- THE CELL 'sum', in the pinned program and in every row, IS THE sha256 OF THE DUMP (.gsa) THAT YtabhfbdfahidoaaProg.lean LOADS. Nothing in Lean hashes anything: it is a label: what it is worth is what the hold of that sum in a sandbox is worth. -/
noncomputable def Try.pinned : Pinned := { name := "ytabhfbdfahidoaa", sum := "83a50ea1428061100f52f7283a87a1e63819775e00f17962beaafbe18dbeb224", checked := Try.checked }
namespace Rows
def none {H : Type} : Left H := { results := [], args := [] }

/-- 'crossbucklaw24.EventsKeep': WHATEVER THE INPUT: true; the input reads as it did. -/
def eventsKeepSpec : ChangeSpec := { name := "eventsKeep", fn := fun _ => fun
  | [d1, d2] => { results := [.lit (.bool true)], args := [d1, d2] }
  | _ => none }
def eventsKeepRow : OpenClaim := { program := "ytabhfbdfahidoaa", sum := "83a50ea1428061100f52f7283a87a1e63819775e00f17962beaafbe18dbeb224", func := "crossbuck/crossbucklaw24.EventsKeep", spec := "eventsKeep", apart := false }
def EventsKeepSaid : Prop := eventsKeepRow.holds Try.pinned (OpenSpec.ofChange eventsKeepSpec)

/-- ITS FALSE NEIGHBOUR: 'it returns false'. Refute it at one input. -/
def eventsKeepWrong : ChangeSpec := { name := "eventsKeep", fn := fun _ => fun
  | [d1, d2] => { results := [.lit (.bool false)], args := [d1, d2] }
  | _ => none }
def EventsKeepWrongFalsely : Prop := eventsKeepRow.holds Try.pinned (OpenSpec.ofChange eventsKeepWrong)

/-- 'crossbucklaw24.EventsLast': WHATEVER THE INPUT: true; the input reads as it did. -/
def eventsLastSpec : ChangeSpec := { name := "eventsLast", fn := fun _ => fun
  | [d1, d2] => { results := [.lit (.bool true)], args := [d1, d2] }
  | _ => none }
def eventsLastRow : OpenClaim := { program := "ytabhfbdfahidoaa", sum := "83a50ea1428061100f52f7283a87a1e63819775e00f17962beaafbe18dbeb224", func := "crossbuck/crossbucklaw24.EventsLast", spec := "eventsLast", apart := false }
def EventsLastSaid : Prop := eventsLastRow.holds Try.pinned (OpenSpec.ofChange eventsLastSpec)

/-- ITS FALSE NEIGHBOUR: 'it returns false'. Refute it at one input. -/
def eventsLastWrong : ChangeSpec := { name := "eventsLast", fn := fun _ => fun
  | [d1, d2] => { results := [.lit (.bool false)], args := [d1, d2] }
  | _ => none }
def EventsLastWrongFalsely : Prop := eventsLastRow.holds Try.pinned (OpenSpec.ofChange eventsLastWrong)

/-- 'crossbucklaw24.EventsMore': WHATEVER THE INPUT: true; the input reads as it did. -/
def eventsMoreSpec : ChangeSpec := { name := "eventsMore", fn := fun _ => fun
  | [d1, d2, d3] => { results := [.lit (.bool true)], args := [d1, d2, d3] }
  | _ => none }
def eventsMoreRow : OpenClaim := { program := "ytabhfbdfahidoaa", sum := "83a50ea1428061100f52f7283a87a1e63819775e00f17962beaafbe18dbeb224", func := "crossbuck/crossbucklaw24.EventsMore", spec := "eventsMore", apart := false }
def EventsMoreSaid : Prop := eventsMoreRow.holds Try.pinned (OpenSpec.ofChange eventsMoreSpec)

/-- ITS FALSE NEIGHBOUR: 'it returns false'. Refute it at one input. -/
def eventsMoreWrong : ChangeSpec := { name := "eventsMore", fn := fun _ => fun
  | [d1, d2, d3] => { results := [.lit (.bool false)], args := [d1, d2, d3] }
  | _ => none }
def EventsMoreWrongFalsely : Prop := eventsMoreRow.holds Try.pinned (OpenSpec.ofChange eventsMoreWrong)

/-- 'crossbucklaw24.EventsCount': WHATEVER THE INPUT: true; the input reads as it did. -/
def eventsCountSpec : ChangeSpec := { name := "eventsCount", fn := fun _ => fun
  | [d1, d2] => { results := [.lit (.bool true)], args := [d1, d2] }
  | _ => none }
def eventsCountRow : OpenClaim := { program := "ytabhfbdfahidoaa", sum := "83a50ea1428061100f52f7283a87a1e63819775e00f17962beaafbe18dbeb224", func := "crossbuck/crossbucklaw24.EventsCount", spec := "eventsCount", apart := false }
def EventsCountSaid : Prop := eventsCountRow.holds Try.pinned (OpenSpec.ofChange eventsCountSpec)

/-- ITS FALSE NEIGHBOUR: 'it returns false'. Refute it at one input. -/
def eventsCountWrong : ChangeSpec := { name := "eventsCount", fn := fun _ => fun
  | [d1, d2] => { results := [.lit (.bool false)], args := [d1, d2] }
  | _ => none }
def EventsCountWrongFalsely : Prop := eventsCountRow.holds Try.pinned (OpenSpec.ofChange eventsCountWrong)

/- THE SECOND FORM. 'bulk': how many values and letters a reading holds, each counted each time it is reached (what is shared counts as often as it is met; a slice's spare places count too). A statement '..UptoSaid' is the law's where the arguments, and the package variables that the reading takes, are together of bulk at most 1048576: NARROWER than '..Said'. Prove '..Said' where nothing that the law and all that it calls make is longer than what came in: it says more and counts as full. Else prove '..UptoSaid'. A law counts once. -/
mutual
def uptoBulk {H : Type} : DataW H → Nat
  | .lit (.string bytes) => bytes.length + 1
  | .lit _ => 1
  | .nil => 1
  | .ptr d => uptoBulk d + 1
  | .slice elems spare => uptoBulkAll elems + uptoBulkAll spare + 1
  | .agg parts => uptoBulkAll parts + 1
  | .iface _ d => uptoBulk d + 1
  | .map entries => uptoBulkEntries entries + 1
  | .held _ => 1
def uptoBulkAll {H : Type} : List (DataW H) → Nat
  | [] => 0
  | d :: r => uptoBulk d + uptoBulkAll r
def uptoBulkEntries {H : Type} : List (Lit × DataW H) → Nat
  | [] => 0
  | x :: r => uptoBulkEntry x + uptoBulkEntries r
def uptoBulkEntry {H : Type} : Lit × DataW H → Nat
  | (.string bytes, d) => bytes.length + uptoBulk d + 1
  | (_, d) => uptoBulk d + 1
 end
def uptoSmall : (H : Type) → List (DataW H) → Bool := fun _ ds => decide (uptoBulkAll ds ≤ 1048576)
def OpenSpec.upto (s : _root_.Go.ChangeSpec) : _root_.Go.OpenSpec := { _root_.Go.OpenSpec.ofChange s with cond := some uptoSmall }

/-- 'crossbucklaw24.EventsKeep', WHERE WHAT IT READS IS OF BULK AT MOST 1048576: true; the input reads as it did. -/
def eventsKeepUptoRow : OpenClaim := { program := "ytabhfbdfahidoaa", sum := "83a50ea1428061100f52f7283a87a1e63819775e00f17962beaafbe18dbeb224", func := "crossbuck/crossbucklaw24.EventsKeep", spec := "eventsKeep", apart := false, narrowed := true }
def EventsKeepUptoSaid : Prop := eventsKeepUptoRow.holds Try.pinned (OpenSpec.upto eventsKeepSpec)

/-- 'crossbucklaw24.EventsLast', WHERE WHAT IT READS IS OF BULK AT MOST 1048576: true; the input reads as it did. -/
def eventsLastUptoRow : OpenClaim := { program := "ytabhfbdfahidoaa", sum := "83a50ea1428061100f52f7283a87a1e63819775e00f17962beaafbe18dbeb224", func := "crossbuck/crossbucklaw24.EventsLast", spec := "eventsLast", apart := false, narrowed := true }
def EventsLastUptoSaid : Prop := eventsLastUptoRow.holds Try.pinned (OpenSpec.upto eventsLastSpec)

/-- 'crossbucklaw24.EventsMore', WHERE WHAT IT READS IS OF BULK AT MOST 1048576: true; the input reads as it did. -/
def eventsMoreUptoRow : OpenClaim := { program := "ytabhfbdfahidoaa", sum := "83a50ea1428061100f52f7283a87a1e63819775e00f17962beaafbe18dbeb224", func := "crossbuck/crossbucklaw24.EventsMore", spec := "eventsMore", apart := false, narrowed := true }
def EventsMoreUptoSaid : Prop := eventsMoreUptoRow.holds Try.pinned (OpenSpec.upto eventsMoreSpec)

/-- 'crossbucklaw24.EventsCount', WHERE WHAT IT READS IS OF BULK AT MOST 1048576: true; the input reads as it did. -/
def eventsCountUptoRow : OpenClaim := { program := "ytabhfbdfahidoaa", sum := "83a50ea1428061100f52f7283a87a1e63819775e00f17962beaafbe18dbeb224", func := "crossbuck/crossbucklaw24.EventsCount", spec := "eventsCount", apart := false, narrowed := true }
def EventsCountUptoSaid : Prop := eventsCountUptoRow.holds Try.pinned (OpenSpec.upto eventsCountSpec)

end Rows
end Go.Proofs.Ytabhfbdfahidoaa

/-
  No cell of these rows narrows 'for every input' (looked for: loops, veiled, ifaces, maps, wideKeys, modest, calm, conditions, laid).
  DERIVED. THE GIVEN ROWS OF THIS SEAT. 5 by the template 'for every input the law returns true; each argument reads behind the call as it read before'; 0 by the template 'total and deterministic' (their statements: YtoedecngemkblaaTotals.lean).
  GIVEN WITH THE SEED: the statements are not yours to turn. If you find one false, say at which input.
  Laid BY PROGRAM, IN A SANDBOX (cutbox-rows.mjs): the forced cells as the released guide's own fill.sh prints them over the translation 2d500e4148541cb9… (all of the seat's roots in one cut). By AI agents, Wed Nov 11 2026. No macro, syntax, notation, axiom, sorry.
-/
import Derived.Test.YtoedecngemkblaaChecked
import GoSem.Claim
import GoSem.ClaimJoined
import GoSem.ClaimMapViews
import Derived.JoinedTies
import Derived.KernelRfl
namespace Go.Proofs.Ytoedecngemkblaa
/- THE CELL 'sum', in the pinned program and in every row, IS THE sha256 OF THE DUMP (.gsa) THAT YtoedecngemkblaaProg.lean LOADS. Nothing in Lean hashes anything: it is a label: what it is worth is what the hold of that sum in a sandbox is worth. -/
noncomputable def Try.pinned : Pinned := { name := "ytoedecngemkblaa", sum := "2d500e4148541cb9d86d1f2091013feceb07f8eee53d9cdb9a0fd7ac5ed8cb2f", checked := Try.checked }
namespace Rows
def none {H : Type} : Left H := { results := [], args := [] }

/-- 'crossbucklaw19.DemandTells': WHATEVER THE INPUT: true; the input reads as it did. -/
def demandTellsSpec : ChangeSpec := { name := "demandTells", fn := fun _ => fun
  | [d1, d2, d3, d4] => { results := [.lit (.bool true)], args := [d1, d2, d3, d4] }
  | _ => none }
def demandTellsRow : OpenClaim := { program := "ytoedecngemkblaa", sum := "2d500e4148541cb9d86d1f2091013feceb07f8eee53d9cdb9a0fd7ac5ed8cb2f", func := "crossbuck/crossbucklaw19.DemandTells", spec := "demandTells", unfollowed := true, recurses := true, apart := false }
def DemandTellsSaid : Prop := demandTellsRow.holds Try.pinned (OpenSpec.ofChange demandTellsSpec)

/-- ITS FALSE NEIGHBOUR: 'it returns false'. Refute it at one input. -/
def demandTellsWrong : ChangeSpec := { name := "demandTells", fn := fun _ => fun
  | [d1, d2, d3, d4] => { results := [.lit (.bool false)], args := [d1, d2, d3, d4] }
  | _ => none }
def DemandTellsWrongFalsely : Prop := demandTellsRow.holds Try.pinned (OpenSpec.ofChange demandTellsWrong)

/-- 'crossbucklaw19.DemandHolds': WHATEVER THE INPUT: true; the input reads as it did. -/
def demandHoldsSpec : ChangeSpec := { name := "demandHolds", fn := fun _ => fun
  | [d1, d2, d3] => { results := [.lit (.bool true)], args := [d1, d2, d3] }
  | _ => none }
def demandHoldsRow : OpenClaim := { program := "ytoedecngemkblaa", sum := "2d500e4148541cb9d86d1f2091013feceb07f8eee53d9cdb9a0fd7ac5ed8cb2f", func := "crossbuck/crossbucklaw19.DemandHolds", spec := "demandHolds", unfollowed := true, recurses := true, apart := false }
def DemandHoldsSaid : Prop := demandHoldsRow.holds Try.pinned (OpenSpec.ofChange demandHoldsSpec)

/-- ITS FALSE NEIGHBOUR: 'it returns false'. Refute it at one input. -/
def demandHoldsWrong : ChangeSpec := { name := "demandHolds", fn := fun _ => fun
  | [d1, d2, d3] => { results := [.lit (.bool false)], args := [d1, d2, d3] }
  | _ => none }
def DemandHoldsWrongFalsely : Prop := demandHoldsRow.holds Try.pinned (OpenSpec.ofChange demandHoldsWrong)

/-- 'crossbucklaw19.DemandMore': WHATEVER THE INPUT: true; the input reads as it did. -/
def demandMoreSpec : ChangeSpec := { name := "demandMore", fn := fun _ => fun
  | [d1, d2, d3, d4, d5] => { results := [.lit (.bool true)], args := [d1, d2, d3, d4, d5] }
  | _ => none }
def demandMoreRow : OpenClaim := { program := "ytoedecngemkblaa", sum := "2d500e4148541cb9d86d1f2091013feceb07f8eee53d9cdb9a0fd7ac5ed8cb2f", func := "crossbuck/crossbucklaw19.DemandMore", spec := "demandMore", unfollowed := true, recurses := true, apart := false }
def DemandMoreSaid : Prop := demandMoreRow.holds Try.pinned (OpenSpec.ofChange demandMoreSpec)

/-- ITS FALSE NEIGHBOUR: 'it returns false'. Refute it at one input. -/
def demandMoreWrong : ChangeSpec := { name := "demandMore", fn := fun _ => fun
  | [d1, d2, d3, d4, d5] => { results := [.lit (.bool false)], args := [d1, d2, d3, d4, d5] }
  | _ => none }
def DemandMoreWrongFalsely : Prop := demandMoreRow.holds Try.pinned (OpenSpec.ofChange demandMoreWrong)

/-- 'crossbucklaw19.DemandWorse': WHATEVER THE INPUT: true; the input reads as it did. -/
def demandWorseSpec : ChangeSpec := { name := "demandWorse", fn := fun _ => fun
  | [d1, d2, d3, d4] => { results := [.lit (.bool true)], args := [d1, d2, d3, d4] }
  | _ => none }
def demandWorseRow : OpenClaim := { program := "ytoedecngemkblaa", sum := "2d500e4148541cb9d86d1f2091013feceb07f8eee53d9cdb9a0fd7ac5ed8cb2f", func := "crossbuck/crossbucklaw19.DemandWorse", spec := "demandWorse", unfollowed := true, recurses := true, apart := false }
def DemandWorseSaid : Prop := demandWorseRow.holds Try.pinned (OpenSpec.ofChange demandWorseSpec)

/-- ITS FALSE NEIGHBOUR: 'it returns false'. Refute it at one input. -/
def demandWorseWrong : ChangeSpec := { name := "demandWorse", fn := fun _ => fun
  | [d1, d2, d3, d4] => { results := [.lit (.bool false)], args := [d1, d2, d3, d4] }
  | _ => none }
def DemandWorseWrongFalsely : Prop := demandWorseRow.holds Try.pinned (OpenSpec.ofChange demandWorseWrong)

/-- 'crossbucklaw19.DemandGood': WHATEVER THE INPUT: true; the input reads as it did. -/
def demandGoodSpec : ChangeSpec := { name := "demandGood", fn := fun _ => fun
  | [d1, d2, d3] => { results := [.lit (.bool true)], args := [d1, d2, d3] }
  | _ => none }
def demandGoodRow : OpenClaim := { program := "ytoedecngemkblaa", sum := "2d500e4148541cb9d86d1f2091013feceb07f8eee53d9cdb9a0fd7ac5ed8cb2f", func := "crossbuck/crossbucklaw19.DemandGood", spec := "demandGood", unfollowed := true, recurses := true, apart := false }
def DemandGoodSaid : Prop := demandGoodRow.holds Try.pinned (OpenSpec.ofChange demandGoodSpec)

/-- ITS FALSE NEIGHBOUR: 'it returns false'. Refute it at one input. -/
def demandGoodWrong : ChangeSpec := { name := "demandGood", fn := fun _ => fun
  | [d1, d2, d3] => { results := [.lit (.bool false)], args := [d1, d2, d3] }
  | _ => none }
def DemandGoodWrongFalsely : Prop := demandGoodRow.holds Try.pinned (OpenSpec.ofChange demandGoodWrong)

/- THE SECOND FORM. 'bulk': how many values and letters a reading holds, each counted each time it is reached (what is shared counts as often as it is met; a slice's spare places count too). A statement '..UptoSaid' is the law's where the arguments, and the package variables that the reading takes, are together of bulk at most 1048576: NARROWER than '..Said'. Prove '..Said' where nothing that the law and all that it calls make is longer than what came in: it says more and counts as full. Else prove '..UptoSaid'. A law counts once. -/
mutual
def uptoBulk {H : Type} : DataW H → Nat
  | .lit (.string bytes) => bytes.length + 1
  | .lit _ => 1
  | .nil => 1
  | .ptr d => uptoBulk d + 1
  | .slice elems spare => uptoBulkAll elems + uptoBulkAll spare + 1
  | .agg parts => uptoBulkAll parts + 1
  | .iface _ d => uptoBulk d + 1
  | .map entries => uptoBulkEntries entries + 1
  | .held _ => 1
def uptoBulkAll {H : Type} : List (DataW H) → Nat
  | [] => 0
  | d :: r => uptoBulk d + uptoBulkAll r
def uptoBulkEntries {H : Type} : List (Lit × DataW H) → Nat
  | [] => 0
  | x :: r => uptoBulkEntry x + uptoBulkEntries r
def uptoBulkEntry {H : Type} : Lit × DataW H → Nat
  | (.string bytes, d) => bytes.length + uptoBulk d + 1
  | (_, d) => uptoBulk d + 1
 end
def uptoSmall : (H : Type) → List (DataW H) → Bool := fun _ ds => decide (uptoBulkAll ds ≤ 1048576)
def OpenSpec.upto (s : _root_.Go.ChangeSpec) : _root_.Go.OpenSpec := { _root_.Go.OpenSpec.ofChange s with cond := some uptoSmall }

/-- 'crossbucklaw19.DemandTells', WHERE WHAT IT READS IS OF BULK AT MOST 1048576: true; the input reads as it did. -/
def demandTellsUptoRow : OpenClaim := { program := "ytoedecngemkblaa", sum := "2d500e4148541cb9d86d1f2091013feceb07f8eee53d9cdb9a0fd7ac5ed8cb2f", func := "crossbuck/crossbucklaw19.DemandTells", spec := "demandTells", unfollowed := true, recurses := true, apart := false, narrowed := true }
def DemandTellsUptoSaid : Prop := demandTellsUptoRow.holds Try.pinned (OpenSpec.upto demandTellsSpec)

/-- 'crossbucklaw19.DemandHolds', WHERE WHAT IT READS IS OF BULK AT MOST 1048576: true; the input reads as it did. -/
def demandHoldsUptoRow : OpenClaim := { program := "ytoedecngemkblaa", sum := "2d500e4148541cb9d86d1f2091013feceb07f8eee53d9cdb9a0fd7ac5ed8cb2f", func := "crossbuck/crossbucklaw19.DemandHolds", spec := "demandHolds", unfollowed := true, recurses := true, apart := false, narrowed := true }
def DemandHoldsUptoSaid : Prop := demandHoldsUptoRow.holds Try.pinned (OpenSpec.upto demandHoldsSpec)

/-- 'crossbucklaw19.DemandMore', WHERE WHAT IT READS IS OF BULK AT MOST 1048576: true; the input reads as it did. -/
def demandMoreUptoRow : OpenClaim := { program := "ytoedecngemkblaa", sum := "2d500e4148541cb9d86d1f2091013feceb07f8eee53d9cdb9a0fd7ac5ed8cb2f", func := "crossbuck/crossbucklaw19.DemandMore", spec := "demandMore", unfollowed := true, recurses := true, apart := false, narrowed := true }
def DemandMoreUptoSaid : Prop := demandMoreUptoRow.holds Try.pinned (OpenSpec.upto demandMoreSpec)

/-- 'crossbucklaw19.DemandWorse', WHERE WHAT IT READS IS OF BULK AT MOST 1048576: true; the input reads as it did. -/
def demandWorseUptoRow : OpenClaim := { program := "ytoedecngemkblaa", sum := "2d500e4148541cb9d86d1f2091013feceb07f8eee53d9cdb9a0fd7ac5ed8cb2f", func := "crossbuck/crossbucklaw19.DemandWorse", spec := "demandWorse", unfollowed := true, recurses := true, apart := false, narrowed := true }
def DemandWorseUptoSaid : Prop := demandWorseUptoRow.holds Try.pinned (OpenSpec.upto demandWorseSpec)

/-- 'crossbucklaw19.DemandGood', WHERE WHAT IT READS IS OF BULK AT MOST 1048576: true; the input reads as it did. -/
def demandGoodUptoRow : OpenClaim := { program := "ytoedecngemkblaa", sum := "2d500e4148541cb9d86d1f2091013feceb07f8eee53d9cdb9a0fd7ac5ed8cb2f", func := "crossbuck/crossbucklaw19.DemandGood", spec := "demandGood", unfollowed := true, recurses := true, apart := false, narrowed := true }
def DemandGoodUptoSaid : Prop := demandGoodUptoRow.holds Try.pinned (OpenSpec.upto demandGoodSpec)

end Rows
end Go.Proofs.Ytoedecngemkblaa

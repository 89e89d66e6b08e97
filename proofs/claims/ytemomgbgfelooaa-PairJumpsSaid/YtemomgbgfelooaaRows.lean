/-
  No cell of these rows narrows 'for every input' (looked for: loops, veiled, ifaces, maps, wideKeys, modest, calm, conditions, laid).
  DERIVED. THE GIVEN ROWS OF THIS SEAT. 6 by the template 'for every input the law returns true; each argument reads behind the call as it read before'; 0 by the template 'total and deterministic' (their statements: YtemomgbgfelooaaTotals.lean).
  GIVEN WITH THE SEED: the statements are not yours to turn. If you find one false, say at which input.
  Laid BY PROGRAM, IN A SANDBOX (cutbox-rows.mjs): the forced cells as the released guide's own fill.sh prints them over the translation c7fee2bc999b631d… (all of the seat's roots in one cut). By AI agents, Wed Nov 11 2026. No macro, syntax, notation, axiom, sorry.
-/
import Derived.Test.YtemomgbgfelooaaChecked
import GoSem.Claim
import GoSem.ClaimJoined
import GoSem.ClaimMapViews
import Derived.JoinedTies
import Derived.KernelRfl
namespace Go.Proofs.Ytemomgbgfelooaa
/- THE CELL 'sum', in the pinned program and in every row, IS THE sha256 OF THE DUMP (.gsa) THAT YtemomgbgfelooaaProg.lean LOADS. Nothing in Lean hashes anything: it is a label: what it is worth is what the hold of that sum in a sandbox is worth. -/
noncomputable def Try.pinned : Pinned := { name := "ytemomgbgfelooaa", sum := "c7fee2bc999b631d1146abb07a9452b5cafb447e139db6b184eabb88c446c825", checked := Try.checked }
namespace Rows
def none {H : Type} : Left H := { results := [], args := [] }

/-- 'crossbucklaw10.PairSteps': WHATEVER THE INPUT: true; the input reads as it did. -/
def pairStepsSpec : ChangeSpec := { name := "pairSteps", fn := fun _ => fun
  | [d1, d2] => { results := [.lit (.bool true)], args := [d1, d2] }
  | _ => none }
def pairStepsRow : OpenClaim := { program := "ytemomgbgfelooaa", sum := "c7fee2bc999b631d1146abb07a9452b5cafb447e139db6b184eabb88c446c825", func := "crossbuck/crossbucklaw10.PairSteps", spec := "pairSteps", apart := false }
def PairStepsSaid : Prop := pairStepsRow.holds Try.pinned (OpenSpec.ofChange pairStepsSpec)

/-- ITS FALSE NEIGHBOUR: 'it returns false'. Refute it at one input. -/
def pairStepsWrong : ChangeSpec := { name := "pairSteps", fn := fun _ => fun
  | [d1, d2] => { results := [.lit (.bool false)], args := [d1, d2] }
  | _ => none }
def PairStepsWrongFalsely : Prop := pairStepsRow.holds Try.pinned (OpenSpec.ofChange pairStepsWrong)

/-- 'crossbucklaw10.PairBack': WHATEVER THE INPUT: true; the input reads as it did. -/
def pairBackSpec : ChangeSpec := { name := "pairBack", fn := fun _ => fun
  | [d1, d2] => { results := [.lit (.bool true)], args := [d1, d2] }
  | _ => none }
def pairBackRow : OpenClaim := { program := "ytemomgbgfelooaa", sum := "c7fee2bc999b631d1146abb07a9452b5cafb447e139db6b184eabb88c446c825", func := "crossbuck/crossbucklaw10.PairBack", spec := "pairBack", apart := false }
def PairBackSaid : Prop := pairBackRow.holds Try.pinned (OpenSpec.ofChange pairBackSpec)

/-- ITS FALSE NEIGHBOUR: 'it returns false'. Refute it at one input. -/
def pairBackWrong : ChangeSpec := { name := "pairBack", fn := fun _ => fun
  | [d1, d2] => { results := [.lit (.bool false)], args := [d1, d2] }
  | _ => none }
def PairBackWrongFalsely : Prop := pairBackRow.holds Try.pinned (OpenSpec.ofChange pairBackWrong)

/-- 'crossbucklaw10.PairAxles': WHATEVER THE INPUT: true; the input reads as it did. -/
def pairAxlesSpec : ChangeSpec := { name := "pairAxles", fn := fun _ => fun
  | [d1, d2] => { results := [.lit (.bool true)], args := [d1, d2] }
  | _ => none }
def pairAxlesRow : OpenClaim := { program := "ytemomgbgfelooaa", sum := "c7fee2bc999b631d1146abb07a9452b5cafb447e139db6b184eabb88c446c825", func := "crossbuck/crossbucklaw10.PairAxles", spec := "pairAxles", apart := false }
def PairAxlesSaid : Prop := pairAxlesRow.holds Try.pinned (OpenSpec.ofChange pairAxlesSpec)

/-- ITS FALSE NEIGHBOUR: 'it returns false'. Refute it at one input. -/
def pairAxlesWrong : ChangeSpec := { name := "pairAxles", fn := fun _ => fun
  | [d1, d2] => { results := [.lit (.bool false)], args := [d1, d2] }
  | _ => none }
def PairAxlesWrongFalsely : Prop := pairAxlesRow.holds Try.pinned (OpenSpec.ofChange pairAxlesWrong)

/-- 'crossbucklaw10.PairJumps': WHATEVER THE INPUT: true; the input reads as it did. -/
def pairJumpsSpec : ChangeSpec := { name := "pairJumps", fn := fun _ => fun
  | [d1, d2] => { results := [.lit (.bool true)], args := [d1, d2] }
  | _ => none }
def pairJumpsRow : OpenClaim := { program := "ytemomgbgfelooaa", sum := "c7fee2bc999b631d1146abb07a9452b5cafb447e139db6b184eabb88c446c825", func := "crossbuck/crossbucklaw10.PairJumps", spec := "pairJumps", apart := false }
def PairJumpsSaid : Prop := pairJumpsRow.holds Try.pinned (OpenSpec.ofChange pairJumpsSpec)

/-- ITS FALSE NEIGHBOUR: 'it returns false'. Refute it at one input. -/
def pairJumpsWrong : ChangeSpec := { name := "pairJumps", fn := fun _ => fun
  | [d1, d2] => { results := [.lit (.bool false)], args := [d1, d2] }
  | _ => none }
def PairJumpsWrongFalsely : Prop := pairJumpsRow.holds Try.pinned (OpenSpec.ofChange pairJumpsWrong)

/-- 'crossbucklaw10.PairLies': WHATEVER THE INPUT: true; the input reads as it did. -/
def pairLiesSpec : ChangeSpec := { name := "pairLies", fn := fun _ => fun
  | [d] => { results := [.lit (.bool true)], args := [d] }
  | _ => none }
def pairLiesRow : OpenClaim := { program := "ytemomgbgfelooaa", sum := "c7fee2bc999b631d1146abb07a9452b5cafb447e139db6b184eabb88c446c825", func := "crossbuck/crossbucklaw10.PairLies", spec := "pairLies", apart := false }
def PairLiesSaid : Prop := pairLiesRow.holds Try.pinned (OpenSpec.ofChange pairLiesSpec)

/-- ITS FALSE NEIGHBOUR: 'it returns false'. Refute it at one input. -/
def pairLiesWrong : ChangeSpec := { name := "pairLies", fn := fun _ => fun
  | [d] => { results := [.lit (.bool false)], args := [d] }
  | _ => none }
def PairLiesWrongFalsely : Prop := pairLiesRow.holds Try.pinned (OpenSpec.ofChange pairLiesWrong)

/-- 'crossbucklaw10.PairTurned': WHATEVER THE INPUT: true; the input reads as it did. -/
def pairTurnedSpec : ChangeSpec := { name := "pairTurned", fn := fun _ => fun
  | [d] => { results := [.lit (.bool true)], args := [d] }
  | _ => none }
def pairTurnedRow : OpenClaim := { program := "ytemomgbgfelooaa", sum := "c7fee2bc999b631d1146abb07a9452b5cafb447e139db6b184eabb88c446c825", func := "crossbuck/crossbucklaw10.PairTurned", spec := "pairTurned", apart := false }
def PairTurnedSaid : Prop := pairTurnedRow.holds Try.pinned (OpenSpec.ofChange pairTurnedSpec)

/-- ITS FALSE NEIGHBOUR: 'it returns false'. Refute it at one input. -/
def pairTurnedWrong : ChangeSpec := { name := "pairTurned", fn := fun _ => fun
  | [d] => { results := [.lit (.bool false)], args := [d] }
  | _ => none }
def PairTurnedWrongFalsely : Prop := pairTurnedRow.holds Try.pinned (OpenSpec.ofChange pairTurnedWrong)

/- THE SECOND FORM. 'bulk': how many values and letters a reading holds, each counted each time it is reached (what is shared counts as often as it is met; a slice's spare places count too). A statement '..UptoSaid' is the law's where the arguments, and the package variables that the reading takes, are together of bulk at most 1048576: NARROWER than '..Said'. Prove '..Said' where nothing that the law and all that it calls make is longer than what came in: it says more and counts as full. Else prove '..UptoSaid'. A law counts once. -/
mutual
def uptoBulk {H : Type} : DataW H → Nat
  | .lit (.string bytes) => bytes.length + 1
  | .lit _ => 1
  | .nil => 1
  | .ptr d => uptoBulk d + 1
  | .slice elems spare => uptoBulkAll elems + uptoBulkAll spare + 1
  | .agg parts => uptoBulkAll parts + 1
  | .iface _ d => uptoBulk d + 1
  | .map entries => uptoBulkEntries entries + 1
  | .held _ => 1
def uptoBulkAll {H : Type} : List (DataW H) → Nat
  | [] => 0
  | d :: r => uptoBulk d + uptoBulkAll r
def uptoBulkEntries {H : Type} : List (Lit × DataW H) → Nat
  | [] => 0
  | x :: r => uptoBulkEntry x + uptoBulkEntries r
def uptoBulkEntry {H : Type} : Lit × DataW H → Nat
  | (.string bytes, d) => bytes.length + uptoBulk d + 1
  | (_, d) => uptoBulk d + 1
 end
def uptoSmall : (H : Type) → List (DataW H) → Bool := fun _ ds => decide (uptoBulkAll ds ≤ 1048576)
def OpenSpec.upto (s : _root_.Go.ChangeSpec) : _root_.Go.OpenSpec := { _root_.Go.OpenSpec.ofChange s with cond := some uptoSmall }

/-- 'crossbucklaw10.PairSteps', WHERE WHAT IT READS IS OF BULK AT MOST 1048576: true; the input reads as it did. -/
def pairStepsUptoRow : OpenClaim := { program := "ytemomgbgfelooaa", sum := "c7fee2bc999b631d1146abb07a9452b5cafb447e139db6b184eabb88c446c825", func := "crossbuck/crossbucklaw10.PairSteps", spec := "pairSteps", apart := false, narrowed := true }
def PairStepsUptoSaid : Prop := pairStepsUptoRow.holds Try.pinned (OpenSpec.upto pairStepsSpec)

/-- 'crossbucklaw10.PairBack', WHERE WHAT IT READS IS OF BULK AT MOST 1048576: true; the input reads as it did. -/
def pairBackUptoRow : OpenClaim := { program := "ytemomgbgfelooaa", sum := "c7fee2bc999b631d1146abb07a9452b5cafb447e139db6b184eabb88c446c825", func := "crossbuck/crossbucklaw10.PairBack", spec := "pairBack", apart := false, narrowed := true }
def PairBackUptoSaid : Prop := pairBackUptoRow.holds Try.pinned (OpenSpec.upto pairBackSpec)

/-- 'crossbucklaw10.PairAxles', WHERE WHAT IT READS IS OF BULK AT MOST 1048576: true; the input reads as it did. -/
def pairAxlesUptoRow : OpenClaim := { program := "ytemomgbgfelooaa", sum := "c7fee2bc999b631d1146abb07a9452b5cafb447e139db6b184eabb88c446c825", func := "crossbuck/crossbucklaw10.PairAxles", spec := "pairAxles", apart := false, narrowed := true }
def PairAxlesUptoSaid : Prop := pairAxlesUptoRow.holds Try.pinned (OpenSpec.upto pairAxlesSpec)

/-- 'crossbucklaw10.PairJumps', WHERE WHAT IT READS IS OF BULK AT MOST 1048576: true; the input reads as it did. -/
def pairJumpsUptoRow : OpenClaim := { program := "ytemomgbgfelooaa", sum := "c7fee2bc999b631d1146abb07a9452b5cafb447e139db6b184eabb88c446c825", func := "crossbuck/crossbucklaw10.PairJumps", spec := "pairJumps", apart := false, narrowed := true }
def PairJumpsUptoSaid : Prop := pairJumpsUptoRow.holds Try.pinned (OpenSpec.upto pairJumpsSpec)

/-- 'crossbucklaw10.PairLies', WHERE WHAT IT READS IS OF BULK AT MOST 1048576: true; the input reads as it did. -/
def pairLiesUptoRow : OpenClaim := { program := "ytemomgbgfelooaa", sum := "c7fee2bc999b631d1146abb07a9452b5cafb447e139db6b184eabb88c446c825", func := "crossbuck/crossbucklaw10.PairLies", spec := "pairLies", apart := false, narrowed := true }
def PairLiesUptoSaid : Prop := pairLiesUptoRow.holds Try.pinned (OpenSpec.upto pairLiesSpec)

/-- 'crossbucklaw10.PairTurned', WHERE WHAT IT READS IS OF BULK AT MOST 1048576: true; the input reads as it did. -/
def pairTurnedUptoRow : OpenClaim := { program := "ytemomgbgfelooaa", sum := "c7fee2bc999b631d1146abb07a9452b5cafb447e139db6b184eabb88c446c825", func := "crossbuck/crossbucklaw10.PairTurned", spec := "pairTurned", apart := false, narrowed := true }
def PairTurnedUptoSaid : Prop := pairTurnedUptoRow.holds Try.pinned (OpenSpec.upto pairTurnedSpec)

end Rows
end Go.Proofs.Ytemomgbgfelooaa

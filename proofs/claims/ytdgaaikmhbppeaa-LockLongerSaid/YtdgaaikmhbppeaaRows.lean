/-
  No cell of these rows narrows 'for every input' (looked for: loops, veiled, ifaces, maps, wideKeys, modest, calm, conditions, laid).
  DERIVED. THE GIVEN ROWS OF THIS SEAT. 5 by the template 'for every input the law returns true; each argument reads behind the call as it read before'; 0 by the template 'total and deterministic' (their statements: YtdgaaikmhbppeaaTotals.lean).
  GIVEN WITH THE SEED: the statements are not yours to turn. If you find one false, say at which input.
  Laid BY PROGRAM, IN A SANDBOX (cutbox-rows.mjs): the forced cells as the released guide's own fill.sh prints them over the translation fd47ed4e105e8cc0… (all of the seat's roots in one cut). By AI agents, Wed Nov 11 2026. No macro, syntax, notation, axiom, sorry.
-/
import Derived.Test.YtdgaaikmhbppeaaChecked
import GoSem.Claim
import GoSem.ClaimJoined
import GoSem.ClaimMapViews
import Derived.JoinedTies
import Derived.KernelRfl
namespace Go.Proofs.Ytdgaaikmhbppeaa
/- THE CELL 'sum', in the pinned program and in every row, IS THE sha256 OF THE DUMP (.gsa) THAT YtdgaaikmhbppeaaProg.lean LOADS. Nothing in Lean hashes anything: it is a label: what it is worth is what the hold of that sum in a sandbox is worth. -/
noncomputable def Try.pinned : Pinned := { name := "ytdgaaikmhbppeaa", sum := "fd47ed4e105e8cc08f59f676b454e02f543b1e9e54a707fbe67cfbf6a366aef0", checked := Try.checked }
namespace Rows
def none {H : Type} : Left H := { results := [], args := [] }

/-- 'crossbucklaw22.LockSteps': WHATEVER THE INPUT: true; the input reads as it did. -/
def lockStepsSpec : ChangeSpec := { name := "lockSteps", fn := fun _ => fun
  | [d1, d2, d3, d4] => { results := [.lit (.bool true)], args := [d1, d2, d3, d4] }
  | _ => none }
def lockStepsRow : OpenClaim := { program := "ytdgaaikmhbppeaa", sum := "fd47ed4e105e8cc08f59f676b454e02f543b1e9e54a707fbe67cfbf6a366aef0", func := "crossbuck/crossbucklaw22.LockSteps", spec := "lockSteps", unfollowed := true, recurses := true, apart := false }
def LockStepsSaid : Prop := lockStepsRow.holds Try.pinned (OpenSpec.ofChange lockStepsSpec)

/-- ITS FALSE NEIGHBOUR: 'it returns false'. Refute it at one input. -/
def lockStepsWrong : ChangeSpec := { name := "lockSteps", fn := fun _ => fun
  | [d1, d2, d3, d4] => { results := [.lit (.bool false)], args := [d1, d2, d3, d4] }
  | _ => none }
def LockStepsWrongFalsely : Prop := lockStepsRow.holds Try.pinned (OpenSpec.ofChange lockStepsWrong)

/-- 'crossbucklaw22.LockHolds': WHATEVER THE INPUT: true; the input reads as it did. -/
def lockHoldsSpec : ChangeSpec := { name := "lockHolds", fn := fun _ => fun
  | [d1, d2] => { results := [.lit (.bool true)], args := [d1, d2] }
  | _ => none }
def lockHoldsRow : OpenClaim := { program := "ytdgaaikmhbppeaa", sum := "fd47ed4e105e8cc08f59f676b454e02f543b1e9e54a707fbe67cfbf6a366aef0", func := "crossbuck/crossbucklaw22.LockHolds", spec := "lockHolds", unfollowed := true, recurses := true, apart := false }
def LockHoldsSaid : Prop := lockHoldsRow.holds Try.pinned (OpenSpec.ofChange lockHoldsSpec)

/-- ITS FALSE NEIGHBOUR: 'it returns false'. Refute it at one input. -/
def lockHoldsWrong : ChangeSpec := { name := "lockHolds", fn := fun _ => fun
  | [d1, d2] => { results := [.lit (.bool false)], args := [d1, d2] }
  | _ => none }
def LockHoldsWrongFalsely : Prop := lockHoldsRow.holds Try.pinned (OpenSpec.ofChange lockHoldsWrong)

/-- 'crossbucklaw22.LockAny': WHATEVER THE INPUT: true; the input reads as it did. -/
def lockAnySpec : ChangeSpec := { name := "lockAny", fn := fun _ => fun
  | [d1, d2] => { results := [.lit (.bool true)], args := [d1, d2] }
  | _ => none }
def lockAnyRow : OpenClaim := { program := "ytdgaaikmhbppeaa", sum := "fd47ed4e105e8cc08f59f676b454e02f543b1e9e54a707fbe67cfbf6a366aef0", func := "crossbuck/crossbucklaw22.LockAny", spec := "lockAny", unfollowed := true, recurses := true, apart := false }
def LockAnySaid : Prop := lockAnyRow.holds Try.pinned (OpenSpec.ofChange lockAnySpec)

/-- ITS FALSE NEIGHBOUR: 'it returns false'. Refute it at one input. -/
def lockAnyWrong : ChangeSpec := { name := "lockAny", fn := fun _ => fun
  | [d1, d2] => { results := [.lit (.bool false)], args := [d1, d2] }
  | _ => none }
def LockAnyWrongFalsely : Prop := lockAnyRow.holds Try.pinned (OpenSpec.ofChange lockAnyWrong)

/-- 'crossbucklaw22.LockClear': WHATEVER THE INPUT: true; the input reads as it did. -/
def lockClearSpec : ChangeSpec := { name := "lockClear", fn := fun _ => fun
  | [d1, d2, d3] => { results := [.lit (.bool true)], args := [d1, d2, d3] }
  | _ => none }
def lockClearRow : OpenClaim := { program := "ytdgaaikmhbppeaa", sum := "fd47ed4e105e8cc08f59f676b454e02f543b1e9e54a707fbe67cfbf6a366aef0", func := "crossbuck/crossbucklaw22.LockClear", spec := "lockClear", unfollowed := true, recurses := true, apart := false }
def LockClearSaid : Prop := lockClearRow.holds Try.pinned (OpenSpec.ofChange lockClearSpec)

/-- ITS FALSE NEIGHBOUR: 'it returns false'. Refute it at one input. -/
def lockClearWrong : ChangeSpec := { name := "lockClear", fn := fun _ => fun
  | [d1, d2, d3] => { results := [.lit (.bool false)], args := [d1, d2, d3] }
  | _ => none }
def LockClearWrongFalsely : Prop := lockClearRow.holds Try.pinned (OpenSpec.ofChange lockClearWrong)

/-- 'crossbucklaw22.LockLonger': WHATEVER THE INPUT: true; the input reads as it did. -/
def lockLongerSpec : ChangeSpec := { name := "lockLonger", fn := fun _ => fun
  | [d1, d2, d3] => { results := [.lit (.bool true)], args := [d1, d2, d3] }
  | _ => none }
def lockLongerRow : OpenClaim := { program := "ytdgaaikmhbppeaa", sum := "fd47ed4e105e8cc08f59f676b454e02f543b1e9e54a707fbe67cfbf6a366aef0", func := "crossbuck/crossbucklaw22.LockLonger", spec := "lockLonger", unfollowed := true, recurses := true, apart := false }
def LockLongerSaid : Prop := lockLongerRow.holds Try.pinned (OpenSpec.ofChange lockLongerSpec)

/-- ITS FALSE NEIGHBOUR: 'it returns false'. Refute it at one input. -/
def lockLongerWrong : ChangeSpec := { name := "lockLonger", fn := fun _ => fun
  | [d1, d2, d3] => { results := [.lit (.bool false)], args := [d1, d2, d3] }
  | _ => none }
def LockLongerWrongFalsely : Prop := lockLongerRow.holds Try.pinned (OpenSpec.ofChange lockLongerWrong)

/- THE SECOND FORM. 'bulk': how many values and letters a reading holds, each counted each time it is reached (what is shared counts as often as it is met; a slice's spare places count too). A statement '..UptoSaid' is the law's where the arguments, and the package variables that the reading takes, are together of bulk at most 1048576: NARROWER than '..Said'. Prove '..Said' where nothing that the law and all that it calls make is longer than what came in: it says more and counts as full. Else prove '..UptoSaid'. A law counts once. -/
mutual
def uptoBulk {H : Type} : DataW H → Nat
  | .lit (.string bytes) => bytes.length + 1
  | .lit _ => 1
  | .nil => 1
  | .ptr d => uptoBulk d + 1
  | .slice elems spare => uptoBulkAll elems + uptoBulkAll spare + 1
  | .agg parts => uptoBulkAll parts + 1
  | .iface _ d => uptoBulk d + 1
  | .map entries => uptoBulkEntries entries + 1
  | .held _ => 1
def uptoBulkAll {H : Type} : List (DataW H) → Nat
  | [] => 0
  | d :: r => uptoBulk d + uptoBulkAll r
def uptoBulkEntries {H : Type} : List (Lit × DataW H) → Nat
  | [] => 0
  | x :: r => uptoBulkEntry x + uptoBulkEntries r
def uptoBulkEntry {H : Type} : Lit × DataW H → Nat
  | (.string bytes, d) => bytes.length + uptoBulk d + 1
  | (_, d) => uptoBulk d + 1
 end
def uptoSmall : (H : Type) → List (DataW H) → Bool := fun _ ds => decide (uptoBulkAll ds ≤ 1048576)
def OpenSpec.upto (s : _root_.Go.ChangeSpec) : _root_.Go.OpenSpec := { _root_.Go.OpenSpec.ofChange s with cond := some uptoSmall }

/-- 'crossbucklaw22.LockSteps', WHERE WHAT IT READS IS OF BULK AT MOST 1048576: true; the input reads as it did. -/
def lockStepsUptoRow : OpenClaim := { program := "ytdgaaikmhbppeaa", sum := "fd47ed4e105e8cc08f59f676b454e02f543b1e9e54a707fbe67cfbf6a366aef0", func := "crossbuck/crossbucklaw22.LockSteps", spec := "lockSteps", unfollowed := true, recurses := true, apart := false, narrowed := true }
def LockStepsUptoSaid : Prop := lockStepsUptoRow.holds Try.pinned (OpenSpec.upto lockStepsSpec)

/-- 'crossbucklaw22.LockHolds', WHERE WHAT IT READS IS OF BULK AT MOST 1048576: true; the input reads as it did. -/
def lockHoldsUptoRow : OpenClaim := { program := "ytdgaaikmhbppeaa", sum := "fd47ed4e105e8cc08f59f676b454e02f543b1e9e54a707fbe67cfbf6a366aef0", func := "crossbuck/crossbucklaw22.LockHolds", spec := "lockHolds", unfollowed := true, recurses := true, apart := false, narrowed := true }
def LockHoldsUptoSaid : Prop := lockHoldsUptoRow.holds Try.pinned (OpenSpec.upto lockHoldsSpec)

/-- 'crossbucklaw22.LockAny', WHERE WHAT IT READS IS OF BULK AT MOST 1048576: true; the input reads as it did. -/
def lockAnyUptoRow : OpenClaim := { program := "ytdgaaikmhbppeaa", sum := "fd47ed4e105e8cc08f59f676b454e02f543b1e9e54a707fbe67cfbf6a366aef0", func := "crossbuck/crossbucklaw22.LockAny", spec := "lockAny", unfollowed := true, recurses := true, apart := false, narrowed := true }
def LockAnyUptoSaid : Prop := lockAnyUptoRow.holds Try.pinned (OpenSpec.upto lockAnySpec)

/-- 'crossbucklaw22.LockClear', WHERE WHAT IT READS IS OF BULK AT MOST 1048576: true; the input reads as it did. -/
def lockClearUptoRow : OpenClaim := { program := "ytdgaaikmhbppeaa", sum := "fd47ed4e105e8cc08f59f676b454e02f543b1e9e54a707fbe67cfbf6a366aef0", func := "crossbuck/crossbucklaw22.LockClear", spec := "lockClear", unfollowed := true, recurses := true, apart := false, narrowed := true }
def LockClearUptoSaid : Prop := lockClearUptoRow.holds Try.pinned (OpenSpec.upto lockClearSpec)

/-- 'crossbucklaw22.LockLonger', WHERE WHAT IT READS IS OF BULK AT MOST 1048576: true; the input reads as it did. -/
def lockLongerUptoRow : OpenClaim := { program := "ytdgaaikmhbppeaa", sum := "fd47ed4e105e8cc08f59f676b454e02f543b1e9e54a707fbe67cfbf6a366aef0", func := "crossbuck/crossbucklaw22.LockLonger", spec := "lockLonger", unfollowed := true, recurses := true, apart := false, narrowed := true }
def LockLongerUptoSaid : Prop := lockLongerUptoRow.holds Try.pinned (OpenSpec.upto lockLongerSpec)

end Rows
end Go.Proofs.Ytdgaaikmhbppeaa

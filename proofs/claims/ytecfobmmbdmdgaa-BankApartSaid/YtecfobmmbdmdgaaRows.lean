/-
  No cell of these rows narrows 'for every input' (looked for: loops, veiled, ifaces, maps, wideKeys, modest, calm, conditions, laid).
  DERIVED. THE GIVEN ROWS OF THIS SEAT. 6 by the template 'for every input the law returns true; each argument reads behind the call as it read before'; 0 by the template 'total and deterministic' (their statements: YtecfobmmbdmdgaaTotals.lean).
  GIVEN WITH THE SEED: the statements are not yours to turn. If you find one false, say at which input.
  Laid BY PROGRAM, IN A SANDBOX (cutbox-rows.mjs): the forced cells as the released guide's own fill.sh prints them over the translation 163b046cca578c9a… (all of the seat's roots in one cut). By AI agents, Wed Nov 11 2026. No macro, syntax, notation, axiom, sorry.
-/
import Derived.Test.YtecfobmmbdmdgaaChecked
import GoSem.Claim
import GoSem.ClaimJoined
import GoSem.ClaimMapViews
import Derived.JoinedTies
import Derived.KernelRfl
namespace Go.Proofs.Ytecfobmmbdmdgaa
/- THE CELL 'sum', in the pinned program and in every row, IS THE sha256 OF THE DUMP (.gsa) THAT YtecfobmmbdmdgaaProg.lean LOADS. Nothing in Lean hashes anything: it is a label: what it is worth is what the hold of that sum in a sandbox is worth. -/
noncomputable def Try.pinned : Pinned := { name := "ytecfobmmbdmdgaa", sum := "163b046cca578c9a00720b9c1db8b495b78701f6e1eedba327e7d5051389adc8", checked := Try.checked }
namespace Rows
def none {H : Type} : Left H := { results := [], args := [] }

/-- 'crossbucklaw16.BankPrints': WHATEVER THE INPUT: true; the input reads as it did. -/
def bankPrintsSpec : ChangeSpec := { name := "bankPrints", fn := fun _ => fun
  | [d1, d2, d3, d4] => { results := [.lit (.bool true)], args := [d1, d2, d3, d4] }
  | _ => none }
def bankPrintsRow : OpenClaim := { program := "ytecfobmmbdmdgaa", sum := "163b046cca578c9a00720b9c1db8b495b78701f6e1eedba327e7d5051389adc8", func := "crossbuck/crossbucklaw16.BankPrints", spec := "bankPrints", unfollowed := true, recurses := true, apart := false }
def BankPrintsSaid : Prop := bankPrintsRow.holds Try.pinned (OpenSpec.ofChange bankPrintsSpec)

/-- ITS FALSE NEIGHBOUR: 'it returns false'. Refute it at one input. -/
def bankPrintsWrong : ChangeSpec := { name := "bankPrints", fn := fun _ => fun
  | [d1, d2, d3, d4] => { results := [.lit (.bool false)], args := [d1, d2, d3, d4] }
  | _ => none }
def BankPrintsWrongFalsely : Prop := bankPrintsRow.holds Try.pinned (OpenSpec.ofChange bankPrintsWrong)

/-- 'crossbucklaw16.BankFinds': WHATEVER THE INPUT: true; the input reads as it did. -/
def bankFindsSpec : ChangeSpec := { name := "bankFinds", fn := fun _ => fun
  | [d] => { results := [.lit (.bool true)], args := [d] }
  | _ => none }
def bankFindsRow : OpenClaim := { program := "ytecfobmmbdmdgaa", sum := "163b046cca578c9a00720b9c1db8b495b78701f6e1eedba327e7d5051389adc8", func := "crossbuck/crossbucklaw16.BankFinds", spec := "bankFinds", unfollowed := true, recurses := true, apart := false }
def BankFindsSaid : Prop := bankFindsRow.holds Try.pinned (OpenSpec.ofChange bankFindsSpec)

/-- ITS FALSE NEIGHBOUR: 'it returns false'. Refute it at one input. -/
def bankFindsWrong : ChangeSpec := { name := "bankFinds", fn := fun _ => fun
  | [d] => { results := [.lit (.bool false)], args := [d] }
  | _ => none }
def BankFindsWrongFalsely : Prop := bankFindsRow.holds Try.pinned (OpenSpec.ofChange bankFindsWrong)

/-- 'crossbucklaw16.BankBack': WHATEVER THE INPUT: true; the input reads as it did. -/
def bankBackSpec : ChangeSpec := { name := "bankBack", fn := fun _ => fun
  | [d1, d2, d3] => { results := [.lit (.bool true)], args := [d1, d2, d3] }
  | _ => none }
def bankBackRow : OpenClaim := { program := "ytecfobmmbdmdgaa", sum := "163b046cca578c9a00720b9c1db8b495b78701f6e1eedba327e7d5051389adc8", func := "crossbuck/crossbucklaw16.BankBack", spec := "bankBack", unfollowed := true, recurses := true, apart := false }
def BankBackSaid : Prop := bankBackRow.holds Try.pinned (OpenSpec.ofChange bankBackSpec)

/-- ITS FALSE NEIGHBOUR: 'it returns false'. Refute it at one input. -/
def bankBackWrong : ChangeSpec := { name := "bankBack", fn := fun _ => fun
  | [d1, d2, d3] => { results := [.lit (.bool false)], args := [d1, d2, d3] }
  | _ => none }
def BankBackWrongFalsely : Prop := bankBackRow.holds Try.pinned (OpenSpec.ofChange bankBackWrong)

/-- 'crossbucklaw16.BankTorn': WHATEVER THE INPUT: true; the input reads as it did. -/
def bankTornSpec : ChangeSpec := { name := "bankTorn", fn := fun _ => fun
  | [d1, d2, d3, d4, d5] => { results := [.lit (.bool true)], args := [d1, d2, d3, d4, d5] }
  | _ => none }
def bankTornRow : OpenClaim := { program := "ytecfobmmbdmdgaa", sum := "163b046cca578c9a00720b9c1db8b495b78701f6e1eedba327e7d5051389adc8", func := "crossbuck/crossbucklaw16.BankTorn", spec := "bankTorn", unfollowed := true, recurses := true, apart := false }
def BankTornSaid : Prop := bankTornRow.holds Try.pinned (OpenSpec.ofChange bankTornSpec)

/-- ITS FALSE NEIGHBOUR: 'it returns false'. Refute it at one input. -/
def bankTornWrong : ChangeSpec := { name := "bankTorn", fn := fun _ => fun
  | [d1, d2, d3, d4, d5] => { results := [.lit (.bool false)], args := [d1, d2, d3, d4, d5] }
  | _ => none }
def BankTornWrongFalsely : Prop := bankTornRow.holds Try.pinned (OpenSpec.ofChange bankTornWrong)

/-- 'crossbucklaw16.BankOrder': WHATEVER THE INPUT: true; the input reads as it did. -/
def bankOrderSpec : ChangeSpec := { name := "bankOrder", fn := fun _ => fun
  | [d] => { results := [.lit (.bool true)], args := [d] }
  | _ => none }
def bankOrderRow : OpenClaim := { program := "ytecfobmmbdmdgaa", sum := "163b046cca578c9a00720b9c1db8b495b78701f6e1eedba327e7d5051389adc8", func := "crossbuck/crossbucklaw16.BankOrder", spec := "bankOrder", unfollowed := true, recurses := true, apart := false }
def BankOrderSaid : Prop := bankOrderRow.holds Try.pinned (OpenSpec.ofChange bankOrderSpec)

/-- ITS FALSE NEIGHBOUR: 'it returns false'. Refute it at one input. -/
def bankOrderWrong : ChangeSpec := { name := "bankOrder", fn := fun _ => fun
  | [d] => { results := [.lit (.bool false)], args := [d] }
  | _ => none }
def BankOrderWrongFalsely : Prop := bankOrderRow.holds Try.pinned (OpenSpec.ofChange bankOrderWrong)

/-- 'crossbucklaw16.BankApart': WHATEVER THE INPUT: true; the input reads as it did. -/
def bankApartSpec : ChangeSpec := { name := "bankApart", fn := fun _ => fun
  | [d1, d2, d3, d4] => { results := [.lit (.bool true)], args := [d1, d2, d3, d4] }
  | _ => none }
def bankApartRow : OpenClaim := { program := "ytecfobmmbdmdgaa", sum := "163b046cca578c9a00720b9c1db8b495b78701f6e1eedba327e7d5051389adc8", func := "crossbuck/crossbucklaw16.BankApart", spec := "bankApart", unfollowed := true, recurses := true, apart := false }
def BankApartSaid : Prop := bankApartRow.holds Try.pinned (OpenSpec.ofChange bankApartSpec)

/-- ITS FALSE NEIGHBOUR: 'it returns false'. Refute it at one input. -/
def bankApartWrong : ChangeSpec := { name := "bankApart", fn := fun _ => fun
  | [d1, d2, d3, d4] => { results := [.lit (.bool false)], args := [d1, d2, d3, d4] }
  | _ => none }
def BankApartWrongFalsely : Prop := bankApartRow.holds Try.pinned (OpenSpec.ofChange bankApartWrong)

/- THE SECOND FORM. 'bulk': how many values and letters a reading holds, each counted each time it is reached (what is shared counts as often as it is met; a slice's spare places count too). A statement '..UptoSaid' is the law's where the arguments, and the package variables that the reading takes, are together of bulk at most 1048576: NARROWER than '..Said'. Prove '..Said' where nothing that the law and all that it calls make is longer than what came in: it says more and counts as full. Else prove '..UptoSaid'. A law counts once. -/
mutual
def uptoBulk {H : Type} : DataW H → Nat
  | .lit (.string bytes) => bytes.length + 1
  | .lit _ => 1
  | .nil => 1
  | .ptr d => uptoBulk d + 1
  | .slice elems spare => uptoBulkAll elems + uptoBulkAll spare + 1
  | .agg parts => uptoBulkAll parts + 1
  | .iface _ d => uptoBulk d + 1
  | .map entries => uptoBulkEntries entries + 1
  | .held _ => 1
def uptoBulkAll {H : Type} : List (DataW H) → Nat
  | [] => 0
  | d :: r => uptoBulk d + uptoBulkAll r
def uptoBulkEntries {H : Type} : List (Lit × DataW H) → Nat
  | [] => 0
  | x :: r => uptoBulkEntry x + uptoBulkEntries r
def uptoBulkEntry {H : Type} : Lit × DataW H → Nat
  | (.string bytes, d) => bytes.length + uptoBulk d + 1
  | (_, d) => uptoBulk d + 1
 end
def uptoSmall : (H : Type) → List (DataW H) → Bool := fun _ ds => decide (uptoBulkAll ds ≤ 1048576)
def OpenSpec.upto (s : _root_.Go.ChangeSpec) : _root_.Go.OpenSpec := { _root_.Go.OpenSpec.ofChange s with cond := some uptoSmall }

/-- 'crossbucklaw16.BankPrints', WHERE WHAT IT READS IS OF BULK AT MOST 1048576: true; the input reads as it did. -/
def bankPrintsUptoRow : OpenClaim := { program := "ytecfobmmbdmdgaa", sum := "163b046cca578c9a00720b9c1db8b495b78701f6e1eedba327e7d5051389adc8", func := "crossbuck/crossbucklaw16.BankPrints", spec := "bankPrints", unfollowed := true, recurses := true, apart := false, narrowed := true }
def BankPrintsUptoSaid : Prop := bankPrintsUptoRow.holds Try.pinned (OpenSpec.upto bankPrintsSpec)

/-- 'crossbucklaw16.BankFinds', WHERE WHAT IT READS IS OF BULK AT MOST 1048576: true; the input reads as it did. -/
def bankFindsUptoRow : OpenClaim := { program := "ytecfobmmbdmdgaa", sum := "163b046cca578c9a00720b9c1db8b495b78701f6e1eedba327e7d5051389adc8", func := "crossbuck/crossbucklaw16.BankFinds", spec := "bankFinds", unfollowed := true, recurses := true, apart := false, narrowed := true }
def BankFindsUptoSaid : Prop := bankFindsUptoRow.holds Try.pinned (OpenSpec.upto bankFindsSpec)

/-- 'crossbucklaw16.BankBack', WHERE WHAT IT READS IS OF BULK AT MOST 1048576: true; the input reads as it did. -/
def bankBackUptoRow : OpenClaim := { program := "ytecfobmmbdmdgaa", sum := "163b046cca578c9a00720b9c1db8b495b78701f6e1eedba327e7d5051389adc8", func := "crossbuck/crossbucklaw16.BankBack", spec := "bankBack", unfollowed := true, recurses := true, apart := false, narrowed := true }
def BankBackUptoSaid : Prop := bankBackUptoRow.holds Try.pinned (OpenSpec.upto bankBackSpec)

/-- 'crossbucklaw16.BankTorn', WHERE WHAT IT READS IS OF BULK AT MOST 1048576: true; the input reads as it did. -/
def bankTornUptoRow : OpenClaim := { program := "ytecfobmmbdmdgaa", sum := "163b046cca578c9a00720b9c1db8b495b78701f6e1eedba327e7d5051389adc8", func := "crossbuck/crossbucklaw16.BankTorn", spec := "bankTorn", unfollowed := true, recurses := true, apart := false, narrowed := true }
def BankTornUptoSaid : Prop := bankTornUptoRow.holds Try.pinned (OpenSpec.upto bankTornSpec)

/-- 'crossbucklaw16.BankOrder', WHERE WHAT IT READS IS OF BULK AT MOST 1048576: true; the input reads as it did. -/
def bankOrderUptoRow : OpenClaim := { program := "ytecfobmmbdmdgaa", sum := "163b046cca578c9a00720b9c1db8b495b78701f6e1eedba327e7d5051389adc8", func := "crossbuck/crossbucklaw16.BankOrder", spec := "bankOrder", unfollowed := true, recurses := true, apart := false, narrowed := true }
def BankOrderUptoSaid : Prop := bankOrderUptoRow.holds Try.pinned (OpenSpec.upto bankOrderSpec)

/-- 'crossbucklaw16.BankApart', WHERE WHAT IT READS IS OF BULK AT MOST 1048576: true; the input reads as it did. -/
def bankApartUptoRow : OpenClaim := { program := "ytecfobmmbdmdgaa", sum := "163b046cca578c9a00720b9c1db8b495b78701f6e1eedba327e7d5051389adc8", func := "crossbuck/crossbucklaw16.BankApart", spec := "bankApart", unfollowed := true, recurses := true, apart := false, narrowed := true }
def BankApartUptoSaid : Prop := bankApartUptoRow.holds Try.pinned (OpenSpec.upto bankApartSpec)

end Rows
end Go.Proofs.Ytecfobmmbdmdgaa

/-
  DERIVED. GIVEN WITH THE SEED: THE CARDS: each row of YthjpacdhaeoecaaDoorRows.lean that lists a variable, with what it lists TIED to the program's text (the seventh form; the later family's looks); each row that meets fmt, with fmt's text TOLD by the authors' own Lean function (tested against real Go, not proved from fmt's source: count such statements apart). THE CARD IS WHAT COUNTS. Prove the row's statement (the work); the ties are given (YthjpacdhaeoecaaDoorTie.lean); close each card by the builder's one call (the guide's Derived/Test/ToyasCard.lean, 'card_holds'). Laid BY PROGRAM, IN A SANDBOX (cutbox-door.mjs). By AI agents, Wed Nov 11 2026. No macro, syntax, notation, axiom, sorry.
-/
import Derived.Test.YthjpacdhaeoecaaDoorRows
import GoSem.ClaimSeven
namespace Go.Proofs.YthjpacdhaeoecaaDoor
namespace Rows

/-- THE TIED CARD OF 'crossbucklaw08.ConfigCodes'. -/
def configCodesCard : Claim7 := { stood := { row := configCodesRow, standIns := [], harness := (true, "2fc5585840ff5b5ad8e0740e9faaced69ff0cb1db57653d5b4069956696eb632"), looks := true }, kinds := [], alts := [], laidByText := true, laidKinds := [.handle], laidTests := true, laidLooks := .later }
def ConfigCodesCardSaid : Prop := Claim7.holds Tryd.pinned (.plain (OpenSpec.ofChange configCodesSpec)) configCodesCard

/-- THE TIED CARD OF 'crossbucklaw08.ConfigBack'. -/
def configBackCard : Claim7 := { stood := { row := configBackRow, standIns := [], harness := (true, "2fc5585840ff5b5ad8e0740e9faaced69ff0cb1db57653d5b4069956696eb632"), looks := true }, kinds := [], alts := [], laidByText := true, laidKinds := [.handle], laidTests := true, laidLooks := .later }
def ConfigBackCardSaid : Prop := Claim7.holds Tryd.pinned (.plain (OpenSpec.ofChange configBackSpec)) configBackCard

/-- THE TIED CARD OF 'crossbucklaw08.ConfigTurned'. -/
def configTurnedCard : Claim7 := { stood := { row := configTurnedRow, standIns := [], harness := (true, "2fc5585840ff5b5ad8e0740e9faaced69ff0cb1db57653d5b4069956696eb632"), looks := true }, kinds := [], alts := [], laidByText := true, laidKinds := [.handle], laidTests := true, laidLooks := .later }
def ConfigTurnedCardSaid : Prop := Claim7.holds Tryd.pinned (.plain (OpenSpec.ofChange configTurnedSpec)) configTurnedCard

/-- THE TIED CARD OF 'crossbucklaw08.ConfigLines'. -/
def configLinesCard : Claim7 := { stood := { row := configLinesRow, standIns := [], harness := (true, "2fc5585840ff5b5ad8e0740e9faaced69ff0cb1db57653d5b4069956696eb632"), looks := true }, kinds := [], alts := [], laidByText := true, laidKinds := [.handle], laidTests := true, laidLooks := .later }
def ConfigLinesCardSaid : Prop := Claim7.holds Tryd.pinned (.plain (OpenSpec.ofChange configLinesSpec)) configLinesCard

/-- THE TIED CARD OF 'crossbucklaw08.ConfigTimes'. -/
def configTimesCard : Claim7 := { stood := { row := configTimesRow, standIns := [], harness := (true, "2fc5585840ff5b5ad8e0740e9faaced69ff0cb1db57653d5b4069956696eb632"), looks := true }, kinds := [], alts := [], laidByText := true, laidKinds := [.handle], laidTests := true, laidLooks := .later }
def ConfigTimesCardSaid : Prop := Claim7.holds Tryd.pinned (.plain (OpenSpec.ofChange configTimesSpec)) configTimesCard

/-- THE TIED CARD OF 'crossbucklaw08.ConfigApart'. -/
def configApartCard : Claim7 := { stood := { row := configApartRow, standIns := [], harness := (true, "2fc5585840ff5b5ad8e0740e9faaced69ff0cb1db57653d5b4069956696eb632"), looks := true }, kinds := [], alts := [], laidByText := true, laidKinds := [.handle], laidTests := true, laidLooks := .later }
def ConfigApartCardSaid : Prop := Claim7.holds Tryd.pinned (.plain (OpenSpec.ofChange configApartSpec)) configApartCard

/-- THE SECOND FORM's CARD OF 'crossbucklaw08.ConfigCodes'. -/
def configCodesUptoCard : Claim7 := { stood := { row := configCodesUptoRow, standIns := [], harness := (true, "2fc5585840ff5b5ad8e0740e9faaced69ff0cb1db57653d5b4069956696eb632"), looks := true }, kinds := [], alts := [], laidByText := true, laidKinds := [.handle], laidTests := true, laidLooks := .later }
def ConfigCodesUptoCardSaid : Prop := Claim7.holds Tryd.pinned (.plain (OpenSpec.upto configCodesSpec)) configCodesUptoCard

/-- THE SECOND FORM's CARD OF 'crossbucklaw08.ConfigBack'. -/
def configBackUptoCard : Claim7 := { stood := { row := configBackUptoRow, standIns := [], harness := (true, "2fc5585840ff5b5ad8e0740e9faaced69ff0cb1db57653d5b4069956696eb632"), looks := true }, kinds := [], alts := [], laidByText := true, laidKinds := [.handle], laidTests := true, laidLooks := .later }
def ConfigBackUptoCardSaid : Prop := Claim7.holds Tryd.pinned (.plain (OpenSpec.upto configBackSpec)) configBackUptoCard

/-- THE SECOND FORM's CARD OF 'crossbucklaw08.ConfigTurned'. -/
def configTurnedUptoCard : Claim7 := { stood := { row := configTurnedUptoRow, standIns := [], harness := (true, "2fc5585840ff5b5ad8e0740e9faaced69ff0cb1db57653d5b4069956696eb632"), looks := true }, kinds := [], alts := [], laidByText := true, laidKinds := [.handle], laidTests := true, laidLooks := .later }
def ConfigTurnedUptoCardSaid : Prop := Claim7.holds Tryd.pinned (.plain (OpenSpec.upto configTurnedSpec)) configTurnedUptoCard

/-- THE SECOND FORM's CARD OF 'crossbucklaw08.ConfigLines'. -/
def configLinesUptoCard : Claim7 := { stood := { row := configLinesUptoRow, standIns := [], harness := (true, "2fc5585840ff5b5ad8e0740e9faaced69ff0cb1db57653d5b4069956696eb632"), looks := true }, kinds := [], alts := [], laidByText := true, laidKinds := [.handle], laidTests := true, laidLooks := .later }
def ConfigLinesUptoCardSaid : Prop := Claim7.holds Tryd.pinned (.plain (OpenSpec.upto configLinesSpec)) configLinesUptoCard

/-- THE SECOND FORM's CARD OF 'crossbucklaw08.ConfigTimes'. -/
def configTimesUptoCard : Claim7 := { stood := { row := configTimesUptoRow, standIns := [], harness := (true, "2fc5585840ff5b5ad8e0740e9faaced69ff0cb1db57653d5b4069956696eb632"), looks := true }, kinds := [], alts := [], laidByText := true, laidKinds := [.handle], laidTests := true, laidLooks := .later }
def ConfigTimesUptoCardSaid : Prop := Claim7.holds Tryd.pinned (.plain (OpenSpec.upto configTimesSpec)) configTimesUptoCard

/-- THE SECOND FORM's CARD OF 'crossbucklaw08.ConfigApart'. -/
def configApartUptoCard : Claim7 := { stood := { row := configApartUptoRow, standIns := [], harness := (true, "2fc5585840ff5b5ad8e0740e9faaced69ff0cb1db57653d5b4069956696eb632"), looks := true }, kinds := [], alts := [], laidByText := true, laidKinds := [.handle], laidTests := true, laidLooks := .later }
def ConfigApartUptoCardSaid : Prop := Claim7.holds Tryd.pinned (.plain (OpenSpec.upto configApartSpec)) configApartUptoCard
end Rows
end Go.Proofs.YthjpacdhaeoecaaDoor

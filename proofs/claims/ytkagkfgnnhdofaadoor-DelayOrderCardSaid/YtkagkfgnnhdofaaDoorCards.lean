/-
  DERIVED. GIVEN WITH THE SEED: THE CARDS: each row of YtkagkfgnnhdofaaDoorRows.lean that lists a variable, with what it lists TIED to the program's text (the seventh form; the later family's looks); each row that meets fmt, with fmt's text TOLD by the authors' own Lean function (tested against real Go, not proved from fmt's source: count such statements apart). THE CARD IS WHAT COUNTS. Prove the row's statement (the work); the ties are given (YtkagkfgnnhdofaaDoorTie.lean); close each card by the builder's one call (the guide's Derived/Test/ToyasCard.lean, 'card_holds'). Laid BY PROGRAM, IN A SANDBOX (cutbox-door.mjs). By AI agents, Wed Nov 11 2026. No macro, syntax, notation, axiom, sorry.
-/
import Derived.Test.YtkagkfgnnhdofaaDoorRows
import GoSem.ClaimSeven
namespace Go.Proofs.YtkagkfgnnhdofaaDoor
namespace Rows

/-- THE TIED CARD OF 'crossbucklaw09.DelayReckons'. -/
def delayReckonsCard : Claim7 := { stood := { row := delayReckonsRow, standIns := [], harness := (true, "726c6b64e812bdde6007dc24d8077bc6553d9d9df1668af1e50b07582a2dd080"), looks := true }, kinds := [], alts := [], laidByText := true, laidKinds := [.handle], laidTests := true, laidLooks := .later }
def DelayReckonsCardSaid : Prop := Claim7.holds Tryd.pinned (.plain (OpenSpec.ofChange delayReckonsSpec)) delayReckonsCard

/-- THE TIED CARD OF 'crossbucklaw09.DelayTables'. -/
def delayTablesCard : Claim7 := { stood := { row := delayTablesRow, standIns := [], harness := (true, "726c6b64e812bdde6007dc24d8077bc6553d9d9df1668af1e50b07582a2dd080"), looks := true }, kinds := [], alts := [], laidByText := true, laidKinds := [.handle], laidTests := true, laidLooks := .later }
def DelayTablesCardSaid : Prop := Claim7.holds Tryd.pinned (.plain (OpenSpec.ofChange delayTablesSpec)) delayTablesCard

/-- THE TIED CARD OF 'crossbucklaw09.DelayWarns'. -/
def delayWarnsCard : Claim7 := { stood := { row := delayWarnsRow, standIns := [], harness := (true, "726c6b64e812bdde6007dc24d8077bc6553d9d9df1668af1e50b07582a2dd080"), looks := true }, kinds := [], alts := [], laidByText := true, laidKinds := [.handle], laidTests := true, laidLooks := .later }
def DelayWarnsCardSaid : Prop := Claim7.holds Tryd.pinned (.plain (OpenSpec.ofChange delayWarnsSpec)) delayWarnsCard

/-- THE TIED CARD OF 'crossbucklaw09.DelayOrder'. -/
def delayOrderCard : Claim7 := { stood := { row := delayOrderRow, standIns := [], harness := (true, "726c6b64e812bdde6007dc24d8077bc6553d9d9df1668af1e50b07582a2dd080"), looks := true }, kinds := [], alts := [], laidByText := true, laidKinds := [.handle], laidTests := true, laidLooks := .later }
def DelayOrderCardSaid : Prop := Claim7.holds Tryd.pinned (.plain (OpenSpec.ofChange delayOrderSpec)) delayOrderCard

/-- THE TIED CARD OF 'crossbucklaw09.DelaySums'. -/
def delaySumsCard : Claim7 := { stood := { row := delaySumsRow, standIns := [], harness := (true, "726c6b64e812bdde6007dc24d8077bc6553d9d9df1668af1e50b07582a2dd080"), looks := true }, kinds := [], alts := [], laidByText := true, laidKinds := [.handle], laidTests := true, laidLooks := .later }
def DelaySumsCardSaid : Prop := Claim7.holds Tryd.pinned (.plain (OpenSpec.ofChange delaySumsSpec)) delaySumsCard

/-- THE TIED CARD OF 'crossbucklaw09.DelayBounds'. -/
def delayBoundsCard : Claim7 := { stood := { row := delayBoundsRow, standIns := [], harness := (true, "726c6b64e812bdde6007dc24d8077bc6553d9d9df1668af1e50b07582a2dd080"), looks := true }, kinds := [], alts := [], laidByText := true, laidKinds := [.handle], laidTests := true, laidLooks := .later }
def DelayBoundsCardSaid : Prop := Claim7.holds Tryd.pinned (.plain (OpenSpec.ofChange delayBoundsSpec)) delayBoundsCard

/-- THE SECOND FORM's CARD OF 'crossbucklaw09.DelayReckons'. -/
def delayReckonsUptoCard : Claim7 := { stood := { row := delayReckonsUptoRow, standIns := [], harness := (true, "726c6b64e812bdde6007dc24d8077bc6553d9d9df1668af1e50b07582a2dd080"), looks := true }, kinds := [], alts := [], laidByText := true, laidKinds := [.handle], laidTests := true, laidLooks := .later }
def DelayReckonsUptoCardSaid : Prop := Claim7.holds Tryd.pinned (.plain (OpenSpec.upto delayReckonsSpec)) delayReckonsUptoCard

/-- THE SECOND FORM's CARD OF 'crossbucklaw09.DelayTables'. -/
def delayTablesUptoCard : Claim7 := { stood := { row := delayTablesUptoRow, standIns := [], harness := (true, "726c6b64e812bdde6007dc24d8077bc6553d9d9df1668af1e50b07582a2dd080"), looks := true }, kinds := [], alts := [], laidByText := true, laidKinds := [.handle], laidTests := true, laidLooks := .later }
def DelayTablesUptoCardSaid : Prop := Claim7.holds Tryd.pinned (.plain (OpenSpec.upto delayTablesSpec)) delayTablesUptoCard

/-- THE SECOND FORM's CARD OF 'crossbucklaw09.DelayWarns'. -/
def delayWarnsUptoCard : Claim7 := { stood := { row := delayWarnsUptoRow, standIns := [], harness := (true, "726c6b64e812bdde6007dc24d8077bc6553d9d9df1668af1e50b07582a2dd080"), looks := true }, kinds := [], alts := [], laidByText := true, laidKinds := [.handle], laidTests := true, laidLooks := .later }
def DelayWarnsUptoCardSaid : Prop := Claim7.holds Tryd.pinned (.plain (OpenSpec.upto delayWarnsSpec)) delayWarnsUptoCard

/-- THE SECOND FORM's CARD OF 'crossbucklaw09.DelayOrder'. -/
def delayOrderUptoCard : Claim7 := { stood := { row := delayOrderUptoRow, standIns := [], harness := (true, "726c6b64e812bdde6007dc24d8077bc6553d9d9df1668af1e50b07582a2dd080"), looks := true }, kinds := [], alts := [], laidByText := true, laidKinds := [.handle], laidTests := true, laidLooks := .later }
def DelayOrderUptoCardSaid : Prop := Claim7.holds Tryd.pinned (.plain (OpenSpec.upto delayOrderSpec)) delayOrderUptoCard

/-- THE SECOND FORM's CARD OF 'crossbucklaw09.DelaySums'. -/
def delaySumsUptoCard : Claim7 := { stood := { row := delaySumsUptoRow, standIns := [], harness := (true, "726c6b64e812bdde6007dc24d8077bc6553d9d9df1668af1e50b07582a2dd080"), looks := true }, kinds := [], alts := [], laidByText := true, laidKinds := [.handle], laidTests := true, laidLooks := .later }
def DelaySumsUptoCardSaid : Prop := Claim7.holds Tryd.pinned (.plain (OpenSpec.upto delaySumsSpec)) delaySumsUptoCard

/-- THE SECOND FORM's CARD OF 'crossbucklaw09.DelayBounds'. -/
def delayBoundsUptoCard : Claim7 := { stood := { row := delayBoundsUptoRow, standIns := [], harness := (true, "726c6b64e812bdde6007dc24d8077bc6553d9d9df1668af1e50b07582a2dd080"), looks := true }, kinds := [], alts := [], laidByText := true, laidKinds := [.handle], laidTests := true, laidLooks := .later }
def DelayBoundsUptoCardSaid : Prop := Claim7.holds Tryd.pinned (.plain (OpenSpec.upto delayBoundsSpec)) delayBoundsUptoCard
end Rows
end Go.Proofs.YtkagkfgnnhdofaaDoor

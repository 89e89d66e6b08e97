/-
  DERIVED. GIVEN WITH THE SEED: THE CARDS: each row of YtolfdfbhignniaaDoorRows.lean that lists a variable, with what it lists TIED to the program's text (the seventh form; the later family's looks); each row that meets fmt, with fmt's text TOLD by the authors' own Lean function (tested against real Go, not proved from fmt's source: count such statements apart). THE CARD IS WHAT COUNTS. Prove the row's statement (the work); the ties are given (YtolfdfbhignniaaDoorTie.lean); close each card by the builder's one call (the guide's Derived/Test/ToyasCard.lean, 'card_holds'). Laid BY PROGRAM, IN A SANDBOX (cutbox-door.mjs). By AI agents, Wed Nov 11 2026. No macro, syntax, notation, axiom, sorry.
-/
import Derived.Test.YtolfdfbhignniaaDoorRows
import GoSem.ClaimSeven
namespace Go.Proofs.YtolfdfbhignniaaDoor
namespace Rows

/-- THE TIED CARD OF 'crossbucklaw14.InputsSteps'. -/
def inputsStepsCard : Claim7 := { stood := { row := inputsStepsRow, standIns := [], harness := (true, "fd1808654b3a4f1ca1823786c3095b158661f9ba1ef7bf238792de199b7a1283"), looks := true }, kinds := [], alts := [], laidByText := true, laidKinds := [.handle], laidTests := true, laidLooks := .later }
def InputsStepsCardSaid : Prop := Claim7.holds Tryd.pinned (.plain (OpenSpec.ofChange inputsStepsSpec)) inputsStepsCard

/-- THE TIED CARD OF 'crossbucklaw14.InputsTakes'. -/
def inputsTakesCard : Claim7 := { stood := { row := inputsTakesRow, standIns := [], harness := (true, "fd1808654b3a4f1ca1823786c3095b158661f9ba1ef7bf238792de199b7a1283"), looks := true }, kinds := [], alts := [], laidByText := true, laidKinds := [.handle], laidTests := true, laidLooks := .later }
def InputsTakesCardSaid : Prop := Claim7.holds Tryd.pinned (.plain (OpenSpec.ofChange inputsTakesSpec)) inputsTakesCard

/-- THE TIED CARD OF 'crossbucklaw14.InputsStale'. -/
def inputsStaleCard : Claim7 := { stood := { row := inputsStaleRow, standIns := [], harness := (true, "fd1808654b3a4f1ca1823786c3095b158661f9ba1ef7bf238792de199b7a1283"), looks := true }, kinds := [], alts := [], laidByText := true, laidKinds := [.handle], laidTests := true, laidLooks := .later }
def InputsStaleCardSaid : Prop := Claim7.holds Tryd.pinned (.plain (OpenSpec.ofChange inputsStaleSpec)) inputsStaleCard

/-- THE TIED CARD OF 'crossbucklaw14.InputsRefused'. -/
def inputsRefusedCard : Claim7 := { stood := { row := inputsRefusedRow, standIns := [], harness := (true, "fd1808654b3a4f1ca1823786c3095b158661f9ba1ef7bf238792de199b7a1283"), looks := true }, kinds := [], alts := [], laidByText := true, laidKinds := [.handle], laidTests := true, laidLooks := .later }
def InputsRefusedCardSaid : Prop := Claim7.holds Tryd.pinned (.plain (OpenSpec.ofChange inputsRefusedSpec)) inputsRefusedCard

/-- THE TIED CARD OF 'crossbucklaw14.InputsTold'. -/
def inputsToldCard : Claim7 := { stood := { row := inputsToldRow, standIns := [], harness := (true, "fd1808654b3a4f1ca1823786c3095b158661f9ba1ef7bf238792de199b7a1283"), looks := true }, kinds := [], alts := [], laidByText := true, laidKinds := [.handle], laidTests := true, laidLooks := .later }
def InputsToldCardSaid : Prop := Claim7.holds Tryd.pinned (.plain (OpenSpec.ofChange inputsToldSpec)) inputsToldCard

/-- THE TIED CARD OF 'crossbucklaw14.InputsLost'. -/
def inputsLostCard : Claim7 := { stood := { row := inputsLostRow, standIns := [], harness := (true, "fd1808654b3a4f1ca1823786c3095b158661f9ba1ef7bf238792de199b7a1283"), looks := true }, kinds := [], alts := [], laidByText := true, laidKinds := [.handle], laidTests := true, laidLooks := .later }
def InputsLostCardSaid : Prop := Claim7.holds Tryd.pinned (.plain (OpenSpec.ofChange inputsLostSpec)) inputsLostCard

/-- THE SECOND FORM's CARD OF 'crossbucklaw14.InputsSteps'. -/
def inputsStepsUptoCard : Claim7 := { stood := { row := inputsStepsUptoRow, standIns := [], harness := (true, "fd1808654b3a4f1ca1823786c3095b158661f9ba1ef7bf238792de199b7a1283"), looks := true }, kinds := [], alts := [], laidByText := true, laidKinds := [.handle], laidTests := true, laidLooks := .later }
def InputsStepsUptoCardSaid : Prop := Claim7.holds Tryd.pinned (.plain (OpenSpec.upto inputsStepsSpec)) inputsStepsUptoCard

/-- THE SECOND FORM's CARD OF 'crossbucklaw14.InputsTakes'. -/
def inputsTakesUptoCard : Claim7 := { stood := { row := inputsTakesUptoRow, standIns := [], harness := (true, "fd1808654b3a4f1ca1823786c3095b158661f9ba1ef7bf238792de199b7a1283"), looks := true }, kinds := [], alts := [], laidByText := true, laidKinds := [.handle], laidTests := true, laidLooks := .later }
def InputsTakesUptoCardSaid : Prop := Claim7.holds Tryd.pinned (.plain (OpenSpec.upto inputsTakesSpec)) inputsTakesUptoCard

/-- THE SECOND FORM's CARD OF 'crossbucklaw14.InputsStale'. -/
def inputsStaleUptoCard : Claim7 := { stood := { row := inputsStaleUptoRow, standIns := [], harness := (true, "fd1808654b3a4f1ca1823786c3095b158661f9ba1ef7bf238792de199b7a1283"), looks := true }, kinds := [], alts := [], laidByText := true, laidKinds := [.handle], laidTests := true, laidLooks := .later }
def InputsStaleUptoCardSaid : Prop := Claim7.holds Tryd.pinned (.plain (OpenSpec.upto inputsStaleSpec)) inputsStaleUptoCard

/-- THE SECOND FORM's CARD OF 'crossbucklaw14.InputsRefused'. -/
def inputsRefusedUptoCard : Claim7 := { stood := { row := inputsRefusedUptoRow, standIns := [], harness := (true, "fd1808654b3a4f1ca1823786c3095b158661f9ba1ef7bf238792de199b7a1283"), looks := true }, kinds := [], alts := [], laidByText := true, laidKinds := [.handle], laidTests := true, laidLooks := .later }
def InputsRefusedUptoCardSaid : Prop := Claim7.holds Tryd.pinned (.plain (OpenSpec.upto inputsRefusedSpec)) inputsRefusedUptoCard

/-- THE SECOND FORM's CARD OF 'crossbucklaw14.InputsTold'. -/
def inputsToldUptoCard : Claim7 := { stood := { row := inputsToldUptoRow, standIns := [], harness := (true, "fd1808654b3a4f1ca1823786c3095b158661f9ba1ef7bf238792de199b7a1283"), looks := true }, kinds := [], alts := [], laidByText := true, laidKinds := [.handle], laidTests := true, laidLooks := .later }
def InputsToldUptoCardSaid : Prop := Claim7.holds Tryd.pinned (.plain (OpenSpec.upto inputsToldSpec)) inputsToldUptoCard

/-- THE SECOND FORM's CARD OF 'crossbucklaw14.InputsLost'. -/
def inputsLostUptoCard : Claim7 := { stood := { row := inputsLostUptoRow, standIns := [], harness := (true, "fd1808654b3a4f1ca1823786c3095b158661f9ba1ef7bf238792de199b7a1283"), looks := true }, kinds := [], alts := [], laidByText := true, laidKinds := [.handle], laidTests := true, laidLooks := .later }
def InputsLostUptoCardSaid : Prop := Claim7.holds Tryd.pinned (.plain (OpenSpec.upto inputsLostSpec)) inputsLostUptoCard
end Rows
end Go.Proofs.YtolfdfbhignniaaDoor

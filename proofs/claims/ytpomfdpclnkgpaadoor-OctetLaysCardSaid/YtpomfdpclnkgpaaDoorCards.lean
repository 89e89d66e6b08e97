/-
  DERIVED. GIVEN WITH THE SEED: THE CARDS: each row of YtpomfdpclnkgpaaDoorRows.lean that lists a variable, with what it lists TIED to the program's text (the seventh form; the later family's looks); each row that meets fmt, with fmt's text TOLD by the authors' own Lean function (tested against real Go, not proved from fmt's source: count such statements apart). THE CARD IS WHAT COUNTS. Prove the row's statement (the work); the ties are given (YtpomfdpclnkgpaaDoorTie.lean); close each card by the builder's one call (the guide's Derived/Test/ToyasCard.lean, 'card_holds'). Laid BY PROGRAM, IN A SANDBOX (cutbox-door.mjs). By AI agents, Wed Nov 11 2026. No macro, syntax, notation, axiom, sorry.
-/
import Derived.Test.YtpomfdpclnkgpaaDoorRows
import GoSem.ClaimSeven
namespace Go.Proofs.YtpomfdpclnkgpaaDoor
namespace Rows

/-- THE TIED CARD OF 'crossbucklaw03.OctetReads'. -/
def octetReadsCard : Claim7 := { stood := { row := octetReadsRow, standIns := [], harness := (true, "39221cd2677b0c122c35f92c313cb778cf98669d899090a5ca9714596990998a"), looks := true }, kinds := [], alts := [], laidByText := true, laidKinds := [.handle], laidTests := true, laidLooks := .later }
def OctetReadsCardSaid : Prop := Claim7.holds Tryd.pinned (.plain (OpenSpec.ofChange octetReadsSpec)) octetReadsCard

/-- THE TIED CARD OF 'crossbucklaw03.OctetLays'. -/
def octetLaysCard : Claim7 := { stood := { row := octetLaysRow, standIns := [], harness := (true, "39221cd2677b0c122c35f92c313cb778cf98669d899090a5ca9714596990998a"), looks := true }, kinds := [], alts := [], laidByText := true, laidKinds := [.handle], laidTests := true, laidLooks := .later }
def OctetLaysCardSaid : Prop := Claim7.holds Tryd.pinned (.plain (OpenSpec.ofChange octetLaysSpec)) octetLaysCard

/-- THE TIED CARD OF 'crossbucklaw03.OctetBack'. -/
def octetBackCard : Claim7 := { stood := { row := octetBackRow, standIns := [], harness := (true, "39221cd2677b0c122c35f92c313cb778cf98669d899090a5ca9714596990998a"), looks := true }, kinds := [], alts := [], laidByText := true, laidKinds := [.handle], laidTests := true, laidLooks := .later }
def OctetBackCardSaid : Prop := Claim7.holds Tryd.pinned (.plain (OpenSpec.ofChange octetBackSpec)) octetBackCard

/-- THE TIED CARD OF 'crossbucklaw03.OctetFew'. -/
def octetFewCard : Claim7 := { stood := { row := octetFewRow, standIns := [], harness := (true, "39221cd2677b0c122c35f92c313cb778cf98669d899090a5ca9714596990998a"), looks := true }, kinds := [], alts := [], laidByText := true, laidKinds := [.handle], laidTests := true, laidLooks := .later }
def OctetFewCardSaid : Prop := Claim7.holds Tryd.pinned (.plain (OpenSpec.ofChange octetFewSpec)) octetFewCard

/-- THE TIED CARD OF 'crossbucklaw03.OctetParts'. -/
def octetPartsCard : Claim7 := { stood := { row := octetPartsRow, standIns := [], harness := (true, "39221cd2677b0c122c35f92c313cb778cf98669d899090a5ca9714596990998a"), looks := true }, kinds := [], alts := [], laidByText := true, laidKinds := [.handle], laidTests := true, laidLooks := .later }
def OctetPartsCardSaid : Prop := Claim7.holds Tryd.pinned (.plain (OpenSpec.ofChange octetPartsSpec)) octetPartsCard

/-- THE TIED CARD OF 'crossbucklaw03.OctetEnds'. -/
def octetEndsCard : Claim7 := { stood := { row := octetEndsRow, standIns := [], harness := (true, "39221cd2677b0c122c35f92c313cb778cf98669d899090a5ca9714596990998a"), looks := true }, kinds := [], alts := [], laidByText := true, laidKinds := [.handle], laidTests := true, laidLooks := .later }
def OctetEndsCardSaid : Prop := Claim7.holds Tryd.pinned (.plain (OpenSpec.ofChange octetEndsSpec)) octetEndsCard

/-- THE SECOND FORM's CARD OF 'crossbucklaw03.OctetReads'. -/
def octetReadsUptoCard : Claim7 := { stood := { row := octetReadsUptoRow, standIns := [], harness := (true, "39221cd2677b0c122c35f92c313cb778cf98669d899090a5ca9714596990998a"), looks := true }, kinds := [], alts := [], laidByText := true, laidKinds := [.handle], laidTests := true, laidLooks := .later }
def OctetReadsUptoCardSaid : Prop := Claim7.holds Tryd.pinned (.plain (OpenSpec.upto octetReadsSpec)) octetReadsUptoCard

/-- THE SECOND FORM's CARD OF 'crossbucklaw03.OctetLays'. -/
def octetLaysUptoCard : Claim7 := { stood := { row := octetLaysUptoRow, standIns := [], harness := (true, "39221cd2677b0c122c35f92c313cb778cf98669d899090a5ca9714596990998a"), looks := true }, kinds := [], alts := [], laidByText := true, laidKinds := [.handle], laidTests := true, laidLooks := .later }
def OctetLaysUptoCardSaid : Prop := Claim7.holds Tryd.pinned (.plain (OpenSpec.upto octetLaysSpec)) octetLaysUptoCard

/-- THE SECOND FORM's CARD OF 'crossbucklaw03.OctetBack'. -/
def octetBackUptoCard : Claim7 := { stood := { row := octetBackUptoRow, standIns := [], harness := (true, "39221cd2677b0c122c35f92c313cb778cf98669d899090a5ca9714596990998a"), looks := true }, kinds := [], alts := [], laidByText := true, laidKinds := [.handle], laidTests := true, laidLooks := .later }
def OctetBackUptoCardSaid : Prop := Claim7.holds Tryd.pinned (.plain (OpenSpec.upto octetBackSpec)) octetBackUptoCard

/-- THE SECOND FORM's CARD OF 'crossbucklaw03.OctetFew'. -/
def octetFewUptoCard : Claim7 := { stood := { row := octetFewUptoRow, standIns := [], harness := (true, "39221cd2677b0c122c35f92c313cb778cf98669d899090a5ca9714596990998a"), looks := true }, kinds := [], alts := [], laidByText := true, laidKinds := [.handle], laidTests := true, laidLooks := .later }
def OctetFewUptoCardSaid : Prop := Claim7.holds Tryd.pinned (.plain (OpenSpec.upto octetFewSpec)) octetFewUptoCard

/-- THE SECOND FORM's CARD OF 'crossbucklaw03.OctetParts'. -/
def octetPartsUptoCard : Claim7 := { stood := { row := octetPartsUptoRow, standIns := [], harness := (true, "39221cd2677b0c122c35f92c313cb778cf98669d899090a5ca9714596990998a"), looks := true }, kinds := [], alts := [], laidByText := true, laidKinds := [.handle], laidTests := true, laidLooks := .later }
def OctetPartsUptoCardSaid : Prop := Claim7.holds Tryd.pinned (.plain (OpenSpec.upto octetPartsSpec)) octetPartsUptoCard

/-- THE SECOND FORM's CARD OF 'crossbucklaw03.OctetEnds'. -/
def octetEndsUptoCard : Claim7 := { stood := { row := octetEndsUptoRow, standIns := [], harness := (true, "39221cd2677b0c122c35f92c313cb778cf98669d899090a5ca9714596990998a"), looks := true }, kinds := [], alts := [], laidByText := true, laidKinds := [.handle], laidTests := true, laidLooks := .later }
def OctetEndsUptoCardSaid : Prop := Claim7.holds Tryd.pinned (.plain (OpenSpec.upto octetEndsSpec)) octetEndsUptoCard
end Rows
end Go.Proofs.YtpomfdpclnkgpaaDoor

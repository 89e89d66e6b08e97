/-
  DERIVED. GIVEN WITH THE SEED: THE CARDS: each row of YtompoojijeigfaaDoorRows.lean that lists a variable, with what it lists TIED to the program's text (the seventh form; the later family's looks); each row that meets fmt, with fmt's text TOLD by the authors' own Lean function (tested against real Go, not proved from fmt's source: count such statements apart). THE CARD IS WHAT COUNTS. Prove the row's statement (the work); the ties are given (YtompoojijeigfaaDoorTie.lean); close each card by the builder's one call (the guide's Derived/Test/ToyasCard.lean, 'card_holds'). Laid BY PROGRAM, IN A SANDBOX (cutbox-door.mjs). By AI agents, Wed Nov 11 2026. No macro, syntax, notation, axiom, sorry.
-/
import Derived.Test.YtompoojijeigfaaDoorRows
import GoSem.ClaimSeven
namespace Go.Proofs.YtompoojijeigfaaDoor
namespace Rows

/-- THE TIED CARD OF 'crossbucklaw15.StoreTears'. -/
def storeTearsCard : Claim7 := { stood := { row := storeTearsRow, standIns := [], harness := (true, "aee45efcf7194201c76763f1babf2648ac93aeb6eead65dc6edb45b731d13b37"), looks := true }, kinds := [], alts := [], laidByText := true, laidKinds := [.handle], laidTests := true, laidLooks := .later }
def StoreTearsCardSaid : Prop := Claim7.holds Tryd.pinned (.plain (OpenSpec.ofChange storeTearsSpec)) storeTearsCard

/-- THE TIED CARD OF 'crossbucklaw15.StoreKeeps'. -/
def storeKeepsCard : Claim7 := { stood := { row := storeKeepsRow, standIns := [], harness := (true, "aee45efcf7194201c76763f1babf2648ac93aeb6eead65dc6edb45b731d13b37"), looks := true }, kinds := [], alts := [], laidByText := true, laidKinds := [.handle], laidTests := true, laidLooks := .later }
def StoreKeepsCardSaid : Prop := Claim7.holds Tryd.pinned (.plain (OpenSpec.ofChange storeKeepsSpec)) storeKeepsCard

/-- THE TIED CARD OF 'crossbucklaw15.StoreCounts'. -/
def storeCountsCard : Claim7 := { stood := { row := storeCountsRow, standIns := [], harness := (true, "aee45efcf7194201c76763f1babf2648ac93aeb6eead65dc6edb45b731d13b37"), looks := true }, kinds := [], alts := [], laidByText := true, laidKinds := [.handle], laidTests := true, laidLooks := .later }
def StoreCountsCardSaid : Prop := Claim7.holds Tryd.pinned (.plain (OpenSpec.ofChange storeCountsSpec)) storeCountsCard

/-- THE TIED CARD OF 'crossbucklaw15.StoreRevives'. -/
def storeRevivesCard : Claim7 := { stood := { row := storeRevivesRow, standIns := [], harness := (true, "aee45efcf7194201c76763f1babf2648ac93aeb6eead65dc6edb45b731d13b37"), looks := true }, kinds := [], alts := [], laidByText := true, laidKinds := [.handle], laidTests := true, laidLooks := .later }
def StoreRevivesCardSaid : Prop := Claim7.holds Tryd.pinned (.plain (OpenSpec.ofChange storeRevivesSpec)) storeRevivesCard

/-- THE SECOND FORM's CARD OF 'crossbucklaw15.StoreTears'. -/
def storeTearsUptoCard : Claim7 := { stood := { row := storeTearsUptoRow, standIns := [], harness := (true, "aee45efcf7194201c76763f1babf2648ac93aeb6eead65dc6edb45b731d13b37"), looks := true }, kinds := [], alts := [], laidByText := true, laidKinds := [.handle], laidTests := true, laidLooks := .later }
def StoreTearsUptoCardSaid : Prop := Claim7.holds Tryd.pinned (.plain (OpenSpec.upto storeTearsSpec)) storeTearsUptoCard

/-- THE SECOND FORM's CARD OF 'crossbucklaw15.StoreKeeps'. -/
def storeKeepsUptoCard : Claim7 := { stood := { row := storeKeepsUptoRow, standIns := [], harness := (true, "aee45efcf7194201c76763f1babf2648ac93aeb6eead65dc6edb45b731d13b37"), looks := true }, kinds := [], alts := [], laidByText := true, laidKinds := [.handle], laidTests := true, laidLooks := .later }
def StoreKeepsUptoCardSaid : Prop := Claim7.holds Tryd.pinned (.plain (OpenSpec.upto storeKeepsSpec)) storeKeepsUptoCard

/-- THE SECOND FORM's CARD OF 'crossbucklaw15.StoreCounts'. -/
def storeCountsUptoCard : Claim7 := { stood := { row := storeCountsUptoRow, standIns := [], harness := (true, "aee45efcf7194201c76763f1babf2648ac93aeb6eead65dc6edb45b731d13b37"), looks := true }, kinds := [], alts := [], laidByText := true, laidKinds := [.handle], laidTests := true, laidLooks := .later }
def StoreCountsUptoCardSaid : Prop := Claim7.holds Tryd.pinned (.plain (OpenSpec.upto storeCountsSpec)) storeCountsUptoCard

/-- THE SECOND FORM's CARD OF 'crossbucklaw15.StoreRevives'. -/
def storeRevivesUptoCard : Claim7 := { stood := { row := storeRevivesUptoRow, standIns := [], harness := (true, "aee45efcf7194201c76763f1babf2648ac93aeb6eead65dc6edb45b731d13b37"), looks := true }, kinds := [], alts := [], laidByText := true, laidKinds := [.handle], laidTests := true, laidLooks := .later }
def StoreRevivesUptoCardSaid : Prop := Claim7.holds Tryd.pinned (.plain (OpenSpec.upto storeRevivesSpec)) storeRevivesUptoCard
end Rows
end Go.Proofs.YtompoojijeigfaaDoor

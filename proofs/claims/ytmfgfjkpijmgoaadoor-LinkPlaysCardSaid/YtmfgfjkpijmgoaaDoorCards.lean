/-
  DERIVED. GIVEN WITH THE SEED: THE CARDS: each row of YtmfgfjkpijmgoaaDoorRows.lean that lists a variable, with what it lists TIED to the program's text (the seventh form; the later family's looks); each row that meets fmt, with fmt's text TOLD by the authors' own Lean function (tested against real Go, not proved from fmt's source: count such statements apart). THE CARD IS WHAT COUNTS. Prove the row's statement (the work); the ties are given (YtmfgfjkpijmgoaaDoorTie.lean); close each card by the builder's one call (the guide's Derived/Test/ToyasCard.lean, 'card_holds'). Laid BY PROGRAM, IN A SANDBOX (cutbox-door.mjs). By AI agents, Wed Nov 11 2026. No macro, syntax, notation, axiom, sorry.
-/
import Derived.Test.YtmfgfjkpijmgoaaDoorRows
import GoSem.ClaimSeven
namespace Go.Proofs.YtmfgfjkpijmgoaaDoor
namespace Rows

/-- THE TIED CARD OF 'crossbucklaw07.LinkPlays'. -/
def linkPlaysCard : Claim7 := { stood := { row := linkPlaysRow, standIns := [], harness := (true, "f909f81cfe4a70a56ca33fffc3a9c1e23843331a358555916286dae8bf69f2ba"), looks := true }, kinds := [], alts := [], laidByText := true, laidKinds := [.handle], laidTests := true, laidLooks := .later }
def LinkPlaysCardSaid : Prop := Claim7.holds Tryd.pinned (.plain (OpenSpec.ofChange linkPlaysSpec)) linkPlaysCard

/-- THE TIED CARD OF 'crossbucklaw07.LinkFresh'. -/
def linkFreshCard : Claim7 := { stood := { row := linkFreshRow, standIns := [], harness := (true, "f909f81cfe4a70a56ca33fffc3a9c1e23843331a358555916286dae8bf69f2ba"), looks := true }, kinds := [], alts := [], laidByText := true, laidKinds := [.handle], laidTests := true, laidLooks := .later }
def LinkFreshCardSaid : Prop := Claim7.holds Tryd.pinned (.plain (OpenSpec.ofChange linkFreshSpec)) linkFreshCard

/-- THE TIED CARD OF 'crossbucklaw07.LinkOrder'. -/
def linkOrderCard : Claim7 := { stood := { row := linkOrderRow, standIns := [], harness := (true, "f909f81cfe4a70a56ca33fffc3a9c1e23843331a358555916286dae8bf69f2ba"), looks := true }, kinds := [], alts := [], laidByText := true, laidKinds := [.handle], laidTests := true, laidLooks := .later }
def LinkOrderCardSaid : Prop := Claim7.holds Tryd.pinned (.plain (OpenSpec.ofChange linkOrderSpec)) linkOrderCard

/-- THE TIED CARD OF 'crossbucklaw07.LinkApart'. -/
def linkApartCard : Claim7 := { stood := { row := linkApartRow, standIns := [], harness := (true, "f909f81cfe4a70a56ca33fffc3a9c1e23843331a358555916286dae8bf69f2ba"), looks := true }, kinds := [], alts := [], laidByText := true, laidKinds := [.handle], laidTests := true, laidLooks := .later }
def LinkApartCardSaid : Prop := Claim7.holds Tryd.pinned (.plain (OpenSpec.ofChange linkApartSpec)) linkApartCard

/-- THE TIED CARD OF 'crossbucklaw07.LinkNone'. -/
def linkNoneCard : Claim7 := { stood := { row := linkNoneRow, standIns := [], harness := (true, "f909f81cfe4a70a56ca33fffc3a9c1e23843331a358555916286dae8bf69f2ba"), looks := true }, kinds := [], alts := [], laidByText := true, laidKinds := [.handle], laidTests := true, laidLooks := .later }
def LinkNoneCardSaid : Prop := Claim7.holds Tryd.pinned (.plain (OpenSpec.ofChange linkNoneSpec)) linkNoneCard

/-- THE TIED CARD OF 'crossbucklaw07.LinkLast'. -/
def linkLastCard : Claim7 := { stood := { row := linkLastRow, standIns := [], harness := (true, "f909f81cfe4a70a56ca33fffc3a9c1e23843331a358555916286dae8bf69f2ba"), looks := true }, kinds := [], alts := [], laidByText := true, laidKinds := [.handle], laidTests := true, laidLooks := .later }
def LinkLastCardSaid : Prop := Claim7.holds Tryd.pinned (.plain (OpenSpec.ofChange linkLastSpec)) linkLastCard

/-- THE SECOND FORM's CARD OF 'crossbucklaw07.LinkPlays'. -/
def linkPlaysUptoCard : Claim7 := { stood := { row := linkPlaysUptoRow, standIns := [], harness := (true, "f909f81cfe4a70a56ca33fffc3a9c1e23843331a358555916286dae8bf69f2ba"), looks := true }, kinds := [], alts := [], laidByText := true, laidKinds := [.handle], laidTests := true, laidLooks := .later }
def LinkPlaysUptoCardSaid : Prop := Claim7.holds Tryd.pinned (.plain (OpenSpec.upto linkPlaysSpec)) linkPlaysUptoCard

/-- THE SECOND FORM's CARD OF 'crossbucklaw07.LinkFresh'. -/
def linkFreshUptoCard : Claim7 := { stood := { row := linkFreshUptoRow, standIns := [], harness := (true, "f909f81cfe4a70a56ca33fffc3a9c1e23843331a358555916286dae8bf69f2ba"), looks := true }, kinds := [], alts := [], laidByText := true, laidKinds := [.handle], laidTests := true, laidLooks := .later }
def LinkFreshUptoCardSaid : Prop := Claim7.holds Tryd.pinned (.plain (OpenSpec.upto linkFreshSpec)) linkFreshUptoCard

/-- THE SECOND FORM's CARD OF 'crossbucklaw07.LinkOrder'. -/
def linkOrderUptoCard : Claim7 := { stood := { row := linkOrderUptoRow, standIns := [], harness := (true, "f909f81cfe4a70a56ca33fffc3a9c1e23843331a358555916286dae8bf69f2ba"), looks := true }, kinds := [], alts := [], laidByText := true, laidKinds := [.handle], laidTests := true, laidLooks := .later }
def LinkOrderUptoCardSaid : Prop := Claim7.holds Tryd.pinned (.plain (OpenSpec.upto linkOrderSpec)) linkOrderUptoCard

/-- THE SECOND FORM's CARD OF 'crossbucklaw07.LinkApart'. -/
def linkApartUptoCard : Claim7 := { stood := { row := linkApartUptoRow, standIns := [], harness := (true, "f909f81cfe4a70a56ca33fffc3a9c1e23843331a358555916286dae8bf69f2ba"), looks := true }, kinds := [], alts := [], laidByText := true, laidKinds := [.handle], laidTests := true, laidLooks := .later }
def LinkApartUptoCardSaid : Prop := Claim7.holds Tryd.pinned (.plain (OpenSpec.upto linkApartSpec)) linkApartUptoCard

/-- THE SECOND FORM's CARD OF 'crossbucklaw07.LinkNone'. -/
def linkNoneUptoCard : Claim7 := { stood := { row := linkNoneUptoRow, standIns := [], harness := (true, "f909f81cfe4a70a56ca33fffc3a9c1e23843331a358555916286dae8bf69f2ba"), looks := true }, kinds := [], alts := [], laidByText := true, laidKinds := [.handle], laidTests := true, laidLooks := .later }
def LinkNoneUptoCardSaid : Prop := Claim7.holds Tryd.pinned (.plain (OpenSpec.upto linkNoneSpec)) linkNoneUptoCard

/-- THE SECOND FORM's CARD OF 'crossbucklaw07.LinkLast'. -/
def linkLastUptoCard : Claim7 := { stood := { row := linkLastUptoRow, standIns := [], harness := (true, "f909f81cfe4a70a56ca33fffc3a9c1e23843331a358555916286dae8bf69f2ba"), looks := true }, kinds := [], alts := [], laidByText := true, laidKinds := [.handle], laidTests := true, laidLooks := .later }
def LinkLastUptoCardSaid : Prop := Claim7.holds Tryd.pinned (.plain (OpenSpec.upto linkLastSpec)) linkLastUptoCard
end Rows
end Go.Proofs.YtmfgfjkpijmgoaaDoor

/-
  DERIVED. GIVEN WITH THE SEED: THE CARDS: each row of YtndinbefljajcaaDoorRows.lean that lists a variable, with what it lists TIED to the program's text (the seventh form; the later family's looks); each row that meets fmt, with fmt's text TOLD by the authors' own Lean function (tested against real Go, not proved from fmt's source: count such statements apart). THE CARD IS WHAT COUNTS. Prove the row's statement (the work); the ties are given (YtndinbefljajcaaDoorTie.lean); close each card by the builder's one call (the guide's Derived/Test/ToyasCard.lean, 'card_holds'). Laid BY PROGRAM, IN A SANDBOX (cutbox-door.mjs). By AI agents, Wed Nov 11 2026. No macro, syntax, notation, axiom, sorry.
-/
import Derived.Test.YtndinbefljajcaaDoorRows
import GoSem.ClaimSeven
namespace Go.Proofs.YtndinbefljajcaaDoor
namespace Rows

/-- THE TIED CARD OF 'drachmlaw03.DimsTells'. -/
def dimsTellsCard : Claim7 := { stood := { row := dimsTellsRow, standIns := [], harness := (true, "ec1e3abc73bd61ba45d858a5f28b43f9ac38ede8f153bdfa203b26b3a224dfcc"), looks := true }, kinds := [], alts := [], laidByText := true, laidKinds := [.data, .data, .data, .data, .sentinel, .sentinel, .data, .pinned], laidTests := true, laidLooks := .later }
def DimsTellsCardSaid : Prop := Claim7.holds Tryd.pinned (.plain (OpenSpec.ofChange dimsTellsSpec)) dimsTellsCard

/-- THE TIED CARD OF 'drachmlaw04.WorthBack'. -/
def worthBackCard : Claim7 := { stood := { row := worthBackRow, standIns := [], harness := (true, "ec1e3abc73bd61ba45d858a5f28b43f9ac38ede8f153bdfa203b26b3a224dfcc"), looks := true }, kinds := [], alts := [], laidByText := true, laidKinds := [.data, .data, .data, .data, .data], laidTests := true, laidLooks := .later }
def WorthBackCardSaid : Prop := Claim7.holds Tryd.pinned (.plain (OpenSpec.ofChange worthBackSpec)) worthBackCard

/-- THE TIED CARD OF 'drachmlaw04.WorthPowers'. -/
def worthPowersCard : Claim7 := { stood := { row := worthPowersRow, standIns := [], harness := (true, "ec1e3abc73bd61ba45d858a5f28b43f9ac38ede8f153bdfa203b26b3a224dfcc"), looks := true }, kinds := [], alts := [], laidByText := true, laidKinds := [.data, .data, .data, .data, .data], laidTests := true, laidLooks := .later }
def WorthPowersCardSaid : Prop := Claim7.holds Tryd.pinned (.plain (OpenSpec.ofChange worthPowersSpec)) worthPowersCard

/-- THE TIED CARD OF 'drachmlaw04.WorthSpecial'. -/
def worthSpecialCard : Claim7 := { stood := { row := worthSpecialRow, standIns := [], harness := (true, "ec1e3abc73bd61ba45d858a5f28b43f9ac38ede8f153bdfa203b26b3a224dfcc"), looks := true }, kinds := [], alts := [], laidByText := true, laidKinds := [.data, .data, .data, .data, .data], laidTests := true, laidLooks := .later }
def WorthSpecialCardSaid : Prop := Claim7.holds Tryd.pinned (.plain (OpenSpec.ofChange worthSpecialSpec)) worthSpecialCard

/-- THE TIED CARD OF 'drachmlaw04.WorthTexts'. -/
def worthTextsCard : Claim7 := { stood := { row := worthTextsRow, standIns := [], harness := (true, "ec1e3abc73bd61ba45d858a5f28b43f9ac38ede8f153bdfa203b26b3a224dfcc"), looks := true }, kinds := [], alts := [], laidByText := true, laidKinds := [.data, .data, .data, .data, .data], laidTests := true, laidLooks := .later }
def WorthTextsCardSaid : Prop := Claim7.holds Tryd.pinned (.plain (OpenSpec.ofChange worthTextsSpec)) worthTextsCard

/-- THE TIED CARD OF 'drachmlaw04.WorthChains'. -/
def worthChainsCard : Claim7 := { stood := { row := worthChainsRow, standIns := [], harness := (true, "ec1e3abc73bd61ba45d858a5f28b43f9ac38ede8f153bdfa203b26b3a224dfcc"), looks := true }, kinds := [], alts := [], laidByText := true, laidKinds := [.data, .data, .data, .data, .data], laidTests := true, laidLooks := .later }
def WorthChainsCardSaid : Prop := Claim7.holds Tryd.pinned (.plain (OpenSpec.ofChange worthChainsSpec)) worthChainsCard

/-- THE SECOND FORM's CARD OF 'drachmlaw03.DimsTells'. -/
def dimsTellsUptoCard : Claim7 := { stood := { row := dimsTellsUptoRow, standIns := [], harness := (true, "ec1e3abc73bd61ba45d858a5f28b43f9ac38ede8f153bdfa203b26b3a224dfcc"), looks := true }, kinds := [], alts := [], laidByText := true, laidKinds := [.data, .data, .data, .data, .sentinel, .sentinel, .data, .pinned], laidTests := true, laidLooks := .later }
def DimsTellsUptoCardSaid : Prop := Claim7.holds Tryd.pinned (.plain (OpenSpec.upto dimsTellsSpec)) dimsTellsUptoCard

/-- THE SECOND FORM's CARD OF 'drachmlaw04.WorthBack'. -/
def worthBackUptoCard : Claim7 := { stood := { row := worthBackUptoRow, standIns := [], harness := (true, "ec1e3abc73bd61ba45d858a5f28b43f9ac38ede8f153bdfa203b26b3a224dfcc"), looks := true }, kinds := [], alts := [], laidByText := true, laidKinds := [.data, .data, .data, .data, .data], laidTests := true, laidLooks := .later }
def WorthBackUptoCardSaid : Prop := Claim7.holds Tryd.pinned (.plain (OpenSpec.upto worthBackSpec)) worthBackUptoCard

/-- THE SECOND FORM's CARD OF 'drachmlaw04.WorthPowers'. -/
def worthPowersUptoCard : Claim7 := { stood := { row := worthPowersUptoRow, standIns := [], harness := (true, "ec1e3abc73bd61ba45d858a5f28b43f9ac38ede8f153bdfa203b26b3a224dfcc"), looks := true }, kinds := [], alts := [], laidByText := true, laidKinds := [.data, .data, .data, .data, .data], laidTests := true, laidLooks := .later }
def WorthPowersUptoCardSaid : Prop := Claim7.holds Tryd.pinned (.plain (OpenSpec.upto worthPowersSpec)) worthPowersUptoCard

/-- THE SECOND FORM's CARD OF 'drachmlaw04.WorthSpecial'. -/
def worthSpecialUptoCard : Claim7 := { stood := { row := worthSpecialUptoRow, standIns := [], harness := (true, "ec1e3abc73bd61ba45d858a5f28b43f9ac38ede8f153bdfa203b26b3a224dfcc"), looks := true }, kinds := [], alts := [], laidByText := true, laidKinds := [.data, .data, .data, .data, .data], laidTests := true, laidLooks := .later }
def WorthSpecialUptoCardSaid : Prop := Claim7.holds Tryd.pinned (.plain (OpenSpec.upto worthSpecialSpec)) worthSpecialUptoCard

/-- THE SECOND FORM's CARD OF 'drachmlaw04.WorthTexts'. -/
def worthTextsUptoCard : Claim7 := { stood := { row := worthTextsUptoRow, standIns := [], harness := (true, "ec1e3abc73bd61ba45d858a5f28b43f9ac38ede8f153bdfa203b26b3a224dfcc"), looks := true }, kinds := [], alts := [], laidByText := true, laidKinds := [.data, .data, .data, .data, .data], laidTests := true, laidLooks := .later }
def WorthTextsUptoCardSaid : Prop := Claim7.holds Tryd.pinned (.plain (OpenSpec.upto worthTextsSpec)) worthTextsUptoCard

/-- THE SECOND FORM's CARD OF 'drachmlaw04.WorthChains'. -/
def worthChainsUptoCard : Claim7 := { stood := { row := worthChainsUptoRow, standIns := [], harness := (true, "ec1e3abc73bd61ba45d858a5f28b43f9ac38ede8f153bdfa203b26b3a224dfcc"), looks := true }, kinds := [], alts := [], laidByText := true, laidKinds := [.data, .data, .data, .data, .data], laidTests := true, laidLooks := .later }
def WorthChainsUptoCardSaid : Prop := Claim7.holds Tryd.pinned (.plain (OpenSpec.upto worthChainsSpec)) worthChainsUptoCard
end Rows
end Go.Proofs.YtndinbefljajcaaDoor

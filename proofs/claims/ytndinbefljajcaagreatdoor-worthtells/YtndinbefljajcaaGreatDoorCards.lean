/-
  DERIVED. GIVEN WITH THE SEED: THE CARDS: each row of YtndinbefljajcaaGreatDoorRows.lean that lists a variable, with what it lists TIED to the program's text (the seventh form; the later family's looks); each row that meets fmt, with fmt's text TOLD by the authors' own Lean function (tested against real Go, not proved from fmt's source: count such statements apart). THE CARD IS WHAT COUNTS. Prove the row's statement (the work); the ties are given (YtndinbefljajcaaGreatDoorTie.lean); close each card by the builder's one call (the guide's Derived/Test/ToyasCard.lean, 'card_holds'). Laid BY PROGRAM, IN A SANDBOX (cutbox-door.mjs). By AI agents, Wed Nov 11 2026. No macro, syntax, notation, axiom, sorry.
-/
import Derived.Test.YtndinbefljajcaaGreatDoorRows
import GoSem.ClaimSeven
namespace Go.Proofs.YtndinbefljajcaaGreatDoor
namespace Rows

/-- THE TIED CARD OF 'drachmlaw04.WorthTells'. -/
def worthTellsCard : Claim7 := { stood := { row := worthTellsRow, standIns := [], harness := (true, "e6f8beda42de8038fb9cd6b862c2bdb90555d7a72680f43947f6359f0b8d246b"), looks := false }, kinds := [], alts := [], laidByText := true, laidKinds := [.data, .data, .data, .data, .data], laidTests := true, laidLooks := .later }
def WorthTellsCardSaid : Prop := Claim7.holds Tryz.pinned (.plain (OpenSpec.ofChange worthTellsSpec)) worthTellsCard

/-- THE SECOND FORM's CARD OF 'drachmlaw04.WorthTells'. -/
def worthTellsUptoCard : Claim7 := { stood := { row := worthTellsUptoRow, standIns := [], harness := (true, "e6f8beda42de8038fb9cd6b862c2bdb90555d7a72680f43947f6359f0b8d246b"), looks := false }, kinds := [], alts := [], laidByText := true, laidKinds := [.data, .data, .data, .data, .data], laidTests := true, laidLooks := .later }
def WorthTellsUptoCardSaid : Prop := Claim7.holds Tryz.pinned (.plain (OpenSpec.upto worthTellsSpec)) worthTellsUptoCard
end Rows
end Go.Proofs.YtndinbefljajcaaGreatDoor

/-
  DERIVED. GIVEN WITH THE SEED: THE CARDS: each row of YtpmibcdmaaagjaaDoorRows.lean that lists a variable, with what it lists TIED to the program's text (the seventh form; the later family's looks); each row that meets fmt, with fmt's text TOLD by the authors' own Lean function (tested against real Go, not proved from fmt's source: count such statements apart). THE CARD IS WHAT COUNTS. Prove the row's statement (the work); the ties are given (YtpmibcdmaaagjaaDoorTie.lean); close each card by the builder's one call (the guide's Derived/Test/ToyasCard.lean, 'card_holds'). Laid BY PROGRAM, IN A SANDBOX (cutbox-door.mjs). By AI agents, Wed Nov 11 2026. No macro, syntax, notation, axiom, sorry.
-/
import Derived.Test.YtpmibcdmaaagjaaDoorRows
import GoSem.ClaimSeven
namespace Go.Proofs.YtpmibcdmaaagjaaDoor
namespace Rows

/-- THE TIED CARD OF 'drachmlaw05.AtomsChecks'. -/
def atomsChecksCard : Claim7 := { stood := { row := atomsChecksRow, standIns := [], harness := (true, "71a1812ab6e8fc99f759aaeeb928cd62d3a5fb9b270bb8de9592a793f91e64ea"), looks := false }, kinds := [], alts := [], laidByText := true, laidKinds := [.data], laidTests := true, laidLooks := .later }
def AtomsChecksCardSaid : Prop := Claim7.holds Tryd.pinned (.plain (OpenSpec.ofChange atomsChecksSpec)) atomsChecksCard

/-- THE TIED CARD OF 'drachmlaw05.AtomsEach'. -/
def atomsEachCard : Claim7 := { stood := { row := atomsEachRow, standIns := [], harness := (true, "71a1812ab6e8fc99f759aaeeb928cd62d3a5fb9b270bb8de9592a793f91e64ea"), looks := false }, kinds := [], alts := [], laidByText := true, laidKinds := [.data], laidTests := true, laidLooks := .later }
def AtomsEachCardSaid : Prop := Claim7.holds Tryd.pinned (.plain (OpenSpec.ofChange atomsEachSpec)) atomsEachCard

/-- THE SECOND FORM's CARD OF 'drachmlaw05.AtomsChecks'. -/
def atomsChecksUptoCard : Claim7 := { stood := { row := atomsChecksUptoRow, standIns := [], harness := (true, "71a1812ab6e8fc99f759aaeeb928cd62d3a5fb9b270bb8de9592a793f91e64ea"), looks := false }, kinds := [], alts := [], laidByText := true, laidKinds := [.data], laidTests := true, laidLooks := .later }
def AtomsChecksUptoCardSaid : Prop := Claim7.holds Tryd.pinned (.plain (OpenSpec.upto atomsChecksSpec)) atomsChecksUptoCard

/-- THE SECOND FORM's CARD OF 'drachmlaw05.AtomsEach'. -/
def atomsEachUptoCard : Claim7 := { stood := { row := atomsEachUptoRow, standIns := [], harness := (true, "71a1812ab6e8fc99f759aaeeb928cd62d3a5fb9b270bb8de9592a793f91e64ea"), looks := false }, kinds := [], alts := [], laidByText := true, laidKinds := [.data], laidTests := true, laidLooks := .later }
def AtomsEachUptoCardSaid : Prop := Claim7.holds Tryd.pinned (.plain (OpenSpec.upto atomsEachSpec)) atomsEachUptoCard
end Rows
end Go.Proofs.YtpmibcdmaaagjaaDoor

/-
  NARROWER THAN 'FOR EVERY INPUT', by the rows' own cells (each row's printed sentence says how): AtomsChecks: laid · AtomsEach: laid.
  DERIVED. THE GIVEN ROWS OF THIS SEAT. 2 by the template 'for every input the law returns true; each argument reads behind the call as it read before'; 0 by the template 'total and deterministic' (their statements: YtpmibcdmaaagjaaDoorTotals.lean).
  GIVEN WITH THE SEED: the statements are not yours to turn. If you find one false, say at which input.
  Laid BY PROGRAM, IN A SANDBOX (cutbox-rows.mjs): the forced cells as the released guide's own fill.sh prints them over the translation ae5902478c229bb7… (all of the seat's roots in one cut). By AI agents, Wed Nov 11 2026. No macro, syntax, notation, axiom, sorry.
-/
import Derived.Test.YtpmibcdmaaagjaaDoorChecked
import GoSem.Claim
import GoSem.ClaimJoined
import GoSem.ClaimMapViews
import Derived.JoinedTies
import Derived.KernelRfl
namespace Go.Proofs.YtpmibcdmaaagjaaDoor
/- THE CELL 'sum', in the pinned program and in every row, IS THE sha256 OF THE DUMP (.gsa) THAT YtpmibcdmaaagjaaDoorProg.lean LOADS. Nothing in Lean hashes anything: it is a label: what it is worth is what the hold of that sum in a sandbox is worth. -/
noncomputable def Tryd.pinned : Pinned := { name := "ytpmibcdmaaagjaadoor", sum := "ae5902478c229bb776a04782e5be4996a1b2b7cda4391240dc0b69a6ee92bfcd", checked := Tryd.checked }
namespace Rows
def none {H : Type} : Left H := { results := [], args := [] }

/- WHAT THE LISTED PACKAGE-LEVEL VARIABLES READ AS WHEN THE CALL BEGINS. Each datum BY PROGRAM (the guide's laid-datum.mjs) off the statement by which the dump's own 'gosem.cut.vars' lays the variable. In a bare row this is a premise. The card (YtpmibcdmaaagjaaDoorCards.lean) ties it to the program's text. -/
def laid_drachm_frac_ofTen {H : Type} : DataW H := .agg [.lit (.int .i64 2), .lit (.int .i64 5)]

/-- 'drachmlaw05.AtomsChecks': WHATEVER THE INPUT: true; the input reads as it did. -/
def atomsChecksSpec : ChangeSpec := { name := "atomsChecks", fn := fun _ => fun
  | [d] => { results := [.lit (.bool true)], args := [d] }
  | _ => none }
def atomsChecksRow : OpenClaim := { program := "ytpmibcdmaaagjaadoor", sum := "ae5902478c229bb776a04782e5be4996a1b2b7cda4391240dc0b69a6ee92bfcd", func := "drachm/drachmlaw05.AtomsChecks", spec := "atomsChecks", unfollowed := true, recurses := true, named := ["drachm/frac.ofTen"], plainKeys := false, apart := false, laid := [("drachm/frac.ofTen", laid_drachm_frac_ofTen)] }
def AtomsChecksSaid : Prop := atomsChecksRow.holds Tryd.pinned (OpenSpec.ofChange atomsChecksSpec)

/-- ITS FALSE NEIGHBOUR: 'it returns false'. Refute it at one input. -/
def atomsChecksWrong : ChangeSpec := { name := "atomsChecks", fn := fun _ => fun
  | [d] => { results := [.lit (.bool false)], args := [d] }
  | _ => none }
def AtomsChecksWrongFalsely : Prop := atomsChecksRow.holds Tryd.pinned (OpenSpec.ofChange atomsChecksWrong)

/-- 'drachmlaw05.AtomsEach': WHATEVER THE INPUT: true; the input reads as it did. -/
def atomsEachSpec : ChangeSpec := { name := "atomsEach", fn := fun _ => fun
  | [d1, d2] => { results := [.lit (.bool true)], args := [d1, d2] }
  | _ => none }
def atomsEachRow : OpenClaim := { program := "ytpmibcdmaaagjaadoor", sum := "ae5902478c229bb776a04782e5be4996a1b2b7cda4391240dc0b69a6ee92bfcd", func := "drachm/drachmlaw05.AtomsEach", spec := "atomsEach", unfollowed := true, recurses := true, named := ["drachm/frac.ofTen"], plainKeys := false, apart := false, laid := [("drachm/frac.ofTen", laid_drachm_frac_ofTen)] }
def AtomsEachSaid : Prop := atomsEachRow.holds Tryd.pinned (OpenSpec.ofChange atomsEachSpec)

/-- ITS FALSE NEIGHBOUR: 'it returns false'. Refute it at one input. -/
def atomsEachWrong : ChangeSpec := { name := "atomsEach", fn := fun _ => fun
  | [d1, d2] => { results := [.lit (.bool false)], args := [d1, d2] }
  | _ => none }
def AtomsEachWrongFalsely : Prop := atomsEachRow.holds Tryd.pinned (OpenSpec.ofChange atomsEachWrong)

/- THE SECOND FORM. 'bulk': how many values and letters a reading holds, each counted each time it is reached (what is shared counts as often as it is met; a slice's spare places count too). A statement '..UptoSaid' is the law's where the arguments, and the package variables that the reading takes, are together of bulk at most 1048576: NARROWER than '..Said'. Prove '..Said' where nothing that the law and all that it calls make is longer than what came in: it says more and counts as full. Else prove '..UptoSaid'. A law counts once. -/
mutual
def uptoBulk {H : Type} : DataW H → Nat
  | .lit (.string bytes) => bytes.length + 1
  | .lit _ => 1
  | .nil => 1
  | .ptr d => uptoBulk d + 1
  | .slice elems spare => uptoBulkAll elems + uptoBulkAll spare + 1
  | .agg parts => uptoBulkAll parts + 1
  | .iface _ d => uptoBulk d + 1
  | .map entries => uptoBulkEntries entries + 1
  | .held _ => 1
def uptoBulkAll {H : Type} : List (DataW H) → Nat
  | [] => 0
  | d :: r => uptoBulk d + uptoBulkAll r
def uptoBulkEntries {H : Type} : List (Lit × DataW H) → Nat
  | [] => 0
  | x :: r => uptoBulkEntry x + uptoBulkEntries r
def uptoBulkEntry {H : Type} : Lit × DataW H → Nat
  | (.string bytes, d) => bytes.length + uptoBulk d + 1
  | (_, d) => uptoBulk d + 1
 end
def uptoSmall : (H : Type) → List (DataW H) → Bool := fun _ ds => decide (uptoBulkAll ds ≤ 1048576)
def OpenSpec.upto (s : _root_.Go.ChangeSpec) : _root_.Go.OpenSpec := { _root_.Go.OpenSpec.ofChange s with cond := some uptoSmall }

/-- 'drachmlaw05.AtomsChecks', WHERE WHAT IT READS IS OF BULK AT MOST 1048576: true; the input reads as it did. -/
def atomsChecksUptoRow : OpenClaim := { program := "ytpmibcdmaaagjaadoor", sum := "ae5902478c229bb776a04782e5be4996a1b2b7cda4391240dc0b69a6ee92bfcd", func := "drachm/drachmlaw05.AtomsChecks", spec := "atomsChecks", unfollowed := true, recurses := true, named := ["drachm/frac.ofTen"], plainKeys := false, apart := false, laid := [("drachm/frac.ofTen", laid_drachm_frac_ofTen)], narrowed := true }
def AtomsChecksUptoSaid : Prop := atomsChecksUptoRow.holds Tryd.pinned (OpenSpec.upto atomsChecksSpec)

/-- 'drachmlaw05.AtomsEach', WHERE WHAT IT READS IS OF BULK AT MOST 1048576: true; the input reads as it did. -/
def atomsEachUptoRow : OpenClaim := { program := "ytpmibcdmaaagjaadoor", sum := "ae5902478c229bb776a04782e5be4996a1b2b7cda4391240dc0b69a6ee92bfcd", func := "drachm/drachmlaw05.AtomsEach", spec := "atomsEach", unfollowed := true, recurses := true, named := ["drachm/frac.ofTen"], plainKeys := false, apart := false, laid := [("drachm/frac.ofTen", laid_drachm_frac_ofTen)], narrowed := true }
def AtomsEachUptoSaid : Prop := atomsEachUptoRow.holds Tryd.pinned (OpenSpec.upto atomsEachSpec)

end Rows
end Go.Proofs.YtpmibcdmaaagjaaDoor

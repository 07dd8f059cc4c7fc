/-
  Contracts of atoms.within, letter, codeOf.
-/
import Derived.Test.YteakgagjacjhiaaAN
import Derived.Deep.Cut
namespace Go.Proofs.Yteakgagjacjhiaa.Atoms
open Go.RowKit
set_option linter.unusedVariables false
set_option linter.unusedSimpArgs false

end Go.Proofs.Yteakgagjacjhiaa.Atoms

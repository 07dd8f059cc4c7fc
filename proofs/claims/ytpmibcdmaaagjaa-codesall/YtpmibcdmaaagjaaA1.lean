/-
  Contracts of atoms.within, letter, codeOf.
-/
import Derived.Test.YtpmibcdmaaagjaaAN
import Derived.Deep.Cut
namespace Go.Proofs.Ytpmibcdmaaagjaa.Atoms
open Go.RowKit
set_option linter.unusedVariables false
set_option linter.unusedSimpArgs false

end Go.Proofs.Ytpmibcdmaaagjaa.Atoms

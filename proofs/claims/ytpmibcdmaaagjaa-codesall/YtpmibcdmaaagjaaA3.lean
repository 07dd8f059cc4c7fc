/-
  Maps whose keys are codes: looked up, filled, cleared. Contract of (atoms.seen).add.
-/
import Derived.Test.YtpmibcdmaaagjaaA2
import Derived.RangeFuncWrites
namespace Go.Proofs.Ytpmibcdmaaagjaa.Atoms
open Go.RowKit
set_option linter.unusedVariables false
set_option linter.unusedSimpArgs false

end Go.Proofs.Ytpmibcdmaaagjaa.Atoms

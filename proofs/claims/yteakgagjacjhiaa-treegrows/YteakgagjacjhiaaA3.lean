/-
  Maps whose keys are codes: looked up, filled, cleared. Contract of (atoms.seen).add.
-/
import Derived.Test.YteakgagjacjhiaaA2
import Derived.RangeFuncWrites
namespace Go.Proofs.Yteakgagjacjhiaa.Atoms
open Go.RowKit
set_option linter.unusedVariables false
set_option linter.unusedSimpArgs false

end Go.Proofs.Yteakgagjacjhiaa.Atoms

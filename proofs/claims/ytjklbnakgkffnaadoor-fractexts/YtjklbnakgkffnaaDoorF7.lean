/-
  Contract of frac.Div, by one Lean function of the numbers; the world below stays as it was.
-/
import Derived.Test.YtjklbnakgkffnaaDoorF6
namespace Go.Proofs.YtjklbnakgkffnaaDoor.Frac
open Go.RowKit
open Go.Proofs.YtjklbnakgkffnaaDoor.Whole
set_option linter.unusedVariables false
set_option linter.unusedSimpArgs false

end Go.Proofs.YtjklbnakgkffnaaDoor.Frac

/-
  TreeGrows, its arguments in the frame's order.
-/
import Derived.Test.YteakgagjacjhiaaGT
namespace Go.Proofs.Yteakgagjacjhiaa.Trees
open Go.RowKit
set_option linter.unusedVariables false
theorem grows_go (sa : Value) (la : List Int) (sb : Value) (lb : List Int) (op : Int) (w : World) (ha : IV w sa la) (hb : IV w sb lb) (hop : -9223372036854775808 ≤ op ∧ op ≤ 9223372036854775807) (hla : la.length ≤ 9223372036854775807) (hlb : lb.length ≤ 9223372036854775807) :
    Calls Try.prog 5 #[sa, sb, .int .i64 op] w fun e w' => e = .returned (.bool true) ∧ Below w.heap.size w w' := grows_law sa sb la lb op w ha hb hla hlb

end Go.Proofs.Yteakgagjacjhiaa.Trees

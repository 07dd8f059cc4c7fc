/-
  Contract of atoms.wrongAtom: the first atom that is not right.
-/
import Derived.Test.YtgbhfhdhmkmpcaaA8
import Derived.Stop.RegionWithIn
import Derived.Shelf.Abstract
namespace Go.Proofs.Ytgbhfhdhmkmpcaa.Atoms
open Go.RowKit Go.Shelf Go.Proofs.Ytgbhfhdhmkmpcaa.Ranges
attribute [local go_sem] Oper.semAt_some
set_option linter.unusedVariables false
set_option linter.unusedSimpArgs false

theorem cell_same {W W' : World} {b j : Nat} {v : Value} (hc : W.cell? ⟨b, j, none⟩ = some v) (h : W'.heap[b]? = W.heap[b]?) : W'.cell? ⟨b, j, none⟩ = some v := (World.cell?_of_block (a := ⟨b, j, none⟩) h).trans hc
theorem cell_lt {W : World} {b j : Nat} {v : Value} (hc : W.cell? ⟨b, j, none⟩ = some v) : b < W.heap.size := World.block_lt_of_cell? _ _ hc

end Go.Proofs.Ytgbhfhdhmkmpcaa.Atoms

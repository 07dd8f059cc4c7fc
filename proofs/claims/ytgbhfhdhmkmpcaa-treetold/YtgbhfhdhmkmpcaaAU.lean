/-
  Contracts of atoms.derived, others.
-/
import Derived.Test.YtgbhfhdhmkmpcaaAT
namespace Go.Proofs.Ytgbhfhdhmkmpcaa.Atoms
open Go.RowKit Go.Shelf
set_option linter.unusedVariables false
set_option linter.unusedSimpArgs false

set_option maxRecDepth 1000000 in
set_option maxHeartbeats 4000000 in
theorem derived_any (w : World) : Calls Try.prog 32 #[] w (RowsEnd w (rowsD.map fillR)) := by
  go_enter Try.func32, Try.ntmps32
  refine wp_seq (wp_region_list ?_)
  refine wpList_plain rfl fun K hK => hK _ _ ?_
  show Code.wp _ _ _ _ _
  refine wp_seq (wp_region_list ?_)
  refine wpList_run known_to w 101 _ _ 101 103 (.slice (some ⟨w.heap.size + atomsAt rowsD, 0, none⟩) rowsD.length rowsD.length) (layRows w.heap.size rowsD) (by kernel_rfl) ?_
  intro a' hs hN hd
  refine tail_call (g := 41) (s := 101) (d := 102) (T := #[54]) (by kernel_rfl) hs (by rw [hN]; decide) (enters_of Try.func41 (by kernel_rfl) rfl) (filled_any _ _ _ _ _ (rows_grid w rowsD) (by decide)) (fun e w' h => ⟨_, h.1⟩) ?_
  intro a2 v' w' hR h0 hd2
  refine wp_ret ?_
  refine bodyPost_ret (v := v') ?_ (hd2.trans hd) (rows_end w rowsD (by decide) rfl hR)
  rw [← h0]
  exact results_tmp rfl _ _ _

set_option maxRecDepth 1000000 in
set_option maxHeartbeats 4000000 in
theorem others_any (w : World) : Calls Try.prog 33 #[] w (RowsEnd w (rowsO.map fillR)) := by
  go_enter Try.func33, Try.ntmps33
  refine wp_seq (wp_region_list ?_)
  refine wpList_plain rfl fun K hK => hK _ _ ?_
  show Code.wp _ _ _ _ _
  refine wp_seq (wp_region_list ?_)
  refine wpList_run known_to w 75 _ _ 75 77 (.slice (some ⟨w.heap.size + atomsAt rowsO, 0, none⟩) rowsO.length rowsO.length) (layRows w.heap.size rowsO) (by kernel_rfl) ?_
  intro a' hs hN hd
  refine tail_call (g := 41) (s := 75) (d := 76) (T := #[54]) (by kernel_rfl) hs (by rw [hN]; decide) (enters_of Try.func41 (by kernel_rfl) rfl) (filled_any _ _ _ _ _ (rows_grid w rowsO) (by decide)) (fun e w' h => ⟨_, h.1⟩) ?_
  intro a2 v' w' hR h0 hd2
  refine wp_ret ?_
  refine bodyPost_ret (v := v') ?_ (hd2.trans hd) (rows_end w rowsO (by decide) rfl hR)
  rw [← h0]
  exact results_tmp rfl _ _ _

end Go.Proofs.Ytgbhfhdhmkmpcaa.Atoms

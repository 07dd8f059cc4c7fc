/-
  Contract of tree.Nest.
-/
import Derived.Test.YteakgagjacjhiaaUM
namespace Go.Proofs.Yteakgagjacjhiaa.Trees
open Go.RowKit Go.Shelf
open Go.Proofs.Yteakgagjacjhiaa.Style (bs bs_size bs_at getD_at bs_of)
open Go.Proofs.Yteakgagjacjhiaa.Toks (cell_lt cell_same Grid SliceAt Spare Above wpList_app)
set_option linter.unusedVariables false
set_option linter.unusedSimpArgs false

/-- The stack is as high as there are trees. -/
theorem shapes_length (ok : Int → Int → Bool) : ∀ (L : List Stp) (k m : Nat) (S : List (Int × Nat)), S.length = k → cntZ ok L k = some m → (shapesZ L S).length = m
  | [], k, m, S, h, e => by injection e with e; rw [← e, ← h]; rfl
  | x :: r, k, m, S, h, e => by
    simp only [cntZ] at e
    split at e
    · rename_i hc
      simp only [shapesZ]
      refine shapes_length ok r _ m _ ?_ e
      have h1 := push_shapes x S.reverse (by rw [List.length_reverse]; omega)
      rw [List.reverse_reverse] at h1
      simp only [shapesZ] at h1
      rw [h1, List.length_reverse, push_length _ _ (by rw [List.length_reverse]; omega), List.length_reverse, h]
    · cases e
/-- The stack behind so many steps, as it lies. -/
def stkZ (L : List Stp) (i : Nat) : List (Int × Nat) := (shapesZ (L.take i) []).reverse
theorem stk_next {L : List Stp} {i : Nat} (hi : i < L.length) (h : takesZ (L.getD i default).op ≤ (stkZ L i).length) : stkZ L (i + 1) = pushZ (L.getD i default).op (stkZ L i) := by
  have hx : L.getD i default = L[i] := by rw [List.getD_eq_getElem?_getD, List.getElem?_eq_getElem hi]; rfl
  rw [hx] at h ⊢
  unfold stkZ at h ⊢
  rw [List.take_succ_eq_append_getElem hi, shapes_app]
  have := push_shapes L[i] (shapesZ (L.take i) []).reverse h
  rw [List.reverse_reverse] at this
  rw [this, List.reverse_reverse]

end Go.Proofs.Yteakgagjacjhiaa.Trees

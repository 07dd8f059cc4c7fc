/-
  What the laws of layer 9 hold while they go.
-/
import Derived.Test.YteakgagjacjhiaaUX
import Derived.Test.YteakgagjacjhiaaUOX
namespace Go.Proofs.Yteakgagjacjhiaa.Trees
open Go.RowKit Go.Shelf
open Go.Proofs.Yteakgagjacjhiaa.Style (bs bs_size bs_at getD_at bs_of)
open Go.Proofs.Yteakgagjacjhiaa.Toks (cell_lt cell_same SliceAt Above wpList_app)
set_option linter.unusedVariables false
set_option linter.unusedSimpArgs false

theorem fits {a b : List Stp} (ha : ∀ x ∈ a, x.text.length ≤ 10) (hb : ∀ x ∈ b, x.text.length ≤ 10) : ∀ x ∈ a ++ b, x.text.length ≤ 10 := fun x hx => by
  rcases List.mem_append.1 hx with h | h
  · exact ha x h
  · exact hb x h
theorem far {a : List Stp} (ha : ∀ x ∈ a, x.text.length ≤ 10) : ∀ x ∈ a, x.text.length ≤ 9223372036854775807 := fun x hx => by have := ha x hx; omega

/-- A step's box, two rows that are read. -/
structure GrI (w : World) (xb : Nat) (x : Stp) (s1 s2 : Value) (L1 L2 : List Stp) (W : World) : Prop where
  st : StAt W xb x
  v1 : View W s1 L1
  v2 : View W s2 L2
  below : Below w.heap.size w W
theorem GrI.go {w W W' : World} {xb : Nat} {x : Stp} {s1 s2 : Value} {L1 L2 : List Stp} (h : GrI w xb x s1 s2 L1 L2 W) (hb : Below W.heap.size W W') : GrI w xb x s1 s2 L1 L2 W' :=
  ⟨h.st.go hb, h.v1.go hb, h.v2.go hb, h.below.trans (hb.mono h.below.size)⟩
theorem GrI.drew {w W : World} {xb : Nat} {x : Stp} {s1 s2 : Value} {L1 L2 : List Stp} (h : GrI w xb x s1 s2 L1 L2 W) : GrI w xb x s1 s2 L1 L2 W.drew := h.go (Below.refl _ _).drew

end Go.Proofs.Yteakgagjacjhiaa.Trees

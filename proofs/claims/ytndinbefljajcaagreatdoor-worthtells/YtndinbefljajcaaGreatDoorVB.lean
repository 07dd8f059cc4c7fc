/-
  What the laws on worths share: a row of specs in memory, worths that specs are taken for.
-/
import Derived.Test.YtndinbefljajcaaGreatDoorVZ
import Derived.Test.YtndinbefljajcaaGreatDoorVA
import Derived.Test.YtndinbefljajcaaGreatDoorSA
namespace Go.Proofs.YtndinbefljajcaaGreatDoor.Worth
open Go.RowKit Go.Shelf
open Go.Proofs.YtndinbefljajcaaGreatDoor.Frac (Got OfTen Room specG)
open Go.Proofs.YtndinbefljajcaaGreatDoor.Dims (D7 dZero dOf Lies7 get_of)
set_option linter.unusedVariables false
set_option linter.unusedSimpArgs false

/-- In the world v the block b holds these cells. -/
def LiesC (v : World) (b : Nat) (cs : Array Value) : Prop := (∀ j, j < cs.size → v.cell? ⟨b, j, none⟩ = cs[j]?) ∧ (∀ j, v.frozen? ⟨b, j, none⟩ = false) ∧ b < v.heap.size
theorem LiesC.block {v v' : World} {b : Nat} {cs : Array Value} (h : LiesC v b cs) (hs : v.heap.size ≤ v'.heap.size) (hb : v'.heap[b]? = v.heap[b]?) : LiesC v' b cs :=
  ⟨fun j hj => (World.cell?_of_block (a := ⟨b, j, none⟩) hb).trans (h.1 j hj), fun j => (Dims.frozen_of_block (a := ⟨b, j, none⟩) hb).trans (h.2.1 j), by have := h.2.2; omega⟩
theorem LiesC.go {v v' : World} {b : Nat} {cs : Array Value} (h : LiesC v b cs) (hb : Below v.heap.size v v') : LiesC v' b cs := h.block hb.size (hb.block b h.2.2)
theorem LiesC.other {v : World} {b : Nat} {cs : Array Value} (h : LiesC v b cs) (b' i : Nat) (u : Value) (hn : b' ≠ b) : LiesC (v.setCell ⟨b', i, none⟩ u) b cs :=
  h.block (by rw [World.size_setCell]; exact Nat.le_refl _) (Below.heap_setCell v ⟨b', i, none⟩ u b (fun e => hn e.symm))
theorem LiesC.set {v : World} {b : Nat} {cs : Array Value} (h : LiesC v b cs) (i : Nat) (hi : i < cs.size) (u : Value) : LiesC (v.setCell ⟨b, i, none⟩ u) b (cs.setIfInBounds i u) := by
  have hc : v.cell? ⟨b, i, none⟩ = some cs[i] := (h.1 i hi).trans (Array.getElem?_eq_getElem hi)
  refine ⟨fun j hj => ?_, fun j => ?_, ?_⟩
  · rw [Array.size_setIfInBounds] at hj
    by_cases e : i = j
    · subst e
      rw [World.cell?_setCell_same _ _ _ hc, Array.getElem?_setIfInBounds_self_of_lt hi]
    · rw [World.cell?_setCell_other _ _ _ _ (by intro hh; injection hh with e1 e2; exact e e2), h.1 j hj, Array.getElem?_setIfInBounds_ne e]
  · rw [World.frozen?_setCell]; exact h.2.1 j
  · rw [World.size_setCell]; exact h.2.2
theorem LiesC.new (v : World) (cs : Array Value) (t : TypeId) : LiesC (v.alloc (.cells cs t)) v.heap.size cs := by
  refine ⟨fun j hj => ?_, fun j => ?_, ?_⟩
  · simp [go_sem]
  all_goals simp [go_sem]

theorem tagOf_in (g : Int) : 0 ≤ tagOf g ∧ tagOf g ≤ 3 := by
  unfold tagOf
  split <;> omega
theorem rest10 (x : Int) : -9 ≤ x.tmod 10 ∧ x.tmod 10 ≤ 9 := by
  have := Frac.tmod_in x 10 (by omega)
  omega
theorem spec_dims (s : Wo) (i : Nat) (hi : i < 7) : -9 ≤ (specW s).D.get i ∧ (specW s).D.get i ≤ 9 := by
  simp only [specW]
  rw [get_of _ i hi]
  exact rest10 _
theorem spec_frac (s : Wo) (hf : s.Fine) : Frac.rightB (specW s).n (specW s).d (specW s).t = true := (Frac.spec_right s.n s.d s.t hf.n hf.d).1
theorem spec_dright (s : Wo) : Dims.Right (specW s).D := fun i hi => by have := spec_dims s i hi; omega
theorem spec_right (s : Wo) (hf : s.Fine) : rightW (specW s) = true := by
  have := tagOf_in s.g
  exact (rightW_iff _).2 ⟨spec_frac s hf, spec_dright s, this.1, by show tagOf s.g ≤ 99; omega⟩
theorem spec_fine (s : Wo) (hf : s.Fine) : (specW s).Fine := by
  have hs := Frac.spec_small s.n s.d s.t hf.n hf.d
  have := tagOf_in s.g
  exact ⟨hs.1, hs.2, (spec_dright s).fine, by show _ ≤ tagOf s.g; omega, by show tagOf s.g ≤ _; omega⟩
/-- One without a tag. -/
def Wo.plain (s : Wo) : Wo := ⟨s.n, s.d, s.t, s.D, 0⟩
theorem plain_fine {s : Wo} (h : s.Fine) : s.plain.Fine := ⟨h.n, h.d, h.D, by show _ ≤ (0 : Int); omega, by show (0 : Int) ≤ _; omega⟩
theorem spec_plain (s : Wo) : (specW s.plain).g = 0 := by simp [specW, Wo.plain, tagOf]

end Go.Proofs.YtndinbefljajcaaGreatDoor.Worth

/-
  Contract of tree.Parts.
-/
import Derived.Test.YthofogokpolhdaaGreatDoorUEX
import Derived.Test.YthofogokpolhdaaGreatDoorUJX
namespace Go.Proofs.YthofogokpolhdaaGreatDoor.Trees
open Go.RowKit Go.Shelf
open Go.Proofs.YthofogokpolhdaaGreatDoor.Style (bs bs_size bs_at getD_at bs_of)
open Go.Proofs.YthofogokpolhdaaGreatDoor.Toks (cell_lt cell_same SliceAt Above)
set_option linter.unusedVariables false
set_option linter.unusedSimpArgs false

theorem sound_pos {ok : Int → Int → Bool} {L : List Stp} (h : soundZ ok L = true) : 1 ≤ L.length ∧ L.length ≤ 255 := by
  obtain ⟨t, _, rfl, hl⟩ := sound_tree h
  exact ⟨flat_pos t, hl⟩
theorem sound_two {ok : Int → Int → Bool} {L : List Stp} (h : soundZ ok L = true) (h2 : takesZ (L.getD (L.length - 1) default).op = 2) : cutZ (L.take (L.length - 1)) < L.length - 1 := by
  obtain ⟨t, hg, rfl, hl⟩ := sound_tree h
  have hlast : t.flat.getD (t.flat.length - 1) default = t.top := by
    rw [← flat_last t, List.getLastD_eq_getLast?, List.getLast?_eq_getElem?, List.getD_eq_getElem?_getD]
  rw [hlast] at h2
  cases t with
  | leaf x => have := hg.2; simp only [Tr.top] at h2; omega
  | one x a => have := hg.1.2; simp only [Tr.top] at h2; omega
  | two x a b =>
    have e : (Tr.two x a b).flat.take ((Tr.two x a b).flat.length - 1) = a.flat ++ b.flat := by
      simp only [Tr.flat]
      rw [List.length_append, List.length_cons, List.length_nil, Nat.add_sub_cancel, List.take_left']
      rfl
    rw [e, cut_two a.flat hg.2.2]
    have := flat_pos b
    simp only [Tr.flat, List.length_append, List.length_cons, List.length_nil]
    omega
theorem last_getD (L : List Stp) : L.getLastD default = L.getD (L.length - 1) default := by
  rw [List.getLastD_eq_getLast?, List.getLast?_eq_getElem?, List.getD_eq_getElem?_getD]

theorem StepsAt.go {w w' : World} {s : Value} {L : List Stp} (h : StepsAt w s L) (hb : Below w.heap.size w w') : StepsAt w' s L := SliceAt.go h hb
theorem slice_rest (b off n c k : Nat) (hk : k < n) (hc : n ≤ c) (W : World) : (Instr.slice 34 (.slice (some ⟨b, off, none⟩) n c) (some (.int .i64 (k : Int))) none none).run Tryz.prog W = .ok (.slice (some ⟨b, off + k * 6, none⟩) (n - k) (c - k)) W := by
  have hs : (sizeOf (Tryz.prog.elem 34)).run Tryz.prog W = .ok 6 W := by kernel_rfl
  rw [run_slice_l (P := Tryz.prog) (w := W) 34 (some ⟨b, off, none⟩) n c (by kernel_rfl) .i64 (k : Int) (by omega) (by omega), hs]
  show Result.ok (sliced _ _ _ _ _) W = _
  unfold sliced
  rw [if_neg (by omega)]
  simp [Addr.add_mid]
/-- While Parts goes. -/
structure PaI (w W : World) (b off n c : Nat) (L : List Stp) (xo : Int) : Prop where
  view : View W (.slice (some ⟨b, off, none⟩) n c) (L.take n)
  below : Below w.heap.size w W
  u0 : W.cell? ⟨b, off + n * 6, none⟩ = some (.int .i64 xo)
theorem PaI.go {w W W' : World} {b off n c : Nat} {L : List Stp} {xo : Int} (h : PaI w W b off n c L xo) (hb : Below W.heap.size W W') : PaI w W' b off n c L xo :=
  ⟨h.view.go hb, h.below.trans (hb.mono h.below.size), (hb.cell (p := ⟨b, off + n * 6, none⟩) (cell_lt h.u0)).trans h.u0⟩
theorem PaI.drew {w W : World} {b off n c : Nat} {L : List Stp} {xo : Int} (h : PaI w W b off n c L xo) : PaI w W.drew b off n c L xo := h.go (Below.refl _ _).drew

end Go.Proofs.YthofogokpolhdaaGreatDoor.Trees

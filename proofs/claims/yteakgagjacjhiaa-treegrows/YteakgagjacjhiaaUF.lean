/-
  Steps in memory, as they are read: any part of a slice.
-/
import Derived.Test.YteakgagjacjhiaaUD
namespace Go.Proofs.Yteakgagjacjhiaa.Trees
open Go.RowKit Go.Shelf
open Go.Proofs.Yteakgagjacjhiaa.Style (bs bs_size bs_at getD_at bs_of)
open Go.Proofs.Yteakgagjacjhiaa.Toks (cell_lt cell_same)
set_option linter.unusedVariables false
set_option linter.unusedSimpArgs false

/-- The value s is a slice that reads as these steps. -/
def View (w : World) (s : Value) (L : List Stp) : Prop :=
  ∃ o c, s = .slice o L.length c ∧ L.length ≤ c ∧ ∀ i, i < L.length → ∃ b off, o = some ⟨b, off, none⟩ ∧
    w.cell? ⟨b, off + i * 6, none⟩ = some (.int .i64 (L.getD i default).op) ∧ w.cell? ⟨b, off + i * 6 + 1, none⟩ = some (.int .i64 (L.getD i default).pf)
    ∧ w.cell? ⟨b, off + i * 6 + 2, none⟩ = some (.int .i64 (L.getD i default).atom) ∧ w.cell? ⟨b, off + i * 6 + 3, none⟩ = some (.int .i64 (L.getD i default).n)
    ∧ w.cell? ⟨b, off + i * 6 + 4, none⟩ = some (.int .i64 (L.getD i default).num) ∧ w.cell? ⟨b, off + i * 6 + 5, none⟩ = some (.string (bs (L.getD i default).text))
theorem View.go {w w' : World} {s : Value} {L : List Stp} (h : View w s L) (hb : Below w.heap.size w w') : View w' s L := by
  obtain ⟨o, c, e, hc, h⟩ := h
  refine ⟨o, c, e, hc, fun i hi => ?_⟩
  obtain ⟨b, off, eo, c0, c1, c2, c3, c4, c5⟩ := h i hi
  exact ⟨b, off, eo, (hb.cell (p := ⟨b, _, none⟩) (cell_lt c0)).trans c0, (hb.cell (p := ⟨b, _, none⟩) (cell_lt c0)).trans c1, (hb.cell (p := ⟨b, _, none⟩) (cell_lt c0)).trans c2, (hb.cell (p := ⟨b, _, none⟩) (cell_lt c0)).trans c3, (hb.cell (p := ⟨b, _, none⟩) (cell_lt c0)).trans c4, (hb.cell (p := ⟨b, _, none⟩) (cell_lt c0)).trans c5⟩
theorem View.drew {w : World} {s : Value} {L : List Stp} (h : View w s L) : View w.drew s L := h.go (Below.refl _ _).drew
theorem View.nil (w : World) (o : Option Addr) (c : Nat) : View w (.slice o 0 c) [] := ⟨o, c, rfl, Nat.zero_le _, fun i hi => absurd hi (by simp)⟩
theorem View.slice {w : World} {s : Value} {L : List Stp} (h : View w s L) : ∃ o c, s = .slice o L.length c ∧ L.length ≤ c := by
  obtain ⟨o, c, e, hc, _⟩ := h; exact ⟨o, c, e, hc⟩
/-- The first ones. -/
theorem View.take {w : World} {o : Option Addr} {c n : Nat} {L : List Stp} (h : View w (.slice o L.length c) L) (hn : n ≤ L.length) : View w (.slice o n c) (L.take n) := by
  obtain ⟨o', c', e, hc, h⟩ := h
  injection e with e1 e2 e3
  subst e1 e3
  have hl : (L.take n).length = n := by rw [List.length_take]; omega
  refine ⟨o, c, by rw [hl], by omega, fun i hi => ?_⟩
  rw [hl] at hi
  rw [show (L.take n).getD i default = L.getD i default by rw [List.getD_eq_getElem?_getD, List.getD_eq_getElem?_getD, List.getElem?_take_of_lt hi]]
  exact h i (by omega)
/-- What stands behind the first ones. -/
theorem View.rest {w : World} {b off c n : Nat} {L : List Stp} (h : View w (.slice (some ⟨b, off, none⟩) L.length c) L) (hn : n ≤ L.length) : View w (.slice (some ⟨b, off + n * 6, none⟩) (L.length - n) (c - n)) (L.drop n) := by
  obtain ⟨o', c', e, hc, h⟩ := h
  injection e with e1 e2 e3
  subst e1 e3
  have hl : (L.drop n).length = L.length - n := List.length_drop
  refine ⟨_, _, by rw [hl], by omega, fun i hi => ?_⟩
  rw [hl] at hi
  rw [show (L.drop n).getD i default = L.getD (n + i) default by rw [List.getD_eq_getElem?_getD, List.getD_eq_getElem?_getD, List.getElem?_drop]]
  obtain ⟨b', off', eo, h⟩ := h (n + i) (by omega)
  injection eo with eo
  injection eo with e1 e2
  subst e1 e2
  rw [show off + (n + i) * 6 = off + n * 6 + i * 6 by omega] at h
  exact ⟨b, _, rfl, h⟩

end Go.Proofs.Yteakgagjacjhiaa.Trees

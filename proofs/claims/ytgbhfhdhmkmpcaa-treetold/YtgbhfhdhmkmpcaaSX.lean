/-
  Contract of the law's spoilt: some steps, whatever is spoilt.
-/
import Derived.Test.YtgbhfhdhmkmpcaaUY
import Derived.StillTailTactics
namespace Go.Proofs.Ytgbhfhdhmkmpcaa.Trees
open Go.RowKit Go.Shelf
open Go.Proofs.Ytgbhfhdhmkmpcaa.Style (bs bs_size bs_at getD_at bs_of)
open Go.Proofs.Ytgbhfhdhmkmpcaa.Toks (cell_lt cell_same SliceAt Above Grid Spare wpList_app)
set_option linter.unusedVariables false
set_option linter.unusedSimpArgs false

/-- All texts are ones that a machine can hold. -/
def TextsOk (L : List Stp) : Prop := ∀ x ∈ L, x.text.length ≤ 9223372036854775807
/-- How spoilt ends. -/
def SpoEnd (n : Nat) (w : World) (e : Ending) (w' : World) : Prop :=
  ∃ (M : List Stp) (s : Value), e = .returned s ∧ StepsAt w' s M ∧ TextsOk M ∧ M.length ≤ n + 1 ∧ Below w.heap.size w w'
/-- A row of one's own in the block b, with room for c. -/
structure OwnB (w W : World) (b c : Nat) (L : List Stp) : Prop where
  grid : Grid W b 6 L.length (cellS L)
  spare : Spare W b (c * 6)
  cap : L.length ≤ c
  new : w.heap.size ≤ b
  below : Below w.heap.size w W
theorem OwnB.at_ {w W : World} {b c : Nat} {L : List Stp} (h : OwnB w W b c L) : StepsAt W (.slice (some ⟨b, 0, none⟩) L.length c) L := .inr ⟨b, c, rfl, h.cap, h.spare, h.grid⟩
theorem OwnB.of {w W : World} {o : Option Addr} {c : Nat} {L : List Stp} (h : StepsAt W (.slice o L.length c) L) (h1 : 1 ≤ L.length) (hA : Above w.heap.size (.slice o L.length c)) (hB : Below w.heap.size w W) : ∃ b, o = some ⟨b, 0, none⟩ ∧ OwnB w W b c L := by
  rcases h with ⟨h0, _⟩ | ⟨b, c', e, hc, hm, hg⟩
  · omega
  · injection e with e1 _ e3
    subst e1 e3
    exact ⟨b, rfl, hg, hm, hc, hA _ _ _ rfl, hB⟩
theorem OwnB.go {w W W' : World} {b c : Nat} {L : List Stp} (h : OwnB w W b c L) (hb : Below W.heap.size W W') : OwnB w W' b c L :=
  ⟨h.grid.go hb, h.spare.block (hb.block b h.grid.2.2), h.cap, h.new, h.below.trans (hb.mono h.below.size)⟩
theorem set_getD (L : List Stp) (i k : Nat) (y : Stp) (hk : k < L.length) : (L.set i y).getD k default = if k = i then y else L.getD k default := by
  rw [List.getD_eq_getElem?_getD, List.getElem?_set, List.getD_eq_getElem?_getD]
  by_cases e : i = k
  · subst e; simp [hk]
  · rw [if_neg e, if_neg (fun h => e h.symm)]
/-- One cell turns: one step is another one. -/
theorem OwnB.put {w W : World} {b c : Nat} {L : List Stp} (h : OwnB w W b c L) (i j : Nat) (hi : i < L.length) (hj : j < 6) (u : Value) (y : Stp) (hy : ∀ j', j' < 6 → y.cs[j']?.getD undef = if j' = j then u else (L.getD i default).cs[j']?.getD undef) :
    OwnB w (W.setCell ⟨b, i * 6 + j, none⟩ u) b c (L.set i y) := by
  have hl : (L.set i y).length = L.length := List.length_set
  refine ⟨?_, h.spare.set _ _ _, by rw [hl]; exact h.cap, h.new, h.below.setCell (p := ⟨b, i * 6 + j, none⟩) h.new u⟩
  rw [hl]
  refine (h.grid.set i j hi hj u).ext (fun i' hi' j' hj' => ?_)
  unfold Toks.upd cellS
  rw [set_getD L i i' y hi']
  by_cases e : i' = i
  · subst e
    rw [if_pos rfl, hy j' hj']
    by_cases e2 : j' = j
    · rw [if_pos ⟨rfl, e2⟩, if_pos e2]
    · rw [if_neg (fun h => e2 h.2), if_neg e2]
  · rw [if_neg (fun h => e h.1), if_neg e]
theorem texts_set {L : List Stp} (h : TextsOk L) (i : Nat) (y : Stp) (hy : y.text.length ≤ 9223372036854775807) : TextsOk (L.set i y) := by
  intro x hx
  rcases List.mem_or_eq_of_mem_set hx with h1 | h1
  · exact h x h1
  · subst h1; exact hy
theorem texts_at {L : List Stp} (h : TextsOk L) {i : Nat} (hi : i < L.length) : (L.getD i default).text.length ≤ 9223372036854775807 := by
  refine h _ ?_
  rw [List.getD_eq_getElem?_getD, List.getElem?_eq_getElem hi]
  exact List.getElem_mem _
theorem OwnB.fin {n : Nat} {w W : World} {b c : Nat} {L : List Stp} (h : OwnB w W b c L) (ht : TextsOk L) (hn : L.length ≤ n + 1) : SpoEnd n w (.returned (.slice (some ⟨b, 0, none⟩) L.length c)) W := ⟨L, _, rfl, h.at_, ht, hn, h.below⟩
/-- All six cells of a step turn. -/
def putA (W : World) (b o : Nat) (x : Stp) : World := (((((W.setCell ⟨b, o, none⟩ (.int .i64 x.op)).setCell ⟨b, o + 1, none⟩ (.int .i64 x.pf)).setCell ⟨b, o + 2, none⟩ (.int .i64 x.atom)).setCell ⟨b, o + 3, none⟩ (.int .i64 x.n)).setCell ⟨b, o + 4, none⟩ (.int .i64 x.num)).setCell ⟨b, o + 5, none⟩ (.string (bs x.text))
theorem OwnB.putA {w W : World} {b c : Nat} {L : List Stp} (h : OwnB w W b c L) (i : Nat) (hi : i < L.length) (x : Stp) : OwnB w (Trees.putA W b (i * 6) x) b c (L.set i x) := by
  obtain ⟨y, hy⟩ : ∃ y, L.getD i default = y := ⟨_, rfl⟩
  have hg0 : L.getD i default = y := hy
  have e0 := h.put i 0 hi (by omega) (.int .i64 x.op) { y with op := x.op } (fun j hj => by rw [hg0]; match j, hj with | 0, _ => rfl | 1, _ => rfl | 2, _ => rfl | 3, _ => rfl | 4, _ => rfl | 5, _ => rfl)
  have g0 := set_getD L i i { y with op := x.op } hi
  rw [if_pos rfl] at g0
  have e1 := e0.put i 1 (by rw [List.length_set]; exact hi) (by omega) (.int .i64 x.pf) { y with op := x.op, pf := x.pf } (fun j hj => by rw [g0]; match j, hj with | 0, _ => rfl | 1, _ => rfl | 2, _ => rfl | 3, _ => rfl | 4, _ => rfl | 5, _ => rfl)
  rw [List.set_set] at e1
  have g1 := set_getD L i i { y with op := x.op, pf := x.pf } hi
  rw [if_pos rfl] at g1
  have e2 := e1.put i 2 (by rw [List.length_set]; exact hi) (by omega) (.int .i64 x.atom) { y with op := x.op, pf := x.pf, atom := x.atom } (fun j hj => by rw [g1]; match j, hj with | 0, _ => rfl | 1, _ => rfl | 2, _ => rfl | 3, _ => rfl | 4, _ => rfl | 5, _ => rfl)
  rw [List.set_set] at e2
  have g2 := set_getD L i i { y with op := x.op, pf := x.pf, atom := x.atom } hi
  rw [if_pos rfl] at g2
  have e3 := e2.put i 3 (by rw [List.length_set]; exact hi) (by omega) (.int .i64 x.n) { y with op := x.op, pf := x.pf, atom := x.atom, n := x.n } (fun j hj => by rw [g2]; match j, hj with | 0, _ => rfl | 1, _ => rfl | 2, _ => rfl | 3, _ => rfl | 4, _ => rfl | 5, _ => rfl)
  rw [List.set_set] at e3
  have g3 := set_getD L i i { y with op := x.op, pf := x.pf, atom := x.atom, n := x.n } hi
  rw [if_pos rfl] at g3
  have e4 := e3.put i 4 (by rw [List.length_set]; exact hi) (by omega) (.int .i64 x.num) { y with op := x.op, pf := x.pf, atom := x.atom, n := x.n, num := x.num } (fun j hj => by rw [g3]; match j, hj with | 0, _ => rfl | 1, _ => rfl | 2, _ => rfl | 3, _ => rfl | 4, _ => rfl | 5, _ => rfl)
  rw [List.set_set] at e4
  have g4 := set_getD L i i { y with op := x.op, pf := x.pf, atom := x.atom, n := x.n, num := x.num } hi
  rw [if_pos rfl] at g4
  have e5 := e4.put i 5 (by rw [List.length_set]; exact hi) (by omega) (.string (bs x.text)) x (fun j hj => by rw [g4]; match j, hj with | 0, _ => rfl | 1, _ => rfl | 2, _ => rfl | 3, _ => rfl | 4, _ => rfl | 5, _ => rfl)
  rw [List.set_set] at e5
  exact e5

end Go.Proofs.Ytgbhfhdhmkmpcaa.Trees

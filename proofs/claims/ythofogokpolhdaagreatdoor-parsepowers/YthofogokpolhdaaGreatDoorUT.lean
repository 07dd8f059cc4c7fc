/-
  What leaves all blocks but one; appends to rows of steps; numbers taken one by one.
-/
import Derived.Test.YthofogokpolhdaaGreatDoorURX
import Derived.Test.YthofogokpolhdaaGreatDoorUOX
namespace Go.Proofs.YthofogokpolhdaaGreatDoor.Trees
open Go.RowKit Go.Shelf
open Go.Proofs.YthofogokpolhdaaGreatDoor.Style (bs bs_size bs_at getD_at bs_of)
open Go.Proofs.YthofogokpolhdaaGreatDoor.Toks (cell_lt cell_same SliceAt Above Grid Spare append_any Elem flat flat_length wpList_app)
set_option linter.unusedVariables false
set_option linter.unusedSimpArgs false

/-- All that was there stands as it was, but the block rb. -/
structure But (rb : Nat) (w w' : World) : Prop where
  os : w'.os = w.os
  tape : w'.tape = w.tape
  output : w'.output = w.output
  size : w.heap.size ≤ w'.heap.size
  block : ∀ k, k < w.heap.size → k ≠ rb → w'.heap[k]? = w.heap[k]?
theorem But.refl (rb : Nat) (w : World) : But rb w w := ⟨rfl, rfl, rfl, Nat.le_refl _, fun _ _ _ => rfl⟩
theorem But.of {rb : Nat} {w w' : World} (h : Below w.heap.size w w') : But rb w w' := ⟨h.os, h.tape, h.output, h.size, fun k hk _ => h.block k hk⟩
theorem But.only {rb : Nat} {w w' : World} (h : Toks.Only rb w w') : But rb w w' := ⟨h.os, h.tape, h.output, Nat.le_of_eq h.size.symm, fun k _ hk => h.block k hk⟩
theorem But.trans {rb : Nat} {a b c : World} (h : But rb a b) (g : But rb b c) : But rb a c :=
  ⟨g.os.trans h.os, g.tape.trans h.tape, g.output.trans h.output, Nat.le_trans h.size g.size, fun k hk hn => (g.block k (Nat.lt_of_lt_of_le hk h.size) hn).trans (h.block k hk hn)⟩
theorem But.below {rb B : Nat} {w w' : World} (h : But rb w w') (hB : B ≤ rb) (hw : B ≤ w.heap.size) : Below B w w' := ⟨h.os, h.tape, h.output, h.size, fun k hk => h.block k (by omega) (by omega)⟩
/-- What was made since is like Below, joined. -/
theorem But.join {rb B : Nat} {a b c : World} (h : But rb a b) (g : Below B b c) (hB : a.heap.size ≤ B) : But rb a c :=
  ⟨g.os.trans h.os, g.tape.trans h.tape, g.output.trans h.output, Nat.le_trans h.size g.size, fun k hk hn => (g.block k (by omega)).trans (h.block k hk hn)⟩
theorem But.cell {rb : Nat} {w w' : World} {b i : Nat} {u : Value} (h : But rb w w') (hc : w.cell? ⟨b, i, none⟩ = some u) (hn : b ≠ rb) : w'.cell? ⟨b, i, none⟩ = some u := cell_same hc (h.block b (cell_lt hc) hn)
theorem SliceAt.but {rb k n : Nat} {w w' : World} {s : Value} {f : Nat → Nat → Value} (h : SliceAt w s k n f) (hb : But rb w w') (ha : Above (rb + 1) s) : SliceAt w' s k n f := by
  rcases h with h | ⟨b, c, hs, hc, hm, hg⟩
  · exact .inl h
  · have hab : rb + 1 ≤ b := ha _ _ _ hs
    exact .inr ⟨b, c, hs, hc, hm.block (hb.block b hg.2.2 (by omega)), hg.block hb.size (hb.block b hg.2.2 (by omega))⟩
theorem StepsAt.but {rb : Nat} {w w' : World} {s : Value} {L : List Stp} (h : StepsAt w s L) (hb : But rb w w') (ha : Above (rb + 1) s) : StepsAt w' s L := SliceAt.but h hb ha

/-- An append of steps to a row of one's own. -/
theorem app_steps {B : Nat} {w : World} {s s2 : Value} {L M : List Stp} (h : StepsAt w s L) (hA : Above B s) (hB : B ≤ w.heap.size) (hV : View w s2 M) (hl : L.length + M.length ≤ 2000) (h0 : 0 < L.length + M.length ∨ ∃ a n c, s = .slice (some a) n c) :
    ∃ V s', (∀ ty, (Builtin.append_ #[34, 34] ty #[s, s2]).run Tryz.prog w = .ok s' V) ∧ StepsAt V s' (L ++ M) ∧ Above B s' ∧ Below B w V ∧ (∃ o c, s' = .slice o (L.length + M.length) c ∧ L.length + M.length ≤ c ∧ o ≠ none) ∧ (∀ D, D < w.heap.size → (∀ a n c, s = .slice (some a) n c → a.block ≠ D) → V.heap[D]? = w.heap[D]?) := by
  obtain ⟨o1, c1, rfl⟩ := SliceAt.slice h
  have h0' : 0 < L.length + M.length ∨ o1 ≠ none := by
    rcases h0 with h0 | ⟨a, n, c, e⟩
    · exact .inl h0
    · injection e with e; exact .inr (by rw [e]; simp)
  obtain ⟨V, s', hr, hj⟩ := append_any elem_step h (cell_oneS L) hV.source hl h0'
  have hR : StepsAt V s' (L ++ M) := by
    show SliceAt V s' 6 (L ++ M).length _
    rw [List.length_append]
    refine SliceAt.ext hj.rows (fun i hi j hj => ?_)
    unfold Toks.both cellS
    by_cases hi2 : i < L.length
    · rw [if_pos hi2, List.getD_eq_getElem?_getD (l := L ++ M), List.getElem?_append_left hi2, ← List.getD_eq_getElem?_getD]
    · rw [if_neg hi2, List.getD_eq_getElem?_getD (l := L ++ M), List.getElem?_append_right (by omega), ← List.getD_eq_getElem?_getD]
  refine ⟨V, s', hr, hR, ?_, ?_, ?_, ?_⟩
  · rcases hj.way with ⟨c', rfl, hb⟩ | ⟨b, c', e1, rfl, rfl⟩
    · intro a n c e
      injection e with e
      injection e with e
      subst e
      exact hB
    · have := hA _ _ _ e1
      intro a n c e
      injection e with e
      injection e with e
      subst e
      exact this
  · rcases hj.way with ⟨c', rfl, hb⟩ | ⟨b, c', e1, rfl, rfl⟩
    · exact hb.mono hB
    · have hab := hA _ _ _ e1
      exact (Toks.only_cells b _ _ _ _ (Toks.Only.refl _ _)).below hab
  · rcases hj.rows with ⟨hn, e⟩ | ⟨b, c, e, hc, _⟩
    · rcases hj.way with ⟨c', rfl, hb⟩ | ⟨b, c', e1, rfl, rfl⟩
      · cases e
      · cases e
    · exact ⟨_, c, e, hc, by simp⟩
  · intro D hD hn
    rcases hj.way with ⟨c', rfl, hb⟩ | ⟨b, c', e1, rfl, rfl⟩
    · exact hb.block D hD
    · exact (Toks.only_cells b _ _ _ _ (Toks.Only.refl b _)).block D (fun e => hn _ _ _ e1 e.symm)

/-- Numbers that are taken one by one. -/
def RowX (W : World) (rb : Nat) : Prop := ∃ l k, RowAt W rb l k ∧ k ≤ l.length ∧ l.length ≤ 1000 ∧ ∀ i, i < l.length → -9223372036854775808 ≤ l.getD i 0 ∧ l.getD i 0 ≤ 9223372036854775807
theorem RowX.go {W W' : World} {rb : Nat} (h : RowX W rb) (hb : Below W.heap.size W W') : RowX W' rb := by
  obtain ⟨l, k, hR, hk⟩ := h
  exact ⟨l, k, hR.go hb, hk⟩
theorem RowX.lt {W : World} {rb : Nat} (h : RowX W rb) : rb < W.heap.size := by
  obtain ⟨l, k, hR, hk⟩ := h
  exact cell_lt hR.at_
theorem RowX.other {W : World} {rb : Nat} (h : RowX W rb) (b j : Nat) (u : Value) (hn : rb < b) : RowX (W.setCell ⟨b, j, none⟩ u) rb := by
  obtain ⟨l, k, hR, hk⟩ := h
  exact ⟨l, k, hR.other b j u hn, hk⟩
theorem next_x (rb n : Nat) (w : World) (h : RowX w rb) (hn : 1 ≤ n) (hn2 : n ≤ 1000000) :
    Calls Tryz.prog 63 #[.pointer (some ⟨rb, 0, none⟩), .int .i64 (n : Int)] w fun e w' => ∃ m : Nat, e = .returned (.int .i64 (m : Int)) ∧ m < n ∧ RowX w' rb ∧ Toks.Only rb w w' := by
  obtain ⟨l, k, hR, hk, hl, hI⟩ := h
  refine (next_any rb l k n w hR hk hl hn hn2 hI).mono ?_
  rintro e w' ⟨rfl, hR', hO⟩
  refine ⟨_, rfl, ?_, ⟨l, _, hR', ?_, hl, hI⟩, hO⟩
  · unfold nextN
    split
    · exact restN_lt _ _ hn
    · omega
  · unfold nextK
    split <;> omega
theorem text_x (rb : Nat) (w : World) (h : RowX w rb) :
    Calls Tryz.prog 65 #[.pointer (some ⟨rb, 0, none⟩)] w fun e w' => ∃ t : List UInt8, e = .returned (.string (bs t)) ∧ fineT t = true ∧ t.length ≤ 10 ∧ RowX w' rb ∧ But rb w w' := by
  obtain ⟨l, k, hR, hk, hl, hI⟩ := h
  refine (text_any rb l k w hR hk hl hI).mono ?_
  rintro e w' ⟨rfl, hR', w1, hb, hO⟩
  have h5 : nextN l k 5 < 5 := by unfold nextN; split; exact restN_lt _ _ (by omega); omega
  refine ⟨_, rfl, ?_, ?_, ⟨l, _, hR', ?_, hl, hI⟩, (But.of hb).trans (But.only hO)⟩
  · generalize nextN l k 5 = m at *
    match m, h5 with
    | 0, _ => decide
    | 1, _ => decide
    | 2, _ => decide
    | 3, _ => decide
    | 4, _ => decide
  · generalize nextN l k 5 = m at *
    match m, h5 with
    | 0, _ => decide
    | 1, _ => decide
    | 2, _ => decide
    | 3, _ => decide
    | 4, _ => decide
  · unfold nextK
    split <;> omega

end Go.Proofs.YthofogokpolhdaaGreatDoor.Trees

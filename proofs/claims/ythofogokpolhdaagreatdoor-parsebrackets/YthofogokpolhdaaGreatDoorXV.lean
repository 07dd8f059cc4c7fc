/-
  Contracts of the document's Each, Lex.
-/
import Derived.Test.YthofogokpolhdaaGreatDoorXU
namespace Go.Proofs.YthofogokpolhdaaGreatDoor.Toks
open Go.RowKit Go.Shelf
open Go.Proofs.YthofogokpolhdaaGreatDoor.Style
set_option linter.unusedVariables false
set_option linter.unusedSimpArgs false

/-- One more token: only the row's own block turns. -/
theorem toks_more {B : Nat} {o : Option Addr} {c : Nat} {L : List Tok} {W : World} (h : ToksAt W (.slice o L.length c) L) (ha : Above B (.slice o L.length c)) (hB : B ≤ W.heap.size) (hl : L.length ≤ 1000) (q : Tok) :
    ∃ V o' c', (∀ ty, (Builtin.append_ #[58, 58] ty #[.slice o L.length c, .slice (some ⟨W.heap.size, 0, none⟩) 1 1]).run Tryz.prog (W.alloc (.cells #[.int .i64 q.kind, .int .i64 (q.pos : Int), .string (bs q.text), .int .i64 q.num] 71)) = .ok (.slice o' (L.length + 1) c') V) ∧ ToksAt V (.slice o' (L.length + 1) c') (L ++ [q]) ∧ Above B (.slice o' (L.length + 1) c') ∧ Below B W V ∧ W.heap.size < V.heap.size ∧ (∀ D, D < W.heap.size → (∀ a n c', Value.slice o L.length c = .slice (some a) n c' → a.block ≠ D) → V.heap[D]? = W.heap[D]?) := by
  have hu : Below W.heap.size W (W.alloc (.cells q.cs 71)) := (Below.refl _ _).alloc (Nat.le_refl _) _
  have hzz : (W.alloc (.cells q.cs 71)).heap.size = W.heap.size + 1 := World.size_alloc _ _
  have hcs : ∀ j, j < 4 → q.cs[j]? = some (cellK [q] 0 j) := by
    intro j hj
    match j, hj with
    | 0, _ => rfl
    | 1, _ => rfl
    | 2, _ => rfl
    | 3, _ => rfl
  obtain ⟨V, s, hr, hj⟩ := append_any (w := W.alloc (.cells q.cs 71)) elem_tok (SliceAt.go h hu) (cell_one L) (SliceAt.source elem_tok (one_slice W 71 4 q.cs (cellK [q]) hcs rfl) (cell_one [q])) (by omega) (.inl (by omega))
  have hat : ToksAt V s (L ++ [q]) := by
    show SliceAt V s 4 (L ++ [q]).length _
    rw [List.length_append]
    exact SliceAt.ext hj.rows (tok_cat L q)
  rcases hj.way with ⟨c', rfl, hb⟩ | ⟨b, c', e1, rfl, rfl⟩
  · refine ⟨V, _, _, hr, hat, ?_, hu.mono hB |>.trans (hb.mono (by omega)), by have := hb.size; omega, fun D hD _ => (hb.block D (by omega)).trans (hu.block D hD)⟩
    intro a n c e
    injection e with e
    injection e with e
    subst e
    show B ≤ (W.alloc (.cells q.cs 71)).heap.size
    omega
  · have hab := ha _ _ _ e1
    have hO := only_cells b (flat 4 1 (cellK [q])) (L.length * 4) (W.alloc (.cells q.cs 71)) _ (Only.refl b _)
    refine ⟨_, _, _, hr, hat, ?_, (hu.mono hB).trans (hO.below hab), by rw [size_cells, hzz]; omega, fun D hD hne => (hO.block D (fun e => hne _ _ _ e1 e.symm)).trans (hu.block D hD)⟩
    intro a n c e
    injection e with e
    injection e with e
    subst e
    exact hab

/-- The boxes of Each. -/
structure AI (w W : World) (o : Option Addr) (c : Nat) (L : List Tok) (p : Nat) : Prop where
  r0 : W.cell? ⟨w.heap.size, 0, none⟩ = some (.slice none 0 0)
  r1 : W.cell? ⟨w.heap.size, 1, none⟩ = some (.int .i64 0)
  rf : ∀ j, W.frozen? ⟨w.heap.size, j, none⟩ = false
  a0 : W.cell? ⟨w.heap.size + 1, 0, none⟩ = some (.slice o L.length c)
  a1 : W.cell? ⟨w.heap.size + 1, 1, none⟩ = some (.int .i64 (p : Int))
  af : ∀ j, W.frozen? ⟨w.heap.size + 1, j, none⟩ = false
  at_ : ToksAt W (.slice o L.length c) L
  above : Above (w.heap.size + 2) (.slice o L.length c)
  below : Below w.heap.size w W
theorem AI.size {w W : World} {o : Option Addr} {c : Nat} {L : List Tok} {p : Nat} (h : AI w W o c L p) : w.heap.size + 2 ≤ W.heap.size := by have := cell_lt h.a0; omega
theorem AI.go {w W W' : World} {o : Option Addr} {c : Nat} {L : List Tok} {p : Nat} (h : AI w W o c L p) (hb : Below W.heap.size W W') : AI w W' o c L p :=
  ⟨(hb.cell (p := ⟨w.heap.size, 0, none⟩) (cell_lt h.r0)).trans h.r0, (hb.cell (p := ⟨w.heap.size, 1, none⟩) (cell_lt h.r0)).trans h.r1, fun j => (hb.frozen (p := ⟨w.heap.size, j, none⟩) (cell_lt h.r0)).trans (h.rf j),
   (hb.cell (p := ⟨w.heap.size + 1, 0, none⟩) (cell_lt h.a0)).trans h.a0, (hb.cell (p := ⟨w.heap.size + 1, 1, none⟩) (cell_lt h.a0)).trans h.a1, fun j => (hb.frozen (p := ⟨w.heap.size + 1, j, none⟩) (cell_lt h.a0)).trans (h.af j), h.at_.go hb, h.above, h.below.trans (hb.mono h.below.size)⟩
theorem AI.drew {w W : World} {o : Option Addr} {c : Nat} {L : List Tok} {p : Nat} (h : AI w W o c L p) : AI w W.drew o c L p := h.go (Below.refl _ _).drew
theorem AI.new (w : World) : AI w ((w.alloc (.cells #[.slice none 0 0, .int .i64 0] 60)).alloc (.cells #[.slice none 0 0, .int .i64 0] 60)) none 0 [] 0 :=
  ⟨by simp [go_sem], by simp [go_sem], fun j => by simp [go_sem], by simp [go_sem], by simp [go_sem], fun j => by simp [go_sem], .inl ⟨rfl, rfl⟩, fun a n c e => (by cases e), by go_grown⟩

/-- Cells of small blocks do not touch the row. -/
theorem toks_far {W : World} {o : Option Addr} {m c : Nat} {L : List Tok} {B : Nat} (h : ToksAt W (.slice o m c) L) (ha : Above B (.slice o m c)) (b i : Nat) (u : Value) (hb : b < B) : ToksAt (W.setCell ⟨b, i, none⟩ u) (.slice o m c) L := by
  rcases h with h0 | ⟨b', c', hs, hc, hm, hg⟩
  · exact .inl h0
  · have hbb : B ≤ b' := ha _ _ _ hs
    exact .inr ⟨b', c', hs, hc, hm.set _ _ _, hg.other b i u (by omega)⟩
/-- What is handed back: the box of the result, filled. -/
theorem AI.done {w W : World} {o : Option Addr} {c : Nat} {L : List Tok} {p : Nat} (h : AI w W o c L p) :
    (((W.setCell ⟨w.heap.size, 0, none⟩ (.slice o L.length c)).setCell ⟨w.heap.size, 1, none⟩ (.int .i64 (p : Int))).cell? ⟨w.heap.size, 0, none⟩ = some (.slice o L.length c)
    ∧ ((W.setCell ⟨w.heap.size, 0, none⟩ (.slice o L.length c)).setCell ⟨w.heap.size, 1, none⟩ (.int .i64 (p : Int))).cell? ⟨w.heap.size, 1, none⟩ = some (.int .i64 (p : Int)))
    ∧ ToksAt ((W.setCell ⟨w.heap.size, 0, none⟩ (.slice o L.length c)).setCell ⟨w.heap.size, 1, none⟩ (.int .i64 (p : Int))) (.slice o L.length c) L
    ∧ Below w.heap.size w ((W.setCell ⟨w.heap.size, 0, none⟩ (.slice o L.length c)).setCell ⟨w.heap.size, 1, none⟩ (.int .i64 (p : Int))) := by
  have r0 := h.r0
  have r1 := h.r1
  refine ⟨⟨by simp [go_sem, r0, r1], by simp [go_sem, r0, r1]⟩, toks_far (toks_far h.at_ h.above _ _ _ (by omega)) h.above _ _ _ (by omega), (h.below.setCell (p := ⟨w.heap.size, 0, none⟩) (Nat.le_refl _) _).setCell (p := ⟨w.heap.size, 1, none⟩) (Nat.le_refl _) _⟩

/-- The box of what Next told. -/
structure GB (W : World) (b : Nat) (k p v l : Int) (t : List UInt8) : Prop where
  c0 : W.cell? ⟨b, 0, none⟩ = some (.int .i64 k)
  c1 : W.cell? ⟨b, 1, none⟩ = some (.int .i64 p)
  c2 : W.cell? ⟨b, 2, none⟩ = some (.string (bs t))
  c3 : W.cell? ⟨b, 3, none⟩ = some (.int .i64 v)
  c4 : W.cell? ⟨b, 4, none⟩ = some (.int .i64 l)
theorem GB.new (W : World) (k p v l : Int) (t : List UInt8) : GB (W.alloc (.cells #[.int .i64 k, .int .i64 p, .string (bs t), .int .i64 v, .int .i64 l] 82)) W.heap.size k p v l t :=
  ⟨by simp [go_sem], by simp [go_sem], by simp [go_sem], by simp [go_sem], by simp [go_sem]⟩
theorem GB.same {W W' : World} {b : Nat} {k p v l : Int} {t : List UInt8} (h : GB W b k p v l t) (e : W'.heap[b]? = W.heap[b]?) : GB W' b k p v l t :=
  ⟨cell_same h.c0 e, cell_same h.c1 e, cell_same h.c2 e, cell_same h.c3 e, cell_same h.c4 e⟩
/-- The row's block lies below. -/
theorem toks_under {W : World} {o : Option Addr} {m c : Nat} {L : List Tok} (h : ToksAt W (.slice o m c) L) : ∀ a n c', Value.slice o m c = .slice (some a) n c' → a.block < W.heap.size := by
  intro a n c' e
  rcases h with ⟨_, h0⟩ | ⟨b', c2, hs, hc, hm, hg⟩
  · rw [h0] at e; cases e
  · rw [hs] at e
    injection e with e1
    injection e1 with e1
    rw [← e1]; exact hg.2.2
/-- One more, and how far it goes. -/
theorem AI.more {w W : World} {o : Option Addr} {c : Nat} {L : List Tok} {p : Nat} (h : AI w W o c L p) (hl : L.length ≤ 1000) (k v : Int) (t : List UInt8) (l : Nat) :
    ∃ V o' c', (∀ ty, (Builtin.append_ #[58, 58] ty #[.slice o L.length c, .slice (some ⟨W.heap.size + 1, 0, none⟩) 1 1]).run Tryz.prog ((W.alloc (.cells #[.int .i64 k, .int .i64 (p : Int), .string (bs t), .int .i64 v, .int .i64 (l : Int)] 82)).alloc (.cells #[.int .i64 k, .int .i64 (p : Int), .string (bs t), .int .i64 v] 71)) = .ok (.slice o' (L.length + 1) c') V)
      ∧ V.cell? ⟨w.heap.size + 1, 0, none⟩ = some (.slice o L.length c) ∧ V.cell? ⟨w.heap.size + 1, 1, none⟩ = some (.int .i64 (p : Int)) ∧ (∀ j, V.frozen? ⟨w.heap.size + 1, j, none⟩ = false) ∧ V.cell? ⟨W.heap.size, 4, none⟩ = some (.int .i64 (l : Int)) ∧ w.heap.size + 1 ≠ W.heap.size
      ∧ AI w ((V.setCell ⟨w.heap.size + 1, 0, none⟩ (.slice o' (L.length + 1) c')).setCell ⟨w.heap.size + 1, 1, none⟩ (.int .i64 ((p + l : Nat) : Int))) o' c' (L ++ [⟨k, p, t, v⟩]) (p + l) := by
  have hz := h.size
  have hu : Below W.heap.size W (W.alloc (.cells #[.int .i64 k, .int .i64 (p : Int), .string (bs t), .int .i64 v, .int .i64 (l : Int)] 82)) := (Below.refl _ _).alloc (Nat.le_refl _) _
  have hg := GB.new W k (p : Int) v (l : Int) t
  have hsz : (W.alloc (.cells #[.int .i64 k, .int .i64 (p : Int), .string (bs t), .int .i64 v, .int .i64 (l : Int)] 82)).heap.size = W.heap.size + 1 := World.size_alloc _ _
  have h3 := h.go hu
  have hun := toks_under h.at_
  generalize W.alloc (.cells #[.int .i64 k, .int .i64 (p : Int), .string (bs t), .int .i64 v, .int .i64 (l : Int)] 82) = W3 at *
  obtain ⟨V, o', c', hr, hT, hA, hB, hs, hk⟩ := toks_more (B := w.heap.size + 2) h3.at_ h3.above (by omega) hl ⟨k, p, t, v⟩
  rw [hsz] at hr
  have e4 := hg.same (hk W.heap.size (by omega) (fun a n c' e => by have := hun a n c' e; omega))
  have x0 := (hB.cell (p := ⟨w.heap.size, 0, none⟩) (show w.heap.size < w.heap.size + 2 by omega)).trans h3.r0
  have x1 := (hB.cell (p := ⟨w.heap.size, 1, none⟩) (show w.heap.size < w.heap.size + 2 by omega)).trans h3.r1
  have xf := fun j => (hB.frozen (p := ⟨w.heap.size, j, none⟩) (show w.heap.size < w.heap.size + 2 by omega)).trans (h3.rf j)
  have y0 := (hB.cell (p := ⟨w.heap.size + 1, 0, none⟩) (show w.heap.size + 1 < w.heap.size + 2 by omega)).trans h3.a0
  have y1 := (hB.cell (p := ⟨w.heap.size + 1, 1, none⟩) (show w.heap.size + 1 < w.heap.size + 2 by omega)).trans h3.a1
  have yf := fun j => (hB.frozen (p := ⟨w.heap.size + 1, j, none⟩) (show w.heap.size + 1 < w.heap.size + 2 by omega)).trans (h3.af j)
  refine ⟨V, o', c', hr, y0, y1, yf, e4.c4, by omega, ?_, ?_, ?_, ?_, ?_, ?_, ?_, ?_, ?_⟩
  · simp [go_sem, x0]
  · simp [go_sem, x1]
  · intro j; rw [World.frozen?_setCell, World.frozen?_setCell]; exact xf j
  · rw [List.length_append]; simp [go_sem, y0, y1]
  · simp [go_sem, y0, y1]
  · intro j; rw [World.frozen?_setCell, World.frozen?_setCell]; exact yf j
  · rw [List.length_append]
    have := toks_far (toks_far hT hA (w.heap.size + 1) 0 (.slice o' (L.length + 1) c') (by omega)) hA (w.heap.size + 1) 1 (.int .i64 ((p + l : Nat) : Int)) (by omega)
    exact this
  · rw [List.length_append]; exact hA
  · exact ((h3.below.trans (hB.mono (by omega))).setCell (p := ⟨w.heap.size + 1, 0, none⟩) (by show w.heap.size ≤ w.heap.size + 1; omega) _).setCell (p := ⟨w.heap.size + 1, 1, none⟩) (by show w.heap.size ≤ w.heap.size + 1; omega) _

end Go.Proofs.YthofogokpolhdaaGreatDoor.Toks

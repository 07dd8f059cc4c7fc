/-
  TreeTold: what is told of steps, and texts, as plain functions; what the law holds while it goes. TreeTold.
-/
import Derived.Test.YtgbhfhdhmkmpcaaID
import Derived.Test.YtgbhfhdhmkmpcaaSY
import Derived.Test.YtgbhfhdhmkmpcaaIQ
import Derived.Deep.RegionHeld3
import Derived.Sort.CutIn
import Derived.Sort.QuietIn
import Derived.StillTailTactics
namespace Go.Proofs.Ytgbhfhdhmkmpcaa.Trees
open Go.RowKit Go.Shelf Go.Proofs.Ytgbhfhdhmkmpcaa.Ranges
open Go.Proofs.Ytgbhfhdhmkmpcaa.Style (bs bs_size bs_at getD_at bs_of)
open Go.Proofs.Ytgbhfhdhmkmpcaa.Toks (cell_lt cell_same SliceAt Above Grid Spare wpList_app Elem elem_of append_any both)
attribute [local go_sem] Oper.semAt_some
set_option linter.unusedVariables false
set_option linter.unusedSimpArgs false

theorem those_head (ops : List Int) (L : List Stp) : ∀ (n a : Nat), L.length - a = n → a ≤ L.length → ∀ (i : Nat) (x : Stp) (post : List (Nat × Stp)), thoseL ops a (L.drop a) = (i, x) :: post →
    a ≤ i ∧ i < L.length ∧ L.getD i default = x ∧ ops.contains x.op = true ∧ (∀ k, a ≤ k → k < i → ops.contains (L.getD k default).op = false) ∧ thoseL ops (i + 1) (L.drop (i + 1)) = post := by
  intro n
  induction n with
  | zero =>
    intro a hn ha i x post h
    have : a = L.length := by omega
    subst this
    rw [those_end] at h
    cases h
  | succ n ih =>
    intro a hn ha i x post h
    have hl : a < L.length := by omega
    cases hc : ops.contains (L.getD a default).op with
    | true =>
      rw [those_yes hl hc] at h
      injection h with h1 h2
      injection h1 with h1 h3
      subst h1 h3
      exact ⟨Nat.le_refl _, hl, rfl, hc, fun k h1 h2 => by omega, h2⟩
    | false =>
      rw [those_no hl hc] at h
      obtain ⟨h1, h2, h3, h4, h5, h6⟩ := ih (a + 1) (by omega) (by omega) i x post h
      refine ⟨by omega, h2, h3, h4, fun k hk1 hk2 => ?_, h6⟩
      by_cases e : k = a
      · subst e; exact hc
      · exact h5 k (by omega) hk2
theorem those_none (ops : List Int) (L : List Stp) : ∀ (n a : Nat), L.length - a = n → a ≤ L.length → thoseL ops a (L.drop a) = [] → ∀ k, a ≤ k → k < L.length → ops.contains (L.getD k default).op = false := by
  intro n
  induction n with
  | zero => intro a hn ha h k h1 h2; omega
  | succ n ih =>
    intro a hn ha h k h1 h2
    have hl : a < L.length := by omega
    cases hc : ops.contains (L.getD a default).op with
    | true => rw [those_yes hl hc] at h; cases h
    | false =>
      rw [those_no hl hc] at h
      by_cases e : k = a
      · subst e; exact hc
      · exact ih (a + 1) (by omega) (by omega) h k (by omega) h2
/-- The texts of notes. -/
def textsL (L : List Stp) : List (List UInt8) := (L.filter fun x => [6, 7].contains x.op).map Stp.text
theorem those_texts (ops : List Int) : ∀ (L : List Stp) (i : Nat), (thoseL ops i L).map (fun x => x.2.text) = (L.filter fun x => ops.contains x.op).map Stp.text
  | [], _ => rfl
  | x :: r, i => by
    unfold thoseL
    rw [List.filter_cons]
    cases ops.contains x.op with
    | true => rw [if_pos rfl, if_pos rfl, List.map_cons, List.map_cons, those_texts ops r]
    | false => rw [if_neg (by simp), if_neg (by simp), those_texts ops r]
theorem notes_take {L : List Stp} {i : Nat} (hi : i < L.length) : textsL (L.take (i + 1)) = textsL (L.take i) ++ if [6, 7].contains (L.getD i default).op = true then [(L.getD i default).text] else [] := by
  have h : L.getD i default = L[i] := by rw [List.getD_eq_getElem?_getD, List.getElem?_eq_getElem hi]; rfl
  rw [List.take_succ_eq_append_getElem hi, h]
  unfold textsL
  rw [List.filter_append, List.map_append, List.filter_cons]
  split <;> simp
theorem texts_len (L : List Stp) : (textsL L).length ≤ L.length := by unfold textsL; rw [List.length_map]; exact List.length_filter_le _ _
/-- What notes tell next. -/
theorem notes_at {L : List Stp} {pre : List (Nat × Stp)} {x : Nat × Stp} {V : World} (h : GuardQ [6, 7] L pre x V) : pre.length < (textsL L).length ∧ (textsL L).getD pre.length [] = x.2.text := by
  obtain ⟨post, h⟩ := h
  have h1 := those_texts [6, 7] L 0
  rw [h, List.map_append, List.map_cons] at h1
  have h2 : textsL L = pre.map (fun x => x.2.text) ++ x.2.text :: post.map (fun x => x.2.text) := h1.symm
  rw [h2]
  refine ⟨by simp, ?_⟩
  rw [List.getD_eq_getElem?_getD, List.getElem?_append_right (by simp)]
  simp
theorem texts_all (L : List Stp) : (thoseL [6, 7] 0 L).length = (textsL L).length := by
  have h1 := congrArg List.length (those_texts [6, 7] L 0)
  rw [List.length_map] at h1
  exact h1

/-! ### Rows of texts -/

def cellX (l : List (List UInt8)) (i j : Nat) : Value := .string (bs (l.getD i []))
/-- A row of texts, in its box, behind V. -/
structure TxI (V : World) (o : Option Addr) (c : Nat) (l : List (List UInt8)) (W : World) : Prop where
  below : Below V.heap.size V W
  x : W.cell? ⟨V.heap.size, 0, none⟩ = some (.slice o l.length c)
  f : W.frozen? ⟨V.heap.size, 0, none⟩ = false
  at_ : SliceAt W (.slice o l.length c) 1 l.length (cellX l)
  above : Above (V.heap.size + 1) (.slice o l.length c)
theorem TxI.lt {V : World} {o : Option Addr} {c : Nat} {l : List (List UInt8)} {W : World} (h : TxI V o c l W) : V.heap.size < W.heap.size := cell_lt h.x
theorem TxI.go {V : World} {o : Option Addr} {c : Nat} {l : List (List UInt8)} {W W' : World} (h : TxI V o c l W) (hb : Below W.heap.size W W') : TxI V o c l W' :=
  ⟨h.below.trans (hb.mono h.below.size), (hb.cell (p := ⟨V.heap.size, 0, none⟩) h.lt).trans h.x, (hb.frozen (p := ⟨V.heap.size, 0, none⟩) h.lt).trans h.f, h.at_.go hb, h.above⟩
theorem TxI.new (V : World) (t : TypeId) : TxI V none 0 [] (V.alloc (.cells #[.slice none 0 0] t)) :=
  ⟨(Below.refl _ _).alloc (Nat.le_refl _) _, by simp [go_sem], by simp [go_sem], .inl ⟨rfl, rfl⟩, fun a n c e => (by cases e)⟩
theorem elem_text : Elem 37 9 1 := elem_of (b := 16) (by omega) (by omega) (by kernel_rfl) (by kernel_rfl)
theorem TxI.more {V : World} {o : Option Addr} {c : Nat} {l : List (List UInt8)} {W : World} (h : TxI V o c l W) (hl : l.length ≤ 1000) (t : List UInt8) :
    ∃ X o' c', (∀ ty, (Builtin.append_ #[37, 37] ty #[.slice o l.length c, .slice (some ⟨W.heap.size, 0, none⟩) 1 1]).run Try.prog (W.alloc (.cells #[.string (bs t)] 9)) = .ok (.slice o' (l.length + 1) c') X)
      ∧ X.cell? ⟨V.heap.size, 0, none⟩ = some (.slice o l.length c) ∧ X.frozen? ⟨V.heap.size, 0, none⟩ = false ∧ Below V.heap.size V X ∧ TxI V o' c' (l ++ [t]) (X.setCell ⟨V.heap.size, 0, none⟩ (.slice o' (l.length + 1) c')) := by
  have hu : Below W.heap.size W (W.alloc (.cells #[.string (bs t)] 9)) := (Below.refl _ _).alloc (Nat.le_refl _) _
  have hz : (W.alloc (.cells #[.string (bs t)] 9)).heap.size = W.heap.size + 1 := World.size_alloc _ _
  have h2 := h.go hu
  have hlt := h.lt
  have hone : SliceAt (W.alloc (.cells #[.string (bs t)] 9)) (.slice (some ⟨W.heap.size, 0, none⟩) 1 1) 1 1 (cellX [t]) :=
    Toks.one_slice W 9 1 #[.string (bs t)] (cellX [t]) (fun j hj => by
      have : j = 0 := by omega
      subst this
      rfl) rfl
  obtain ⟨X, s', hr, hj⟩ := append_any elem_text h2.at_ (fun i hi j hj => rfl) (SliceAt.source elem_text hone (fun i hi j hj => rfl)) (by omega) (.inl (by omega))
  obtain ⟨o', c', rfl⟩ := SliceAt.slice hj.rows
  have hrows : SliceAt X (.slice o' (l ++ [t]).length c') 1 (l ++ [t]).length (cellX (l ++ [t])) := by
    rw [List.length_append]
    refine SliceAt.ext hj.rows (fun i hi j hj => ?_)
    unfold both cellX
    by_cases hi2 : i < l.length
    · rw [if_pos hi2, List.getD_eq_getElem?_getD (l := l ++ [t]), List.getElem?_append_left hi2, ← List.getD_eq_getElem?_getD]
    · rw [if_neg hi2, List.getD_eq_getElem?_getD (l := l ++ [t]), List.getElem?_append_right (by omega), ← List.getD_eq_getElem?_getD]
  have hw : Below V.heap.size V X ∧ Above (V.heap.size + 1) (.slice o' (l.length + 1) c') ∧ X.heap[V.heap.size]? = (W.alloc (.cells #[.string (bs t)] 9)).heap[V.heap.size]? := by
    rcases hj.way with ⟨c'', e, hb⟩ | ⟨b, c'', e1, e2, e3⟩
    · injection e with e4 e5 e6
      subst e4
      refine ⟨h2.below.trans (hb.mono h2.below.size), fun a n c e => ?_, hb.block _ (by omega)⟩
      injection e with e
      injection e with e
      subst e
      show V.heap.size + 1 ≤ (W.alloc (.cells #[.string (bs t)] 9)).heap.size
      omega
    · injection e2 with e4 e5 e6
      subst e4 e3
      have hab : V.heap.size + 1 ≤ b := h2.above _ _ _ e1
      have ho := Toks.only_cells b (Toks.flat 1 1 (cellX [t])) (l.length * 1) _ _ (Toks.Only.refl b (W.alloc (.cells #[.string (bs t)] 9)))
      refine ⟨h2.below.trans (ho.below (by omega)), fun a n c e => ?_, ho.block _ (by omega)⟩
      injection e with e
      injection e with e
      subst e
      exact hab
  obtain ⟨hw1, hw2, hw3⟩ := hw
  have x2 := cell_same h2.x hw3
  have f2 := (Toks.frozen_of_block hw3 0).trans h2.f
  refine ⟨X, o', c', hr, x2, f2, hw1, ?_⟩
  have hlen : (l ++ [t]).length = l.length + 1 := by simp
  refine ⟨hw1.setCell (p := ⟨V.heap.size, 0, none⟩) (Nat.le_refl _) _, by rw [hlen]; exact World.cell?_setCell_same _ _ _ x2, by rw [World.frozen?_setCell]; exact f2, ?_, by rw [hlen]; exact hw2⟩
  rcases hrows with ⟨h0, _⟩ | ⟨b, c, e, hc, hm, hg⟩
  · rw [hlen] at h0; omega
  · have hab : V.heap.size + 1 ≤ b := by
      injection e with e1 e2 e3
      exact hw2 ⟨b, 0, none⟩ (l.length + 1) c' (by rw [e1])
    exact .inr ⟨b, c, e, hc, hm.set _ _ _, hg.other _ _ _ (by omega)⟩

/-- A range whose rounds begin by what is put into their frame, and into blocks of their own. -/
theorem range_put {F : Fence} {n : Nat} {P : Program} {α : Type} {g : Operand} {ps : Array Tmp} {assign body : Code} {Q : Exit → Act → World → Prop} {a : Act} {w : World}
    (hro : F.round = none) (h1 : 1 ≤ n) {gf : Nat} {lb : Array Value} (hg : a.eval g = .func (.func gf) #[] lb) (hFg : F.fn gf) (eg : ∀ args w, (callFunc gf args).run P w = .ok (.enter gf args) w)
    {encs : α → Array Value} {G : List α → α → World → Prop} {hi : Nat} {S Sp : List α → Prop} (hseq : SeqL F (n - 1) P gf lb encs G (Kq hi) S Sp w) (hps : ∀ x, (encs x).size = ps.size) (hhi : hi ≤ w.heap.size)
    (hGs : ∀ pre x, Stays (G pre x)) (hG : ∀ pre x, Bears w.heap.size (G pre x))
    (I : List α → World → Prop) (Ix : Code → List α → World → Prop) (hI : ∀ pre, Stays (I pre)) (hIb : ∀ pre, Bears w.heap.size (I pre)) (hX : ∀ c pre, Stays (Ix c pre)) (hXb : ∀ c pre, Bears w.heap.size (Ix c pre)) (h0 : I [] w)
    (set : α → World → Array Value → Array Value) (R : α → World → World → Prop) (hR : ∀ x W, Bears w.heap.size (R x W))
    (hassign : ∀ (l : Nat) (pre : List α) (x : α) (W : World) (K : Act → World → Prop), I pre W → G pre x W → (∀ V, Below W.heap.size W V → R x W V → K { tmps := set x W ((ps.zip (encs x)).foldl (fun t (p, v) => t.setIfInBounds p v) a.tmps), defers := [] } V) →
      assign.wpIn (F.inRound l) (n - 1 - 1) P (Exit.then K (fun _ _ _ => False)) { tmps := (ps.zip (encs x)).foldl (fun t (p, v) => t.setIfInBounds p v) a.tmps, defers := [] } W)
    (hbody : ∀ (l : Nat) (pre : List α) (x : α) (W0 W : World), w.heap.size ≤ W0.heap.size → I pre W → G pre x W → R x W0 W → body.wpIn (F.inRound l) (n - 1 - 1) P (LeftL w.heap.size (Kq hi (w.heap.size + 1)) I Ix (pre ++ [x]) W) { tmps := set x W0 ((ps.zip (encs x)).foldl (fun t (p, v) => t.setIfInBounds p v) a.tmps), defers := [] } W)
    (hdone : ∀ (xs : List α) (W : World), S xs → I xs W → W.heap[w.heap.size]? = some (.deferred (some [])) → Q .normal { a with defers := { target := .collected w.heap.size, args := #[] } :: a.defers } W)
    (hstop : ∀ (c : Code) (pre : List α) (W : World), Sp pre → Ix c pre W → W.heap[w.heap.size]? = some (.deferred (some [])) → c.wpIn F n P Q { a with defers := { target := .collected w.heap.size, args := #[] } :: a.defers } W) :
    (Code.rangeFunc g ps assign body).wpIn F n P Q a w :=
  range_own hro h1 hg hFg eg hseq hps (fun h k => h.trans k) (fun W o o' ho hc => Kq.put W o' (by omega)) (fun W W' hs hb => Kq.of hb (by omega)) hGs hG I Ix hI hIb hX hXb h0
    (fun x W0 => { tmps := set x W0 ((ps.zip (encs x)).foldl (fun t (p, v) => t.setIfInBounds p v) a.tmps), defers := [] }) R hR hassign hbody hdone hstop
theorem StAt.put {W : World} {b : Nat} {x : Stp} (h : StAt W b x) {l : Nat} {o o' : Obj} (ho : W.heap[l]? = some o) (hc : o.isCells = false) : StAt (W.putObj l o') b x := by
  obtain ⟨y0, y1, y2, y3, y4, y5⟩ := h
  exact ⟨cell_same y0 (cell_put y0 ho hc).2, cell_same y1 (cell_put y1 ho hc).2, cell_same y2 (cell_put y2 ho hc).2, cell_same y3 (cell_put y3 ho hc).2, cell_same y4 (cell_put y4 ho hc).2, cell_same y5 (cell_put y5 ho hc).2⟩
/-- What a box of a number holds. -/
def boxInt (b : Nat) (W : World) : Int := intOf ((W.cell? ⟨b, 0, none⟩).getD undef)
theorem CtI.int {V : World} {k : Int} {W : World} (h : CtI V k W) : boxInt V.heap.size W = k := by unfold boxInt; rw [h.x]; rfl

theorem drewN_below {W : World} (m : Nat) : Below W.heap.size W (W.drewN m) := ⟨rfl, rfl, rfl, Nat.le_refl _, fun _ _ => rfl⟩
theorem keeps_of {B : Nat} {W W' : World} (h : Below W.heap.size W W') : KeepsFrom B W W' := ⟨h.size, fun k o _ hk _ => (h.block k (Array.getElem?_eq_some_iff.1 hk).1).trans hk⟩
theorem StAt.set {W : World} {b : Nat} {x : Stp} (h : StAt W b x) {b' : Nat} (hn : b ≠ b') (u : Value) : StAt (W.setCell ⟨b', 0, none⟩ u) b x := by
  obtain ⟨y0, y1, y2, y3, y4, y5⟩ := h
  have key : ∀ (j : Nat) (v : Value), W.cell? ⟨b, j, none⟩ = some v → (W.setCell ⟨b', 0, none⟩ u).cell? ⟨b, j, none⟩ = some v := fun j v hv => by
    rw [World.cell?_setCell_other _ _ _ _ (by intro hh; injection hh with e1 e2; omega)]; exact hv
  exact ⟨key _ _ y0, key _ _ y1, key _ _ y2, key _ _ y3, key _ _ y4, key _ _ y5⟩
theorem step_app1 {P : Program} {ops : Array Oper} {o : Oper} {a : Act} {w : World} {K : Act → World → Prop} {Q : Exit → Act → World → Prop} {E : Prop}
    (hw : Region.wanted o (yielded ops a.tmps) = true) (s x : Operand) (t tx : TypeId) (ho : o.op = .call { callee := .builtin .append, args := #[s, x], argTypes := #[t, tx] }) {v : Value} {V : World}
    (hr : ∀ ty, (Builtin.append_ #[t, tx] ty #[a.eval s, a.eval x]).run P w = .ok v V) (hK : K (a.put o.dst v) V) :
    if Region.wanted o (yielded ops a.tmps) = true then Oper.wp P o a w K Q else E := by
  rw [if_pos hw]
  unfold Oper.wp execOp
  simp only [ho, resolve, invoke, builtin, Sem.run_bind, Sem.run_pure, Result.andThen_ok, List.map_toArray, List.map_cons, List.map_nil, hr]
  exact hK
/-- Within a round: the place's box, the step's box, what the round has kept; B: the loop's beginning. -/
structure R1I (V : World) (hi B : Nat) (W0 : World) (b : Nat) (x : Stp) (j : Int) (W : World) : Prop where
  c : CtI V j W
  s : StAt W b x
  k : Kq hi (B + 1) W0 W
  f : KeepsFrom B W0 W
theorem R1I.set {V : World} {hi B : Nat} {W0 : World} {b : Nat} {x : Stp} {j : Int} {W : World} (h : R1I V hi B W0 b x j W) (hh : hi ≤ V.heap.size) (hB : V.heap.size < B) (hb : b ≠ V.heap.size) (j' : Int) : R1I V hi B W0 b x j' (W.setCell ⟨V.heap.size, 0, none⟩ (.int .i64 j')) :=
  ⟨h.c.set j', h.s.set hb _, h.k.trans (Kq.set _ _ hh (by omega)), h.f.trans (keeps_box _ _ _ _ hB)⟩
theorem R1I.go {V : World} {hi B : Nat} {W0 : World} {b : Nat} {x : Stp} {j : Int} {W W' : World} (h : R1I V hi B W0 b x j W) (hh : hi ≤ V.heap.size) (hb : Below W.heap.size W W') : R1I V hi B W0 b x j W' :=
  ⟨h.c.go hb, h.s.go hb, h.k.trans (Kq.of hb (by have := h.c.lt; omega)), h.f.trans (keeps_of hb)⟩

end Go.Proofs.Ytgbhfhdhmkmpcaa.Trees

namespace Go.Proofs.Ytgbhfhdhmkmpcaa.Trees
open Go.RowKit Go.Shelf Go.Proofs.Ytgbhfhdhmkmpcaa.Ranges
open Go.Proofs.Ytgbhfhdhmkmpcaa.Style (bs bs_size bs_at getD_at bs_of)
open Go.Proofs.Ytgbhfhdhmkmpcaa.Toks (cell_lt cell_same SliceAt Above Grid Spare)
attribute [local go_sem] Oper.semAt_some
set_option linter.unusedVariables false
set_option linter.unusedSimpArgs false
attribute [local irreducible] symT mayZ

/-- Ahead of the steps: how they are spoilt, the result's box, the numbers. -/
structure TqI (w : World) (qb : Nat) (sa : Value) (la : List Int) (h0 a0 n0 : Int) (x0 : List UInt8) (W : World) : Prop where
  q : W.cell? ⟨qb, 0, none⟩ = some (.int .i64 h0) ∧ W.cell? ⟨qb, 1, none⟩ = some (.int .i64 a0) ∧ W.cell? ⟨qb, 2, none⟩ = some (.int .i64 n0) ∧ W.cell? ⟨qb, 3, none⟩ = some (.string (bs x0))
  r : W.cell? ⟨w.heap.size + 1, 0, none⟩ = some (.bool false)
  rf : W.frozen? ⟨w.heap.size + 1, 0, none⟩ = false
  iv : IV W sa la
  below : Below w.heap.size w W
theorem TqI.go {w W W' : World} {qb : Nat} {sa : Value} {la : List Int} {h0 a0 n0 : Int} {x0 : List UInt8} (h : TqI w qb sa la h0 a0 n0 x0 W) (hb : Below W.heap.size W W') : TqI w qb sa la h0 a0 n0 x0 W' := by
  obtain ⟨⟨q0, q1, q2, q3⟩, hr, hf, hi, hw⟩ := h
  have hl := cell_lt q0
  have hl2 := cell_lt hr
  exact ⟨⟨(hb.cell (p := ⟨qb, 0, none⟩) hl).trans q0, (hb.cell (p := ⟨qb, 1, none⟩) hl).trans q1, (hb.cell (p := ⟨qb, 2, none⟩) hl).trans q2, (hb.cell (p := ⟨qb, 3, none⟩) hl).trans q3⟩, (hb.cell (p := ⟨w.heap.size + 1, 0, none⟩) hl2).trans hr, (hb.frozen (p := ⟨w.heap.size + 1, 0, none⟩) hl2).trans hf, hi.go hb, hw.trans (hb.mono hw.size)⟩
theorem TqI.drew {w W : World} {qb : Nat} {sa : Value} {la : List Int} {h0 a0 n0 : Int} {x0 : List UInt8} (h : TqI w qb sa la h0 a0 n0 x0 W) : TqI w qb sa la h0 a0 n0 x0 W.drew := h.go (Below.refl _ _).drew
/-- The steps' box, the result's box. -/
structure TrI (w : World) (tb : Nat) (s : Value) (M : List Stp) (W : World) : Prop where
  t : W.cell? ⟨tb, 0, none⟩ = some s
  v : View W s M
  r : W.cell? ⟨w.heap.size + 1, 0, none⟩ = some (.bool false)
  rf : W.frozen? ⟨w.heap.size + 1, 0, none⟩ = false
  below : Below w.heap.size w W
theorem TrI.go {w : World} {tb : Nat} {s : Value} {M : List Stp} {W W' : World} (h : TrI w tb s M W) (hb : Below W.heap.size W W') : TrI w tb s M W' :=
  ⟨(hb.cell (p := ⟨tb, 0, none⟩) (cell_lt h.t)).trans h.t, h.v.go hb, (hb.cell (p := ⟨w.heap.size + 1, 0, none⟩) (cell_lt h.r)).trans h.r, (hb.frozen (p := ⟨w.heap.size + 1, 0, none⟩) (cell_lt h.r)).trans h.rf, h.below.trans (hb.mono h.below.size)⟩
theorem made_any2 {w : World} {e : Ending} {w' : World} (h : MadeEnd w e w') : ∃ (L : List Stp) (s : Value), e = .returned s ∧ View w' s L ∧ TextsOk L ∧ L.length ≤ 31 ∧ Below w.heap.size w w' := by
  obtain ⟨t, s, he, hg, hl, hT, hs, _, hb⟩ := h
  exact ⟨t.flat, s, he, hs.view, fun x hx => by have := hT x hx; omega, hl, hb⟩

/-- A box of a slice, as it is made. -/
structure BoxS (tb : Nat) (W : World) : Prop where
  x : W.cell? ⟨tb, 0, none⟩ = some (.slice none 0 0)
  f : W.frozen? ⟨tb, 0, none⟩ = false
theorem BoxS.go {tb : Nat} {W W' : World} (h : BoxS tb W) (hb : Below W.heap.size W W') : BoxS tb W' :=
  ⟨(hb.cell (p := ⟨tb, 0, none⟩) (cell_lt h.x)).trans h.x, (hb.frozen (p := ⟨tb, 0, none⟩) (cell_lt h.x)).trans h.f⟩
theorem box_new (W : World) (t : TypeId) : BoxS W.heap.size (W.alloc (.cells #[.slice none 0 0] t)) := ⟨by simp [go_sem], by simp [go_sem]⟩
theorem View.box {W : World} {s : Value} {M : List Stp} (h : View W s M) {tb : Nat} (hx : W.cell? ⟨tb, 0, none⟩ = some (.slice none 0 0)) (u : Value) : View (W.setCell ⟨tb, 0, none⟩ u) s M := by
  have key : ∀ (b j : Nat) (v : Value), W.cell? ⟨b, j, none⟩ = some v → (∀ o n c, v ≠ .slice o n c) → (W.setCell ⟨tb, 0, none⟩ u).cell? ⟨b, j, none⟩ = some v := by
    intro b j v hv hn
    rw [World.cell?_setCell_other _ _ _ _ (by
      intro hh
      injection hh with e1 e2
      subst e1 e2
      rw [hx] at hv
      injection hv with hv
      exact hn _ _ _ hv.symm)]
    exact hv
  obtain ⟨o, c, e, hc, h⟩ := h
  refine ⟨o, c, e, hc, fun i hi => ?_⟩
  obtain ⟨b, off, eo, c0, c1, c2, c3, c4, c5⟩ := h i hi
  exact ⟨b, off, eo, key _ _ _ c0 (by intros; simp), key _ _ _ c1 (by intros; simp), key _ _ _ c2 (by intros; simp), key _ _ _ c3 (by intros; simp), key _ _ _ c4 (by intros; simp), key _ _ _ c5 (by intros; simp)⟩
theorem TqI.fill {w W : World} {qb : Nat} {sa : Value} {la : List Int} {h0 a0 n0 : Int} {x0 : List UInt8} {tb : Nat} {s : Value} {M : List Stp} (h : TqI w qb sa la h0 a0 n0 x0 W) (hx : BoxS tb W) (ht : w.heap.size + 2 ≤ tb) (hv : View W s M) : TrI w tb s M (W.setCell ⟨tb, 0, none⟩ s) :=
  ⟨World.cell?_setCell_same _ _ _ hx.x, hv.box hx.x _, by rw [World.cell?_setCell_other _ _ _ _ (by intro hh; injection hh with e1 e2; omega)]; exact h.r, by rw [World.frozen?_setCell]; exact h.rf, h.below.setCell (p := ⟨tb, 0, none⟩) (show w.heap.size ≤ tb by omega) _⟩
theorem TqI.fresh {w W : World} {qb : Nat} {sa : Value} {la : List Int} {h0 a0 n0 : Int} {x0 : List UInt8} {s : Value} {M : List Stp} (h : TqI w qb sa la h0 a0 n0 x0 W) (hv : View W s M) (t : TypeId) : TrI w W.heap.size s M (W.alloc (.cells #[s] t)) := by
  have hb := alloc_own W (.cells #[s] t)
  have h2 := h.go hb
  exact ⟨by simp [go_sem], hv.go hb, h2.r, h2.rf, h2.below⟩

/-- The return: the result is true, behind the rounds' three marks. -/
theorem told_finish (w W : World) (tmps : Array Value) (E D C : Nat) (hr : W.cell? ⟨w.heap.size + 1, 0, none⟩ = some (.bool false)) (hB : Below w.heap.size w W) (hE : W.heap[E]? = some (.deferred (some []))) (hD : W.heap[D]? = some (.deferred (some []))) (hC : W.heap[C]? = some (.deferred (some [])))
    (h1 : D ≠ E) (h2 : C ≠ E) (h3 : C ≠ D) (hE1 : w.heap.size + 2 ≤ E) (hD1 : w.heap.size + 2 ≤ D) (hC1 : w.heap.size + 2 ≤ C) (ht : tmps[6]? = some (.pointer (some ⟨w.heap.size + 1, 0, none⟩))) :
    LeavesInM Fence.wide 9 Try.prog Try.f3 tmps (fun e w' => e = .returned (.bool true) ∧ Below w.heap.size w w') [{ target := .collected E, args := #[] }, { target := .collected D, args := #[] }, { target := .collected C, args := #[] }] .returning (W.setCell ⟨w.heap.size + 1, 0, none⟩ (.bool true)) := by
  have c1 : (W.setCell ⟨w.heap.size + 1, 0, none⟩ (.bool true)).cell? ⟨w.heap.size + 1, 0, none⟩ = some (.bool true) := World.cell?_setCell_same _ _ _ hr
  have b1 := hB.setCell (p := ⟨w.heap.size + 1, 0, none⟩) (show w.heap.size ≤ w.heap.size + 1 by omega) (.bool true)
  have k1 : (W.setCell ⟨w.heap.size + 1, 0, none⟩ (.bool true)).heap[E]? = some (.deferred (some [])) := (Below.heap_setCell W ⟨w.heap.size + 1, 0, none⟩ _ E (show E ≠ w.heap.size + 1 by omega)).trans hE
  have k2 : (W.setCell ⟨w.heap.size + 1, 0, none⟩ (.bool true)).heap[D]? = some (.deferred (some [])) := (Below.heap_setCell W ⟨w.heap.size + 1, 0, none⟩ _ D (show D ≠ w.heap.size + 1 by omega)).trans hD
  have k3 : (W.setCell ⟨w.heap.size + 1, 0, none⟩ (.bool true)).heap[C]? = some (.deferred (some [])) := (Below.heap_setCell W ⟨w.heap.size + 1, 0, none⟩ _ C (show C ≠ w.heap.size + 1 by omega)).trans hC
  generalize W.setCell ⟨w.heap.size + 1, 0, none⟩ (.bool true) = Y at *
  have hput : ∀ (X : World) (l : Nat) (o : Obj), w.heap.size + 2 ≤ l → Below (w.heap.size + 2) X (X.putObj l o) := fun X l o hl => ⟨rfl, rfl, rfl, by simp [World.putObj], fun k hk => World.putObj_heap_other (by omega)⟩
  have k4 : (Y.putObj E (.deferred none)).heap[D]? = some (.deferred (some [])) := (World.putObj_heap_other h1).trans k2
  have k5 : ((Y.putObj E (.deferred none)).putObj D (.deferred none)).heap[C]? = some (.deferred (some [])) := (World.putObj_heap_other h3).trans ((World.putObj_heap_other h2).trans k3)
  have hI3 := ((hput Y E (.deferred none) hE1).trans (hput _ D (.deferred none) hD1)).trans (hput _ C (.deferred none) hC1)
  have hrs := (hI3.cell (p := ⟨w.heap.size + 1, 0, none⟩) (show w.heap.size + 1 < w.heap.size + 2 by omega)).trans c1
  refine ⟨by simp, .inl ⟨_, _, rfl, run_takeDeferred k1, ?_⟩⟩
  refine ⟨by simp, .inl ⟨_, _, rfl, run_takeDeferred k4, ?_⟩⟩
  refine ⟨by simp, .inl ⟨_, _, rfl, run_takeDeferred k5, ?_⟩⟩
  refine ⟨.bool true, ?_, rfl, b1.trans (hI3.mono (by omega))⟩
  simp [results, Try.f3, go_sem, ht, hrs]

set_option maxRecDepth 100000 in
set_option maxHeartbeats 16000000 in
theorem told_in (sa : Value) (la : List Int) (h0 a0 n0 : Int) (x0 : List UInt8) (many : Int) (w : World) (ha : IV w sa la) (hla : la.length ≤ 9223372036854775807) (hx0 : x0.length ≤ 9223372036854775807) (hm : -9223372036854775808 ≤ many ∧ many ≤ 9223372036854775807) :
    CallsIn Fence.wide 9 Try.prog 3 #[sa, .agg #[.int .i64 h0, .int .i64 a0, .int .i64 n0, .string (bs x0)], .int .i64 many] w fun e w' => e = .returned (.bool true) ∧ Below w.heap.size w w' := by
  have hAw := fun W => awake_yes W
  have hMa := fun W h => (made_x sa la W h hla).mono (fun _ _ he => made_any2 he)
  have hSp := fun s L W hV hT hl => spoilt_x s L h0 a0 n0 x0 W hV hT hl hx0
  have hn1 := those_not
  have hn2 := notes_not
  obtain ⟨oa, ca, rfl, hca, hva⟩ := id ha
  clear hva
  have hu : Below w.heap.size w ((w.alloc (.cells #[.int .i64 h0, .int .i64 a0, .int .i64 n0, .string (bs x0)] 24)).alloc (.cells #[.bool false] 4)) := by go_grown
  have hI : TqI w w.heap.size (.slice oa la.length ca) la h0 a0 n0 x0 ((w.alloc (.cells #[.int .i64 h0, .int .i64 a0, .int .i64 n0, .string (bs x0)] 24)).alloc (.cells #[.bool false] 4)) :=
    ⟨⟨by simp [go_sem], by simp [go_sem], by simp [go_sem], by simp [go_sem]⟩, by simp [go_sem], by simp [go_sem], ha.go hu, hu⟩
  clear ha hu
  refine callsIn_of_wp_marks Try.func3 rfl trivial ?_ rfl
  simp only [Try.ntmps3, List.size_toArray, List.length_cons, List.length_nil, Nat.reduceAdd, Nat.reduceSub, Array.replicate_succ, Array.replicate_zero, List.push_toArray, List.append_toArray, List.nil_append, List.cons_append]
  gi_wp2
  generalize (w.alloc (.cells #[.int .i64 h0, .int .i64 a0, .int .i64 n0, .string (bs x0)] 24)).alloc (.cells #[.bool false] 4) = W0 at *
  refine ⟨trivial, (callsIn_wide.2 (hAw _)).mono ?_⟩
  rintro e w1 ⟨rfl, hb1⟩
  have hA := hI.go hb1
  clear hI hb1 hAw
  have hw1 : w.heap.size + 2 ≤ w1.heap.size := by have := cell_lt hA.r; omega
  have hua : Below w1.heap.size w1 (w1.alloc (.cells #[.slice none 0 0] 26)).drew := ((Below.refl _ _).alloc (Nat.le_refl _) _).drew
  have hAa := hA.go hua
  obtain ⟨q0, q1, q2, q3⟩ := hA.q
  obtain ⟨p0, p1, p2, p3⟩ := hAa.q
  have hal := fun (W : World) => box_new W 26
  gi_upto_region 2 with fail
  gi_cut [8] from 21 (fun x wx => ∃ (tb : Nat) (os : Option Addr) (cs : Nat) (M : List Stp), x = .pointer (some ⟨tb, 0, none⟩) ∧ M.length ≤ 32 ∧ TextsOk M ∧ TrI w tb (.slice os M.length cs) M wx)
  case first =>
    first
    | gi_region_with (first
      | (refine ⟨trivial, ?_⟩; gi_at_call 7
         (first
           | (with_reducible refine (callsIn_wide.2 (hMa _ hA.drew.iv)).mono ?_
              rintro e u ⟨L, s2, rfl, hv, hF, hl, hb⟩
              have hB := hA.drew.go hb
              have hub : w1.heap.size ≤ u.heap.size := hb.size
              have hbx : True := trivial)
           | (with_reducible refine (callsIn_wide.2 (hMa _ hAa.iv)).mono ?_
              rintro e u ⟨L, s2, rfl, hv, hF, hl, hb⟩
              have hB := hAa.go hb
              have hub : w1.heap.size ≤ u.heap.size := Nat.le_trans hua.size hb.size
              have hbx := ((box_new w1 26).go (Below.refl _ _).drew).go hb))
         obtain ⟨o2, c2, rfl, _⟩ := hv.slice
         have hau := alloc_own u (.cells #[.slice none 0 0] 26)
         have hBa := hB.go hau
         have hva := hv.go hau
         obtain ⟨r0, r1, r2, r3⟩ := hB.q
         obtain ⟨s0, s1, s4, s5⟩ := hBa.q)
      | (refine ⟨trivial, ?_⟩; gi_at_call 6
         (first
           | (with_reducible refine (callsIn_wide.2 (hSp _ L _ hv hF (by omega))).mono ?_
              rintro e u3 ⟨M, s3, rfl, hs3, hF3, hl3, hb3⟩
              have hC := hB.go hb3
              (first | (have hby := BoxS.go hbx hb3; have y0 := hby.x; have y1 := hby.f) | have hby : True := trivial))
           | (with_reducible refine (callsIn_wide.2 (hSp _ L _ hva hF (by omega))).mono ?_
              rintro e u3 ⟨M, s3, rfl, hs3, hF3, hl3, hb3⟩
              have hC := hBa.go hb3
              have hby := (box_new u 26).go hb3
              have y0 := hby.x
              have y1 := hby.f))
         obtain ⟨o3, c3, rfl⟩ := SliceAt.slice hs3
         have hv3 := hs3.view))
    | fail
    all_goals
      gi_wp2_with fail
      gi_meet
      case rel =>
        first
          | exact ⟨_, _, _, M, rfl, by omega, hF3, hC.fill hby (by omega) hv3⟩
          | exact ⟨_, _, _, M, rfl, by omega, hF3, hC.fresh hv3 _⟩
  obtain ⟨tb, os, cs, M, rfl, hMl, hMF, hR⟩ := hcut
  clear hAa hA q0 q1 q2 q3 p0 p1 p2 p3 hal hua
  have hwc := cell_lt hR.r
  clear hw1 hMa hSp
  have hML : M.length ≤ 1000 := by omega
  have hSy := symbols_any _ M wc hR.v hML
  have t0 := hR.t
  gi_wp2
  refine ⟨trivial, (callsIn_wide.2 hSy).mono ?_⟩
  rintro e wS ⟨b1, b2, rfl, hbS, hIS⟩
  have hRS := hR.go hbS
  have hNt := notes_any _ M wS hRS.v hML
  replace t0 := hRS.t
  clear hSy hR
  gi_wp2
  refine ⟨trivial, (callsIn_wide.2 hNt).mono ?_⟩
  rintro e wN ⟨b3, rfl, hbN, hIN⟩
  have hRN := hRS.go hbN
  have hseq1 := SeqQ.go (seq_those hML (by simp) hIS) hbN
  have hseq2 := seq_notes hML hIN
  have hzS := hbS.size
  have hzN := hbN.size
  clear hNt hIS hIN hRS t0 hbS hbN
  gi_wp2
  have hC5 := CtI.new wN 3 0
  have hz5 : (wN.alloc (.cells #[.int .i64 0] 3)).heap.size = wN.heap.size + 1 := World.size_alloc _ _
  generalize wN.alloc (.cells #[.int .i64 0] 3) = w5 at *
  have eg1 := enters_of Try.func28 (by kernel_rfl) rfl
  have eg2 := enters_of Try.func17 (by kernel_rfl) rfl
  refine range_put rfl (by omega) (gf := 28) (lb := #[.pointer (some ⟨b1, 0, none⟩), .pointer (some ⟨b2, 0, none⟩)]) rfl trivial eg1 ((hseq1.go (hC5.below)) 8 (by omega)) (fun _ => rfl) (by omega)
    (fun pre x W W' h hb => h) (fun pre x W l o o' h _ _ _ _ => h)
    (fun pre Wr => ∃ a : Nat, Hid (thoseL [2] 0 M = pre ++ thoseL [2] a (M.drop a)) ∧ a ≤ M.length ∧ CtI wN a Wr) (fun _ _ _ => False)
    (fun pre X X' h hb => by obtain ⟨k, h1, h2, h3⟩ := h; exact ⟨k, h1, h2, h3.go hb⟩) (fun pre X k o o' h hk ho hc hc' => by obtain ⟨j, h1, h2, h3⟩ := h; exact ⟨j, h1, h2, h3.put (by omega) ho hc⟩)
    (fun _ _ _ _ h _ => h) (fun _ _ _ _ _ _ h _ _ _ _ => h) ⟨0, by show _ = _; rw [List.drop_zero]; rfl, by omega, hC5⟩
    (fun x W0 t => (t.setIfInBounds 12 (.int .i64 (x.1 : Int))).setIfInBounds 13 (.pointer (some ⟨W0.heap.size, 0, none⟩))) (fun x W0 W => StAt W W0.heap.size x.2) (fun x W0 W l o o' h _ ho hc _ => h.put ho hc) ?assign1 ?body1 ?done1 ?stop1
  case stop1 => intro c pre W _ h _; exact h.elim
  case assign1 =>
    rintro l pre ⟨p, ⟨xo, xp, xa, xn, xm, xt⟩⟩ X KK hI hG hK
    have HK := hK (X.alloc (.cells #[.int .i64 xo, .int .i64 xp, .int .i64 xa, .int .i64 xn, .int .i64 xm, .string (bs xt)] 36)) ((Below.refl _ _).alloc (Nat.le_refl _) _) (StAt.new X ⟨xo, xp, xa, xn, xm, xt⟩)
    clear hK hI hG
    simp only [encQ, Stp.v] at HK ⊢
    gi_wp2
    exact Eq.mp (congrArg (fun t => KK { tmps := t, defers := [] } _) (by kernel_rfl)) HK
  case body1 =>
    rintro l pre ⟨i, x⟩ W0 W hs0 ⟨a, hA, haM, hI⟩ ⟨post, hG⟩ hS
    dsimp only at hS
    have hG2 : thoseL [2] a (M.drop a) = (i, x) :: post := List.append_cancel_left (hA.out.symm.trans hG)
    obtain ⟨hai, hiM, hMi, hx2, hno, hpost⟩ := those_head [2] M (M.length - a) a rfl haM i x post hG2
    have HP : Hid (thoseL [2] 0 M = (pre ++ [(i, x)]) ++ thoseL [2] (i + 1) (M.drop (i + 1))) := by show _ = _; rw [hG, hpost]; simp
    have HNO := Lib.hid hno
    have HMI := Lib.hid hMi
    have hx2' : x.op = 2 := by simpa using hx2
    have hR0 : R1I wN wS.heap.size w5.heap.size W W0.heap.size x a W := ⟨hI, hS, Kq.refl _ _ _, KeepsFrom.refl _ _⟩
    have hlt0 := hI.lt
    clear hA hG hG2 hpost hno hMi hx2 hI hS
    have hiI : (i : Int) ≤ 1000 := by omega
    have hMI : (M.length : Int) ≤ 1000 := by omega
    obtain ⟨xo, xp, xa, xn, xm, xt⟩ := x
    dsimp only at hx2'
    subst hx2'
    simp only [encQ, Stp.v]
    go_simp
    gi_wp2
    gi_loopw [] (fun wr => ∃ j : Nat, a ≤ j ∧ j ≤ i ∧ R1I wN wS.heap.size w5.heap.size W W0.heap.size ⟨2, xp, xa, xn, xm, xt⟩ j wr) (fun wr => ((i : Int) - boxInt wN.heap.size wr).toNat)
    case atStart => exact ⟨a, Nat.le_refl _, hai, hR0⟩
    case round =>
      clear hR0
      obtain ⟨j, haj, hji, hR⟩ := hrel
      have hTr := hRN.go (hR.c.below)
      have x1 := hR.c.x
      have x2 := hR.c.f
      have t0 := hTr.t
      by_cases hlt : j < i
      · have hlI : (j : Int) < i := by omega
        have hjM : (j : Int) < M.length := by omega
        obtain ⟨o', c', e', hc', hcell⟩ := hTr.v
        obtain ⟨b, off, eo, v0, v1, v2, v3, v4, v5⟩ := hcell j (by omega)
        injection e' with e1 e2 e3
        subst e1 e3
        subst eo
        have hop := HNO.out j haj hlt
        clear hcell v1 v2 v3 v4 v5 hTr
        generalize (M.getD j default).op = yo at *
        have hy2 : (yo == 2) = false := by simpa using hop
        have hR2 := hR.set (by omega) (by omega) (by omega) ((j : Int) + 1)
        have hmi := hR.c.int
        have hmi2 := hR2.c.int
        clear hop
        gi_wp2
        go_roundw
        case rel => exact ⟨j + 1, by omega, by omega, by simpa using hR2⟩
        case measure =>
          rw [hmi2, hmi]; omega
      · have hje : j = i := by omega
        subst hje
        have hlI : ¬ (j : Int) < j := by omega
        have hjM : (j : Int) < M.length := by omega
        have hgM : decide (M.length ≤ j) = false := decide_eq_false (by omega)
        obtain ⟨o', c', e', hc', hcell⟩ := hTr.v
        obtain ⟨b, off, eo, v0, v1, v2, v3, v4, v5⟩ := hcell j (by omega)
        injection e' with e1 e2 e3
        subst e1 e3
        subst eo
        rw [HMI.out] at v0 v1 v2 v3 v4 v5
        dsimp only at v0 v1 v2 v3 v4 v5
        clear hcell hTr
        obtain ⟨y0, y1, y2, y3, y4, y5⟩ := hR.s
        dsimp only at y0 y1 y2 y3 y4 y5
        have hne := fun V => nev_step 2 xp xa xn xm (bs xt) 2 xp xa xn xm (bs xt) V
        simp only [beq_self_eq_true, Bool.and_self, Bool.not_true] at hne
        gi_wp2_with fail
        refine region_quiet_round (by kernel_rfl) (by kernel_rfl) (by kernel_rfl) ?_
        repeat gi_big_quiet_step (fail)
        refine wpQuietIn_nil ?_
        rintro _ ⟨nq, rfl⟩
        have hR3 := hR.go (by omega) (drewN_below (W := wr) nq)
        have hR4 := hR3.set (by omega) (by omega) (by omega) ((j : Int) + 1)
        clear y0 y1 y2 y3 y4 y5 v0 v1 v2 v3 v4 v5 hne hR t0
        have hf4 := hR4.f
        have hk4 := hR4.k
        rw [hz5] at hf4 hk4
        gi_wp2_with fail
        exact ⟨hf4, hk4, j + 1, HP, by omega, by simpa using hR4.c⟩
  case done1 =>
    rintro xs w6 hxs ⟨a, hA, haM, hC6⟩ hD1
    subst hxs
    have hno : ∀ k, a ≤ k → k < M.length → [2].contains (M.getD k default).op = false := by
      refine those_none [2] M (M.length - a) a rfl haM ?_
      have h := hA.out
      have h2 := congrArg List.length h
      rw [List.length_append] at h2
      exact List.eq_nil_of_length_eq_zero (by omega)
    have HNO := Lib.hid hno
    have hlt6 := (Array.getElem?_eq_some_iff.1 hD1).1
    have hMI : (M.length : Int) ≤ 1000 := by omega
    clear hno hA hC5 eg1
    gi_wp2
    gi_loopw [] (fun wr => ∃ j : Nat, a ≤ j ∧ j ≤ M.length ∧ CtI wN j wr ∧ wr.heap[w5.heap.size]? = some (.deferred (some []))) (fun wr => ((M.length : Int) - boxInt wN.heap.size wr).toNat)
    case atStart => exact ⟨a, Nat.le_refl _, haM, hC6, hD1⟩
    case round =>
      clear hC6 hD1
      obtain ⟨j, haj, hjM, hC, hD⟩ := hrel
      have hTr := hRN.go hC.below
      have x1 := hC.x
      have x2 := hC.f
      have t0 := hTr.t
      by_cases hlt : j < M.length
      · have hlI : (j : Int) < M.length := by omega
        obtain ⟨o', c', e', hc', hcell⟩ := hTr.v
        obtain ⟨b, off, eo, v0, v1, v2, v3, v4, v5⟩ := hcell j (by omega)
        injection e' with e1 e2 e3
        subst e1 e3
        subst eo
        have hop := HNO.out j haj hlt
        clear hcell v1 v2 v3 v4 v5 hTr
        generalize (M.getD j default).op = yo at *
        have hy2 : (yo == 2) = false := by simpa using hop
        have hC2 := hC.set ((j : Int) + 1)
        have hD2 : (wr.setCell ⟨wN.heap.size, 0, none⟩ (.int .i64 ((j : Int) + 1))).heap[w5.heap.size]? = some (.deferred (some [])) := (Below.heap_setCell wr ⟨wN.heap.size, 0, none⟩ _ _ (by show w5.heap.size ≠ wN.heap.size; omega)).trans hD
        have hmi := hC.int
        have hmi2 := hC2.int
        clear hop
        gi_wp2
        go_roundw
        case rel => exact ⟨j + 1, by omega, by omega, by simpa using hC2, hD2⟩
        case measure => rw [hmi2, hmi]; omega
      · have hje : j = M.length := by omega
        have hlI : ¬ (j : Int) < M.length := by omega
        clear HNO
        gi_wp2
        have hT7 := TxI.new wr 37
        have hz7 : (wr.alloc (.cells #[.slice none 0 0] 37)).heap.size = wr.heap.size + 1 := World.size_alloc _ _
        have hlt7 := (Array.getElem?_eq_some_iff.1 hD).1
        have hRr := hRN.go hC.below
        have hsr := hC.below.size
        have hbr := hC.below
        clear hC x1 x2 t0 hTr hje hlI hRN
        generalize wr.alloc (.cells #[.slice none 0 0] 37) = w7 at *
        gi_wp2
        obtain ⟨V7, hV7⟩ : ∃ V7, V7 = wr := ⟨_, rfl⟩
        subst hV7
        gi_loopw [15] (fun x wq => ∃ (i : Nat) (o : Option Addr) (c : Nat) (T : List (List UInt8)), x = .int .i64 (i : Int) ∧ i ≤ M.length ∧ Hid (T = textsL (M.take i)) ∧ T.length ≤ i ∧ TxI V7 o c T wq) (fun x _ => ((M.length : Int) - intOf x).toNat)
        case atStart => exact ⟨0, none, 0, [], rfl, by omega, rfl, by simp, hT7⟩
        case round =>
          clear hT7
          obtain ⟨i, ox, cx, T, rfl, hiM, HT, hTi, hT⟩ := hrel
          have hTr := hRr.go hT.below
          have t0 := hTr.t
          by_cases hlt : i < M.length
          · have hlI : (i : Int) < M.length := by omega
            obtain ⟨o', c', e', hc', hcell⟩ := hTr.v
            obtain ⟨b, off, eo, v0, v1, v2, v3, v4, v5⟩ := hcell i (by omega)
            injection e' with e1 e2 e3
            subst e1 e3
            subst eo
            have v5' : V7.cell? ⟨b, off + i * 6 + 5, none⟩ = some (.string (bs (M.getD i default).text)) := by
              obtain ⟨o', c', e', hc', hcell'⟩ := hRr.v
              obtain ⟨b', off', eo', _, _, _, _, _, u5⟩ := hcell' i (by omega)
              injection e' with e1 e2 e3
              subst e1
              injection eo' with eo'
              injection eo' with e4 e5
              subst e4 e5
              exact u5
            have htk := notes_take hlt
            have hTr0 := hTr
            clear hcell v1 v2 v3 v4 hTr
            generalize (M.getD i default).op = yo at *
            generalize (M.getD i default).text = yt at *
            by_cases h67 : yo = 6 ∨ yo = 7
            · have HT2 : Hid (T ++ [yt] = textsL (M.take (i + 1))) := by
                show _ = _
                rw [htk, ← HT.out]
                rcases h67 with rfl | rfl <;> rfl
              obtain ⟨X, o2, c2, happ, f1, f2, hX, hT2⟩ := (hT.go (Below.refl _ _).drew).more (by omega) yt
              have y1 := hT.x
              have hS0 : Below V7.heap.size V7 wr.drew := hT.below.trans ((Below.refl _ _).drew)
              have y1a : (wr.alloc (.cells #[.string (bs yt)] 9)).cell? ⟨V7.heap.size, 0, none⟩ = some (.slice ox T.length cx) := ((alloc_own _ _).cell (p := ⟨V7.heap.size, 0, none⟩) hT.lt).trans hT.x
              have hK2 : ∀ u, Below V7.heap.size V7 u → u.cell? ⟨tb, 0, none⟩ = some (.slice (some ⟨b, off, none⟩) M.length cs) := fun u hu => (hu.cell (p := ⟨tb, 0, none⟩) (cell_lt hRr.t)).trans hRr.t
              have hK3 : ∀ u, Below V7.heap.size V7 u → u.cell? ⟨b, off + i * 6 + 5, none⟩ = some (.string (bs yt)) := fun u hu => (hu.cell (p := ⟨b, off + i * 6 + 5, none⟩) (cell_lt v5')).trans v5'
              clear htk
              have hend : ∀ K : Prop, K → K := fun _ h => h
              rcases h67 with rfl | rfl
              · skip
                gi_wp2_with fail
                refine wpIn_wide.2 (wp_region_noPanic ?_)
                refine wp_region_held_drew (S := fun v => Below V7.heap.size V7 v) (by kernel_rfl) hS0 (fun hHeld => ?_)
                refine wpAnyH_take (i := 1) (v := ?_) rfl (by kernel_rfl) (by kernel_rfl) (by kernel_rfl) (fun _ _ _ h => h) (Or.inl ⟨by rfl, ?_⟩) hHeld ?_
                rotate_left
                · intro u hbu; have z2 := hK2 u hbu; have z3 := hK3 u hbu; clear hbu; go_simp; try with_reducible rfl
                simp only [Act.put, List.setIfInBounds_toArray, List.set_cons_zero, List.set_cons_succ, List.getElem_toArray, List.getElem_cons_succ, List.getElem_cons_zero]
                refine wpAnyH_take (i := 2) (v := ?_) rfl (by kernel_rfl) (by kernel_rfl) (by kernel_rfl) (fun _ _ _ h => h) (Or.inl ⟨by rfl, ?_⟩) hHeld ?_
                rotate_left
                · intro u hbu; have z2 := hK2 u hbu; have z3 := hK3 u hbu; clear hbu; go_simp; try with_reducible rfl
                simp only [Act.put, List.setIfInBounds_toArray, List.set_cons_zero, List.set_cons_succ, List.getElem_toArray, List.getElem_cons_succ, List.getElem_cons_zero]
                refine wpAnyH_take (i := 3) (v := ?_) rfl (by kernel_rfl) (by kernel_rfl) (by kernel_rfl) (fun _ _ _ h => h) (Or.inl ⟨by rfl, ?_⟩) hHeld ?_
                rotate_left
                · intro u hbu; have z2 := hK2 u hbu; have z3 := hK3 u hbu; clear hbu; go_simp; try with_reducible rfl
                simp only [Act.put, List.setIfInBounds_toArray, List.set_cons_zero, List.set_cons_succ, List.getElem_toArray, List.getElem_cons_succ, List.getElem_cons_zero]
                refine wpAnyH_take (i := 4) (v := ?_) rfl (by kernel_rfl) (by kernel_rfl) (by kernel_rfl) (fun _ _ _ h => h) (Or.inl ⟨by rfl, ?_⟩) hHeld ?_
                rotate_left
                · intro u hbu; have z2 := hK2 u hbu; have z3 := hK3 u hbu; clear hbu; go_simp; try with_reducible rfl
                simp only [Act.put, List.setIfInBounds_toArray, List.set_cons_zero, List.set_cons_succ, List.getElem_toArray, List.getElem_cons_succ, List.getElem_cons_zero]
                refine wpAnyH_take (i := 5) (v := ?_) rfl (by kernel_rfl) (by kernel_rfl) (by kernel_rfl) (fun _ _ _ h => h) (Or.inl ⟨by rfl, ?_⟩) hHeld ?_
                rotate_left
                · intro u hbu; have z2 := hK2 u hbu; have z3 := hK3 u hbu; clear hbu; go_simp; try with_reducible rfl
                simp only [Act.put, List.setIfInBounds_toArray, List.set_cons_zero, List.set_cons_succ, List.getElem_toArray, List.getElem_cons_succ, List.getElem_cons_zero]
                refine wpAnyH_ready (rs := [0, 6]) (by kernel_rfl) (by simp) ?_
                refine AllReadyH.cons rfl (fun K hK => ?_) ?_
                · skip
                  go_simp
                  refine hK.out _ _ hHeld (fun hHeld2 => ?_)
                  clear hK K hHeld
                  have hHeld := hHeld2
                  clear hHeld2
                  try simp only [Act.put, List.setIfInBounds_toArray, List.set_cons_zero, List.set_cons_succ, List.getElem_toArray, List.getElem_cons_succ, List.getElem_cons_zero]
                  refine wpAnyH_ready (rs := [6]) (by kernel_rfl) (by simp) ?_
                  refine AllReadyH.cons rfl (fun K hK => ?_) AllReadyH.nil
                  go_simp
                  refine hK.out _ _ (hHeld.trans ((alloc_own _ _).mono hHeld.size)) (fun hHeld2 => ?_)
                  clear hK K hHeld
                  have hHeld := hHeld2
                  clear hHeld2
                  try simp only [Act.put, List.setIfInBounds_toArray, List.set_cons_zero, List.set_cons_succ, List.getElem_toArray, List.getElem_cons_succ, List.getElem_cons_zero]
                  refine wpAnyH_ready (rs := [7]) (by kernel_rfl) (by simp) ?_
                  refine AllReadyH.cons rfl (fun K hK => ?_) AllReadyH.nil
                  refine step_app1 (by rfl) (.tmp 113) (.tmp 119) 37 37 rfl happ ?_
                  refine hK.out _ _ hX (fun hHeld2 => ?_)
                  clear hK K hHeld
                  have hHeld := hHeld2
                  clear hHeld2
                  try simp only [Act.put, List.setIfInBounds_toArray, List.set_cons_zero, List.set_cons_succ, List.getElem_toArray, List.getElem_cons_succ, List.getElem_cons_zero]
                  refine wpAnyH_ready (rs := [8]) (by kernel_rfl) (by simp) ?_
                  refine AllReadyH.cons rfl (fun K hK => ?_) AllReadyH.nil
                  go_simp
                  refine hK.out _ _ (hHeld.setCell (p := ⟨V7.heap.size, 0, none⟩) (Nat.le_refl _) _) (fun hHeld2 => ?_)
                  clear hK K hHeld
                  have hHeld := hHeld2
                  clear hHeld2
                  try simp only [Act.put, List.setIfInBounds_toArray, List.set_cons_zero, List.set_cons_succ, List.getElem_toArray, List.getElem_cons_succ, List.getElem_cons_zero]
                  refine wpAnyH_done (by kernel_rfl) ?_ _
                  refine NoPanic.normal ?_
                  gi_wp2
                  go_roundw
                  case rel => exact ⟨i + 1, o2, c2, T ++ [yt], by simp, by omega, HT2, by rw [List.length_append]; simp; omega, hT2⟩
                  case measure => simp only [intOf]; omega
                refine AllReadyH.cons rfl (fun K hK => ?_) AllReadyH.nil
                go_simp
                refine hK.out _ _ (hHeld.trans ((alloc_own _ _).mono hHeld.size)) (fun hHeld2 => ?_)
                clear hK K hHeld
                have hHeld := hHeld2
                clear hHeld2
                try simp only [Act.put, List.setIfInBounds_toArray, List.set_cons_zero, List.set_cons_succ, List.getElem_toArray, List.getElem_cons_succ, List.getElem_cons_zero]
                refine wpAnyH_ready (rs := [0]) (by kernel_rfl) (by simp) ?_
                refine AllReadyH.cons rfl (fun K hK => ?_) AllReadyH.nil
                go_simp
                refine hK.out _ _ hHeld (fun hHeld2 => ?_)
                clear hK K hHeld
                have hHeld := hHeld2
                clear hHeld2
                try simp only [Act.put, List.setIfInBounds_toArray, List.set_cons_zero, List.set_cons_succ, List.getElem_toArray, List.getElem_cons_succ, List.getElem_cons_zero]
                refine wpAnyH_ready (rs := [7]) (by kernel_rfl) (by simp) ?_
                refine AllReadyH.cons rfl (fun K hK => ?_) AllReadyH.nil
                refine step_app1 (by rfl) (.tmp 113) (.tmp 119) 37 37 rfl happ ?_
                refine hK.out _ _ hX (fun hHeld2 => ?_)
                clear hK K hHeld
                have hHeld := hHeld2
                clear hHeld2
                try simp only [Act.put, List.setIfInBounds_toArray, List.set_cons_zero, List.set_cons_succ, List.getElem_toArray, List.getElem_cons_succ, List.getElem_cons_zero]
                refine wpAnyH_ready (rs := [8]) (by kernel_rfl) (by simp) ?_
                refine AllReadyH.cons rfl (fun K hK => ?_) AllReadyH.nil
                go_simp
                refine hK.out _ _ (hHeld.setCell (p := ⟨V7.heap.size, 0, none⟩) (Nat.le_refl _) _) (fun hHeld2 => ?_)
                clear hK K hHeld
                have hHeld := hHeld2
                clear hHeld2
                try simp only [Act.put, List.setIfInBounds_toArray, List.set_cons_zero, List.set_cons_succ, List.getElem_toArray, List.getElem_cons_succ, List.getElem_cons_zero]
                refine wpAnyH_done (by kernel_rfl) ?_ _
                refine NoPanic.normal ?_
                gi_wp2
                go_roundw
                case rel => exact ⟨i + 1, o2, c2, T ++ [yt], by simp, by omega, HT2, by rw [List.length_append]; simp; omega, hT2⟩
                case measure => simp only [intOf]; omega
              · skip
                gi_wp2_with fail
                refine wpIn_wide.2 (wp_region_noPanic ?_)
                refine wp_region_held_drew (S := fun v => Below V7.heap.size V7 v) (by kernel_rfl) hS0 (fun hHeld => ?_)
                refine wpAnyH_take (i := 1) (v := ?_) rfl (by kernel_rfl) (by kernel_rfl) (by kernel_rfl) (fun _ _ _ h => h) (Or.inl ⟨by rfl, ?_⟩) hHeld ?_
                rotate_left
                · intro u hbu; have z2 := hK2 u hbu; have z3 := hK3 u hbu; clear hbu; go_simp; try with_reducible rfl
                simp only [Act.put, List.setIfInBounds_toArray, List.set_cons_zero, List.set_cons_succ, List.getElem_toArray, List.getElem_cons_succ, List.getElem_cons_zero]
                refine wpAnyH_take (i := 2) (v := ?_) rfl (by kernel_rfl) (by kernel_rfl) (by kernel_rfl) (fun _ _ _ h => h) (Or.inl ⟨by rfl, ?_⟩) hHeld ?_
                rotate_left
                · intro u hbu; have z2 := hK2 u hbu; have z3 := hK3 u hbu; clear hbu; go_simp; try with_reducible rfl
                simp only [Act.put, List.setIfInBounds_toArray, List.set_cons_zero, List.set_cons_succ, List.getElem_toArray, List.getElem_cons_succ, List.getElem_cons_zero]
                refine wpAnyH_take (i := 3) (v := ?_) rfl (by kernel_rfl) (by kernel_rfl) (by kernel_rfl) (fun _ _ _ h => h) (Or.inl ⟨by rfl, ?_⟩) hHeld ?_
                rotate_left
                · intro u hbu; have z2 := hK2 u hbu; have z3 := hK3 u hbu; clear hbu; go_simp; try with_reducible rfl
                simp only [Act.put, List.setIfInBounds_toArray, List.set_cons_zero, List.set_cons_succ, List.getElem_toArray, List.getElem_cons_succ, List.getElem_cons_zero]
                refine wpAnyH_take (i := 4) (v := ?_) rfl (by kernel_rfl) (by kernel_rfl) (by kernel_rfl) (fun _ _ _ h => h) (Or.inl ⟨by rfl, ?_⟩) hHeld ?_
                rotate_left
                · intro u hbu; have z2 := hK2 u hbu; have z3 := hK3 u hbu; clear hbu; go_simp; try with_reducible rfl
                simp only [Act.put, List.setIfInBounds_toArray, List.set_cons_zero, List.set_cons_succ, List.getElem_toArray, List.getElem_cons_succ, List.getElem_cons_zero]
                refine wpAnyH_take (i := 5) (v := ?_) rfl (by kernel_rfl) (by kernel_rfl) (by kernel_rfl) (fun _ _ _ h => h) (Or.inl ⟨by rfl, ?_⟩) hHeld ?_
                rotate_left
                · intro u hbu; have z2 := hK2 u hbu; have z3 := hK3 u hbu; clear hbu; go_simp; try with_reducible rfl
                simp only [Act.put, List.setIfInBounds_toArray, List.set_cons_zero, List.set_cons_succ, List.getElem_toArray, List.getElem_cons_succ, List.getElem_cons_zero]
                refine wpAnyH_ready (rs := [0, 6]) (by kernel_rfl) (by simp) ?_
                refine AllReadyH.cons rfl (fun K hK => ?_) ?_
                · skip
                  go_simp
                  refine hK.out _ _ hHeld (fun hHeld2 => ?_)
                  clear hK K hHeld
                  have hHeld := hHeld2
                  clear hHeld2
                  try simp only [Act.put, List.setIfInBounds_toArray, List.set_cons_zero, List.set_cons_succ, List.getElem_toArray, List.getElem_cons_succ, List.getElem_cons_zero]
                  refine wpAnyH_ready (rs := [6]) (by kernel_rfl) (by simp) ?_
                  refine AllReadyH.cons rfl (fun K hK => ?_) AllReadyH.nil
                  go_simp
                  refine hK.out _ _ (hHeld.trans ((alloc_own _ _).mono hHeld.size)) (fun hHeld2 => ?_)
                  clear hK K hHeld
                  have hHeld := hHeld2
                  clear hHeld2
                  try simp only [Act.put, List.setIfInBounds_toArray, List.set_cons_zero, List.set_cons_succ, List.getElem_toArray, List.getElem_cons_succ, List.getElem_cons_zero]
                  refine wpAnyH_ready (rs := [7]) (by kernel_rfl) (by simp) ?_
                  refine AllReadyH.cons rfl (fun K hK => ?_) AllReadyH.nil
                  refine step_app1 (by rfl) (.tmp 113) (.tmp 119) 37 37 rfl happ ?_
                  refine hK.out _ _ hX (fun hHeld2 => ?_)
                  clear hK K hHeld
                  have hHeld := hHeld2
                  clear hHeld2
                  try simp only [Act.put, List.setIfInBounds_toArray, List.set_cons_zero, List.set_cons_succ, List.getElem_toArray, List.getElem_cons_succ, List.getElem_cons_zero]
                  refine wpAnyH_ready (rs := [8]) (by kernel_rfl) (by simp) ?_
                  refine AllReadyH.cons rfl (fun K hK => ?_) AllReadyH.nil
                  go_simp
                  refine hK.out _ _ (hHeld.setCell (p := ⟨V7.heap.size, 0, none⟩) (Nat.le_refl _) _) (fun hHeld2 => ?_)
                  clear hK K hHeld
                  have hHeld := hHeld2
                  clear hHeld2
                  try simp only [Act.put, List.setIfInBounds_toArray, List.set_cons_zero, List.set_cons_succ, List.getElem_toArray, List.getElem_cons_succ, List.getElem_cons_zero]
                  refine wpAnyH_done (by kernel_rfl) ?_ _
                  refine NoPanic.normal ?_
                  gi_wp2
                  go_roundw
                  case rel => exact ⟨i + 1, o2, c2, T ++ [yt], by simp, by omega, HT2, by rw [List.length_append]; simp; omega, hT2⟩
                  case measure => simp only [intOf]; omega
                refine AllReadyH.cons rfl (fun K hK => ?_) AllReadyH.nil
                go_simp
                refine hK.out _ _ (hHeld.trans ((alloc_own _ _).mono hHeld.size)) (fun hHeld2 => ?_)
                clear hK K hHeld
                have hHeld := hHeld2
                clear hHeld2
                try simp only [Act.put, List.setIfInBounds_toArray, List.set_cons_zero, List.set_cons_succ, List.getElem_toArray, List.getElem_cons_succ, List.getElem_cons_zero]
                refine wpAnyH_ready (rs := [0]) (by kernel_rfl) (by simp) ?_
                refine AllReadyH.cons rfl (fun K hK => ?_) AllReadyH.nil
                go_simp
                refine hK.out _ _ hHeld (fun hHeld2 => ?_)
                clear hK K hHeld
                have hHeld := hHeld2
                clear hHeld2
                try simp only [Act.put, List.setIfInBounds_toArray, List.set_cons_zero, List.set_cons_succ, List.getElem_toArray, List.getElem_cons_succ, List.getElem_cons_zero]
                refine wpAnyH_ready (rs := [7]) (by kernel_rfl) (by simp) ?_
                refine AllReadyH.cons rfl (fun K hK => ?_) AllReadyH.nil
                refine step_app1 (by rfl) (.tmp 113) (.tmp 119) 37 37 rfl happ ?_
                refine hK.out _ _ hX (fun hHeld2 => ?_)
                clear hK K hHeld
                have hHeld := hHeld2
                clear hHeld2
                try simp only [Act.put, List.setIfInBounds_toArray, List.set_cons_zero, List.set_cons_succ, List.getElem_toArray, List.getElem_cons_succ, List.getElem_cons_zero]
                refine wpAnyH_ready (rs := [8]) (by kernel_rfl) (by simp) ?_
                refine AllReadyH.cons rfl (fun K hK => ?_) AllReadyH.nil
                go_simp
                refine hK.out _ _ (hHeld.setCell (p := ⟨V7.heap.size, 0, none⟩) (Nat.le_refl _) _) (fun hHeld2 => ?_)
                clear hK K hHeld
                have hHeld := hHeld2
                clear hHeld2
                try simp only [Act.put, List.setIfInBounds_toArray, List.set_cons_zero, List.set_cons_succ, List.getElem_toArray, List.getElem_cons_succ, List.getElem_cons_zero]
                refine wpAnyH_done (by kernel_rfl) ?_ _
                refine NoPanic.normal ?_
                gi_wp2
                go_roundw
                case rel => exact ⟨i + 1, o2, c2, T ++ [yt], by simp, by omega, HT2, by rw [List.length_append]; simp; omega, hT2⟩
                case measure => simp only [intOf]; omega
            · have h6 : (yo == 6) = false := by simp; omega
              have h7 : (yo == 7) = false := by simp; omega
              have HT2 : Hid (T = textsL (M.take (i + 1))) := by
                show _ = _
                rw [htk, ← HT.out]
                have : [6, 7].contains yo = false := by simp; omega
                rw [this]; simp
              clear htk
              gi_wp2
              go_roundw
              case rel => exact ⟨i + 1, ox, cx, T, by simp, by omega, HT2, by omega, hT⟩
              case measure => simp only [intOf]; omega
          · have hie : i = M.length := by omega
            have hlI : ¬ (i : Int) < M.length := by omega
            have HTA : Hid (T = textsL M) := by
              have h := HT.out
              rw [hie, List.take_length] at h
              exact h
            have hT9 := hT
            have hz9 := hT.below.size
            have hV7T : T.length ≤ 1000 := by omega
            clear HT hT hTr hie
            gi_wp2
            clear t0 hlI
            obtain ⟨V9, hV9⟩ : ∃ V9, V9 = wr := ⟨_, rfl⟩
            subst hV9
            have hCa := CtI.new V9 3 0
            have hza : (V9.alloc (.cells #[.int .i64 0] 3)).heap.size = V9.heap.size + 1 := World.size_alloc _ _
            generalize V9.alloc (.cells #[.int .i64 0] 3) = wa at *
            have hs79 : wN.heap.size ≤ V9.heap.size := Nat.le_trans hsr hT9.below.size
            have hbNa : Below wN.heap.size wN wa := (hbr.trans (hT9.below.mono hsr)).trans (hCa.below.mono hs79)
            have hsNa := hbNa.size
            refine range_put rfl (by omega) (gf := 17) (lb := #[.pointer (some ⟨b3, 0, none⟩)]) rfl trivial eg2 ((hseq2.go hbNa) 8 (by omega)) (fun _ => rfl) (by omega)
              (fun pre x W W' h hb => h) (fun pre x W l o o' h _ _ _ _ => h)
              (fun pre Wr => ∃ k : Nat, Hid (k = pre.length) ∧ CtI V9 k Wr) (fun _ _ _ => False)
              (fun pre X X' h hb => by obtain ⟨k, h1, h2⟩ := h; exact ⟨k, h1, h2.go hb⟩) (fun pre X k o o' h hk ho hc hc' => by obtain ⟨j, h1, h2⟩ := h; exact ⟨j, h1, h2.put (by omega) ho hc⟩)
              (fun _ _ _ _ h _ => h) (fun _ _ _ _ _ _ h _ _ _ _ => h) ⟨0, rfl, hCa⟩
              (fun (x : Nat × Stp) W0 t => t.setIfInBounds 17 (.string (bs x.2.text))) (fun _ _ _ => True) (fun _ _ _ _ _ _ _ _ _ _ _ => trivial) ?assign2 ?body2 ?done2 ?stop2
            case stop2 => intro c pre W _ h _; exact h.elim
            case assign2 =>
              rintro l pre ⟨p, ⟨xo, xp, xa, xn, xm, xt⟩⟩ X KK hI hG hK
              have HK := hK X (Below.refl _ _) trivial
              clear hK hI hG
              simp only [encT] at HK ⊢
              gi_wp2
              exact Eq.mp (congrArg (fun t => KK { tmps := t, defers := [] } _) (by kernel_rfl)) HK
            case body2 =>
              rintro l pre ⟨i, ⟨xo, xp, xa, xn, xm, xt⟩⟩ W0 W hs0 ⟨k, hk, hI⟩ hG _
              obtain ⟨g1, g2⟩ := notes_at hG
              rw [← HTA.out] at g1 g2
              rw [← hk.out] at g1 g2
              dsimp only at g2
              have HK1 : Hid (k + 1 = (pre ++ [((i, ⟨xo, xp, xa, xn, xm, xt⟩) : Nat × Stp)]).length) := by show _ = _; rw [List.length_append, ← hk.out]; simp
              have hTW := hT9.go hI.below
              obtain ⟨b, rfl, z0⟩ : ∃ b, ox = some ⟨b, 0, none⟩ ∧ W.cell? ⟨b, k, none⟩ = some (.string (bs xt)) := by
                rcases hTW.at_ with ⟨h0, _⟩ | ⟨b, c, e, hc, hm, hg⟩
                · omega
                · injection e with e1 e2 e3
                  have := hg.1 k g1 0 (by omega)
                  rw [Nat.mul_one, Nat.add_zero] at this
                  unfold cellX at this
                  rw [g2] at this
                  exact ⟨b, e1, this⟩
              have y1 := hTW.x
              have x1 := hI.x
              have x2 := hI.f
              have hkT : ¬ (T.length : Int) ≤ (k : Int) := by omega
              have hkI : (k : Int) < T.length := by omega
              have hkL : (T.length : Int) ≤ 1000 := by omega
              have hI2 := hI.set ((k : Int) + 1)
              clear hk hG g1 g2 hTW hI
              simp only [encT]
              go_simp
              gi_wp2_with fail
              exact ⟨keeps_box _ _ _ _ (by omega), Kq.set _ _ (by omega) (by omega), k + 1, HK1, by simpa using hI2⟩
            case done2 =>
              rintro xs wb hxs ⟨k, hk, hCb⟩ hD2
              subst hxs
              have hkT : k = T.length := by rw [hk.out, texts_all, HTA.out]
              subst hkT
              have hlt9 := (Array.getElem?_eq_some_iff.1 hD2).1
              obtain ⟨kk, hkk⟩ : ∃ a, restN many 9 = a := ⟨_, rfl⟩
              have hk9 : kk < 9 := by rw [← hkk]; exact restN_lt many 9 (by omega)
              have hrt := rest_any many 9 wb (by omega) (by omega)
              rw [hkk] at hrt
              clear hkk hk HTA eg2 hCa hn1 hn2
              gi_wp2
              refine ⟨trivial, (callsIn_wide.2 hrt).mono ?_⟩
              rintro e w' ⟨rfl, rfl⟩
              clear hrt
              gi_wp2
              have hCk := CtI.new wb 3 (kk : Int)
              have hzk : (wb.alloc (.cells #[.int .i64 (kk : Int)] 3)).heap.size = wb.heap.size + 1 := World.size_alloc _ _
              generalize wb.alloc (.cells #[.int .i64 (kk : Int)] 3) = Vk at *
              have hCg := CtI.new Vk 3 0
              have hzg : (Vk.alloc (.cells #[.int .i64 0] 3)).heap.size = Vk.heap.size + 1 := World.size_alloc _ _
              rw [← hzk]
              generalize Vk.alloc (.cells #[.int .i64 0] 3) = wg at *
              have HZK := Lib.hid hzk
              have hskb := hCk.below.size
              clear hzk
              have hb7b : Below V7.heap.size V7 Vk := (hT9.below.trans (hCb.below.mono hz9)).trans (hCk.below.mono (Nat.le_trans hz9 hCb.below.size))
              have hb9k : Below V9.heap.size V9 Vk := hCb.below.trans (hCk.below.mono hCb.below.size)
              have hs9b := hCb.below.size
              have hs7k := hb7b.size
              have hbNg : Below wN.heap.size wN wg := (hbr.trans (hb7b.mono hsr)).trans (hCg.below.mono (by omega))
              have hsNg := hbNg.size
              have eg3 := enters_of Try.func28 (by kernel_rfl) rfl
              have hkI : (kk : Int) < 9 := by omega
              refine range_skip rfl (by omega) (gf := 28) (lb := #[.pointer (some ⟨b1, 0, none⟩), .pointer (some ⟨b2, 0, none⟩)]) rfl trivial eg3 ((hseq1.go hbNg) 8 (by omega)) (fun _ => rfl) (by omega)
                (fun pre x W W' h hb => h) (fun pre x W l o o' h _ _ _ _ => h)
                (fun pre Wr => ∃ g : Int, (0 ≤ g ∧ g ≤ kk) ∧ CtI Vk g Wr) (fun cd _ Wr => cd = .exit 10 ∧ ∃ g : Int, (0 ≤ g ∧ g ≤ kk) ∧ CtI Vk g Wr)
                (fun pre X X' h hb => by obtain ⟨k, h1, h2⟩ := h; exact ⟨k, h1, h2.go hb⟩) (fun pre X k o o' h hk ho hc hc' => by obtain ⟨j, h1, h2⟩ := h; exact ⟨j, h1, h2.put (by omega) ho hc⟩)
                (fun _ _ X X' h hb => by obtain ⟨h0, k, h1, h2⟩ := h; exact ⟨h0, k, h1, h2.go hb⟩) (fun _ pre X k o o' h hk ho hc hc' => by obtain ⟨h0, j, h1, h2⟩ := h; exact ⟨h0, j, h1, h2.put (by omega) ho hc⟩) ⟨0, ⟨by omega, by omega⟩, hCg⟩ ?body3 ?done3 ?stop3
              case body3 =>
                rintro l pre x W ⟨g, ⟨hg0, hgk⟩, hI⟩ hG
                have x1 := hI.x
                have x2 := hI.f
                have y1 := (hI.below.cell (p := ⟨wb.heap.size, 0, none⟩) (cell_lt hCk.x)).trans hCk.x
                clear hG
                by_cases e : g = (kk : Int)
                · have eb : (g == (kk : Int)) = true := by simpa using e
                  have HE := Lib.hid e
                  clear e
                  simp only [encQ]
                  gi_wp2
                  exact ⟨KeepsFrom.refl _ _, Kq.refl _ _ _, rfl, g, ⟨hg0, hgk⟩, hI⟩
                · have eb : (g == (kk : Int)) = false := by simpa using e
                  have hI2 := hI.set (g + 1)
                  have hg2 : g + 1 ≤ kk := by omega
                  clear e
                  simp only [encQ]
                  gi_wp2
                  exact ⟨keeps_box _ _ _ _ (by omega), Kq.set _ _ (by omega) (by omega), g + 1, ⟨by omega, hg2⟩, hI2⟩
              case done3 =>
                rintro xs W hxs ⟨g, ⟨hg0, hgk⟩, hI⟩ hD3
                have x1 := (hI.below.cell (p := ⟨V9.heap.size, 0, none⟩) (show V9.heap.size < Vk.heap.size by have := hCb.lt; omega)).trans ((hCk.below.cell (p := ⟨V9.heap.size, 0, none⟩) hCb.lt).trans hCb.x)
                have hTW := hT9.go (hb9k.trans (hI.below.mono (by omega)))
                have x2 := hTW.x
                have x3 := (hI.below.cell (p := ⟨wb.heap.size, 0, none⟩) (cell_lt hCk.x)).trans hCk.x
                have x4 := hI.x
                have hb7W : Below V7.heap.size V7 W := hb7b.trans (hI.below.mono hs7k)
                have r1 := (hb7W.cell (p := ⟨w.heap.size + 1, 0, none⟩) (cell_lt hRr.r)).trans hRr.r
                have r2 := (hb7W.frozen (p := ⟨w.heap.size + 1, 0, none⟩) (cell_lt hRr.r)).trans hRr.rf
                have hBW := hRr.below.trans (hb7W.mono hRr.below.size)
                have d1 := (hb7W.block _ (Array.getElem?_eq_some_iff.1 hD).1).trans hD
                have d2 := (hI.below.block _ (show wa.heap.size < Vk.heap.size by omega)).trans ((hCk.below.block _ hlt9).trans hD2)
                have hwN : w.heap.size + 1 < wN.heap.size := by omega
                rw [hz5] at d1
                rw [hza] at d2
                skip
                clear hTW hI
                gi_wp2
                exact told_finish w W _ _ _ _ r1 hBW hD3 d2 d1 (by omega) (by omega) (by omega) (by omega) (by omega) (by omega) rfl
              case stop3 =>
                rintro cd pre W hSp ⟨rfl, g, ⟨hg0, hgk⟩, hI⟩ hD3
                have x1 := (hI.below.cell (p := ⟨V9.heap.size, 0, none⟩) (show V9.heap.size < Vk.heap.size by have := hCb.lt; omega)).trans ((hCk.below.cell (p := ⟨V9.heap.size, 0, none⟩) hCb.lt).trans hCb.x)
                have hTW := hT9.go (hb9k.trans (hI.below.mono (by omega)))
                have x2 := hTW.x
                have x3 := (hI.below.cell (p := ⟨wb.heap.size, 0, none⟩) (cell_lt hCk.x)).trans hCk.x
                have x4 := hI.x
                have hb7W : Below V7.heap.size V7 W := hb7b.trans (hI.below.mono hs7k)
                have r1 := (hb7W.cell (p := ⟨w.heap.size + 1, 0, none⟩) (cell_lt hRr.r)).trans hRr.r
                have r2 := (hb7W.frozen (p := ⟨w.heap.size + 1, 0, none⟩) (cell_lt hRr.r)).trans hRr.rf
                have hBW := hRr.below.trans (hb7W.mono hRr.below.size)
                have d1 := (hb7W.block _ (Array.getElem?_eq_some_iff.1 hD).1).trans hD
                have d2 := (hI.below.block _ (show wa.heap.size < Vk.heap.size by omega)).trans ((hCk.below.block _ hlt9).trans hD2)
                have hwN : w.heap.size + 1 < wN.heap.size := by omega
                rw [hz5] at d1
                rw [hza] at d2
                skip
                clear hTW hI
                gi_wp2
                exact told_finish w W _ _ _ _ r1 hBW hD3 d2 d1 (by omega) (by omega) (by omega) (by omega) (by omega) (by omega) rfl

theorem bs_one (s : ByteArray) (h : s.size ≤ maxLen) : ∃ t : List UInt8, s = bs t ∧ t.length ≤ 9223372036854775807 := by
  refine ⟨s.data.toList, (bs_of s).symm, ?_⟩
  have : maxLen = 9223372036854775807 := by decide
  have h2 : s.data.toList.length = s.size := rfl
  omega
theorem told_law (sa : Value) (la : List Int) (h0 a0 n0 : Int) (t0 : ByteArray) (many : Int) (w : World) (ha : IV w sa la)
    (b0 : -9223372036854775808 ≤ h0 ∧ h0 ≤ 9223372036854775807) (b1 : -9223372036854775808 ≤ a0 ∧ a0 ≤ 9223372036854775807) (b2 : -9223372036854775808 ≤ n0 ∧ n0 ≤ 9223372036854775807) (b3 : t0.size ≤ maxLen) (bm : -9223372036854775808 ≤ many ∧ many ≤ 9223372036854775807) (hla : la.length ≤ 9223372036854775807) :
    Calls Try.prog 3 #[sa, .agg #[.int .i64 h0, .int .i64 a0, .int .i64 n0, .string t0], .int .i64 many] w fun e w' => e = .returned (.bool true) ∧ Below w.heap.size w w' := by
  obtain ⟨x0, rfl, hx0⟩ := bs_one t0 b3
  exact callsIn_wide.1 (told_in sa la h0 a0 n0 x0 many w ha hla hx0 bm)

end Go.Proofs.Ytgbhfhdhmkmpcaa.Trees


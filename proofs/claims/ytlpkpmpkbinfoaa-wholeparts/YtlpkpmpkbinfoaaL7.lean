/-
  The walk of the law WholeParts: it returns true, for every two arguments of its kind; old memory stays.
-/
import Derived.Test.YtlpkpmpkbinfoaaP1
import Derived.RangeFuncBox
import Derived.RangeFuncWrites
namespace Go.Proofs.Ytlpkpmpkbinfoaa.Whole
open Go.RowKit Go.Shelf
attribute [local go_sem] Oper.semAt_some
set_option linter.unusedVariables false

theorem new_cell (W : World) (v : Value) (t : TypeId) : (W.alloc (.cells #[v] t)).cell? ⟨W.heap.size, 0, none⟩ = some v ∧ (W.alloc (.cells #[v] t)).frozen? ⟨W.heap.size, 0, none⟩ = false := ⟨(Boxed.new W t v).cell, (Boxed.new W t v).frozen⟩
theorem old_cell {W : World} {b : Addr} {v : Value} (o : Obj) (h : W.cell? b = some v) : (W.alloc o).cell? b = some v := cell_kept h (World.grownBy_alloc W o none) (fun r e => by cases e)
theorem old_frozen {W : World} {b : Addr} {v : Value} (o : Obj) (h : W.cell? b = some v) (hf : W.frozen? b = false) : (W.alloc o).frozen? b = false := (frozen_kept h (World.grownBy_alloc W o none) (fun r e => by cases e)).trans hf

/-- What the slice of pairs is where it holds something: its cells, in a block below top. -/
def Pairs (top : Nat) (W : World) (a : Option Addr) (l : List (Int × Int)) : Prop :=
  l ≠ [] → ∃ g, g < top ∧ a = some ⟨g, 0, none⟩ ∧ ∀ j u, (flat l)[j]? = some u → W.cell? ⟨g, j, none⟩ = some u

theorem pairs_of_row {W : World} {base : Nat} {v : Value} {l : List (Int × Int)} (h : W.ownsRow base 38 2 v l.length (flat l)) : ∃ a cap, v = .slice a l.length cap ∧ l.length ≤ cap ∧ cap ≤ maxLen ∧ Pairs W.heap.size W a l := by
  have h' := h
  rcases h.2 with ⟨rfl, h0⟩ | ⟨g, cap, cur, rfl, _, hblk, hc1, hc2, _, _⟩
  · exact ⟨none, 0, by rw [h0], by omega, by unfold maxLen; omega, fun hn => absurd (List.length_eq_zero_iff.1 h0) hn⟩
  · refine ⟨some ⟨g, 0, none⟩, cap, rfl, hc1, hc2, fun _ => ⟨g, (Array.getElem?_eq_some_iff.1 hblk).1, rfl, fun j u hj => ?_⟩⟩
    have hlt : j < (flat l).length := (List.getElem?_eq_some_iff.1 hj).1
    rw [h.1] at hlt
    rw [h'.cellAt j hlt]; exact hj

/-- The pairs of the reference, the result, still false: what both loops keep. -/
def Base (w w1 : World) (a : Option Addr) (cap : Nat) (x : Int) (W : World) : Prop :=
  W.cell? ⟨w1.heap.size, 0, none⟩ = some (.slice a (partsOf x).length cap) ∧ W.cell? ⟨w.heap.size, 0, none⟩ = some (.bool false) ∧ W.frozen? ⟨w.heap.size, 0, none⟩ = false ∧ Pairs w1.heap.size W a (partsOf x)
/-- A counter in a box. -/
def Cnt (b : Nat) (k : Int) (W : World) : Prop := W.cell? ⟨b, 0, none⟩ = some (.int .i64 k) ∧ W.frozen? ⟨b, 0, none⟩ = false

theorem Base.kept {w w1 W W' : World} {a : Option Addr} {cap : Nat} {x : Int} (h : Base w w1 a cap x W) {row : Option Nat} (hg : W.grownBy W' row) (hr : ∀ r, row = some r → ∃ o : Obj, W.heap[r]? = some o ∧ o.isCells = false) : Base w w1 a cap x W' :=
  ⟨cell_kept h.1 hg hr, cell_kept h.2.1 hg hr, (frozen_kept h.2.1 hg hr).trans h.2.2.1, fun hn => let ⟨g, hlt, e, hc⟩ := h.2.2.2 hn; ⟨g, hlt, e, fun j u hj => cell_kept (hc j u hj) hg hr⟩⟩
theorem Cnt.kept {W W' : World} {b : Nat} {k : Int} (h : Cnt b k W) {row : Option Nat} (hg : W.grownBy W' row) (hr : ∀ r, row = some r → ∃ o : Obj, W.heap[r]? = some o ∧ o.isCells = false) : Cnt b k W' :=
  ⟨cell_kept h.1 hg hr, (frozen_kept h.1 hg hr).trans h.2⟩

theorem Base.alloc {w w1 W : World} {a : Option Addr} {cap : Nat} {x : Int} (h : Base w w1 a cap x W) (o : Obj) : Base w w1 a cap x (W.alloc o) := h.kept (World.grownBy_alloc W o none) (fun r e => by cases e)
theorem Cnt.alloc {W : World} {b : Nat} {k : Int} (h : Cnt b k W) (o : Obj) : Cnt b k (W.alloc o) := h.kept (World.grownBy_alloc W o none) (fun r e => by cases e)
theorem Base.start {w w1 : World} {a : Option Addr} {cap : Nat} {x : Int} (t : TypeId) (h1 : w1.cell? ⟨w.heap.size, 0, none⟩ = some (.bool false)) (h2 : w1.frozen? ⟨w.heap.size, 0, none⟩ = false) (h3 : Pairs w1.heap.size w1 a (partsOf x)) : Base w w1 a cap x (w1.alloc (.cells #[.slice a (partsOf x).length cap] t)) :=
  ⟨(new_cell w1 _ t).1, old_cell _ h1, old_frozen _ h1 h2, fun hn => let ⟨g, hlt, e, hc⟩ := h3 hn; ⟨g, hlt, e, fun j u hj => old_cell _ (hc j u hj)⟩⟩
theorem Cnt.start (W : World) (k : Int) (t : TypeId) : Cnt W.heap.size k (W.alloc (.cells #[.int .i64 k] t)) := new_cell W _ t

theorem cell_other (W : World) (b b' o : Nat) (u : Value) (h : b' ≠ b) : (W.setCell ⟨b, 0, none⟩ u).cell? ⟨b', o, none⟩ = W.cell? ⟨b', o, none⟩ :=
  World.cell?_of_block (Below.heap_setCell W ⟨b, 0, none⟩ u b' h)
theorem Base.set {w w1 W : World} {a : Option Addr} {cap : Nat} {x : Int} (h : Base w w1 a cap x W) (h1 : w.heap.size < w1.heap.size) (b : Nat) (hb : w1.heap.size < b) (u : Value) : Base w w1 a cap x (W.setCell ⟨b, 0, none⟩ u) :=
  ⟨(cell_other W b _ _ u (by omega)).trans h.1, (cell_other W b _ _ u (by omega)).trans h.2.1, (World.frozen?_setCell _ _ _ _).trans h.2.2.1,
    fun hn => let ⟨g, hlt, e, hc⟩ := h.2.2.2 hn; ⟨g, hlt, e, fun j v hj => (cell_other W b _ _ u (by omega)).trans (hc j v hj)⟩⟩
theorem Cnt.set {W : World} {b : Nat} {k : Int} (h : Cnt b k W) (k' : Int) : Cnt b k' (W.setCell ⟨b, 0, none⟩ (.int .i64 k')) :=
  ⟨World.cell?_setCell_same' _ _ _ (by rw [h.1]; rfl), (World.frozen?_setCell _ _ _ _).trans h.2⟩
theorem Cnt.other {W : World} {b : Nat} {k : Int} (h : Cnt b k W) (b' : Nat) (hb : b ≠ b') (u : Value) : Cnt b k (W.setCell ⟨b', 0, none⟩ u) :=
  ⟨(cell_other W b' _ _ u hb).trans h.1, (World.frozen?_setCell _ _ _ _).trans h.2⟩

theorem flat_fst : ∀ (l : List (Int × Int)) (k : Nat) (h : k < l.length), (flat l)[k * 2]? = some (.int .i64 l[k].1) ∧ (flat l)[k * 2 + 1]? = some (.int .i64 l[k].2)
  | p :: l, 0, _ => by simp [flat]
  | p :: l, k + 1, h => by
    have := flat_fst l k (by simpa using h)
    have e : flat (p :: l) = .int .i64 p.1 :: .int .i64 p.2 :: flat l := by simp [flat]
    rw [e, show (k + 1) * 2 = k * 2 + 1 + 1 by omega]
    simpa using this

/-- One more of the pairs goes on; any other one does not. -/
theorem goes_on (l pre : List (Int × Int)) (hp : pre <+: l) (h : pre.length < l.length) (p : Int × Int) : (pre ++ [p]) <+: l ↔ p = l[pre.length] := by
  obtain ⟨r, rfl⟩ := hp
  cases r with
  | nil => simp at h
  | cons q r =>
    constructor
    · rintro ⟨s, hs⟩
      simp at hs
      simp [hs.1]
    · intro e
      simp at e
      exact ⟨r, by simp [e]⟩

/-- Where the first loop is. -/
def I1 (w w1 : World) (a : Option Addr) (cap : Nat) (x : Int) (pre : List (Int × Int)) (W : World) : Prop :=
  (Base w w1 a cap x W ∧ Cnt (w1.heap.size + 1 + 1) pre.length W ∧ pre <+: partsOf x) ∧ Below w.heap.size w W
/-- Where a round leaves it: never at what is told. -/
def X1 (x : Int) (_ : Code) (pre : List (Int × Int)) (_ : World) : Prop := ¬ pre <+: partsOf x

/-- Where the second loop is: V is the world behind the first one. -/
def I2 (w w1 V : World) (a : Option Addr) (cap : Nat) (x take : Int) (D : Nat) (pre : List (Int × Int)) (W : World) : Prop :=
  ((Base w w1 a cap x W ∧ Cnt (V.heap.size + 1) pre.length W ∧ Cnt V.heap.size take W ∧ pre <+: partsOf x ∧ (pre.length : Int) ≤ take) ∧ W.heap[D]? = some (.deferred (some []))) ∧ Below w.heap.size w W
/-- Where a round leaves it: as many as are taken have come, and one more; or at what is not told. -/
def X2 (w w1 V : World) (a : Option Addr) (cap : Nat) (x take : Int) (D : Nat) (c : Code) (pre : List (Int × Int)) (W : World) : Prop :=
  (((c = .exit 2 ∧ (pre.length : Int) = take + 1) ∧ (Base w w1 a cap x W ∧ Cnt (V.heap.size + 1) take W ∧ Cnt V.heap.size take W) ∧ W.heap[D]? = some (.deferred (some []))) ∧ Below w.heap.size w W) ∨ ¬ pre <+: partsOf x

theorem heap_own {β : Type} {B D : Nat} (h : D < B) (o : Obj) : OwnFrom B (fun (_ : β) W => W.heap[D]? = some o) :=
  fun _ W W' row hs hg hr => (hg.block D (Array.getElem?_eq_some_iff.1 hs).1 (fun e => by have := (hr D e.symm).1; omega)).trans hs

/-- The return: the result is true, behind the rounds' two marks. -/
theorem finish (w W : World) (tmps : Array Value) (E D : Nat) (hr : W.cell? ⟨w.heap.size, 0, none⟩ = some (.bool false)) (hB : Below w.heap.size w W) (hE : W.heap[E]? = some (.deferred (some []))) (hD : W.heap[D]? = some (.deferred (some []))) (hne : D ≠ E) (hE1 : w.heap.size ≤ E) (hD1 : w.heap.size ≤ D)
    (ht : tmps[4]? = some (.pointer (some ⟨w.heap.size, 0, none⟩))) :
    LeavesInM Fence.wide 9 Try.prog Try.f8 tmps (fun e w' => e = .returned (.bool true) ∧ Below w.heap.size w w') [{ target := .collected E, args := #[] }, { target := .collected D, args := #[] }] .returning (W.setCell ⟨w.heap.size, 0, none⟩ (.bool true)) := by
  have k1 := (KeepsOthers.setCell W ⟨w.heap.size, 0, none⟩ (.bool true)).same E _ hE rfl
  have k2 := (KeepsOthers.setCell W ⟨w.heap.size, 0, none⟩ (.bool true)).same D _ hD rfl
  have k3 : ((W.setCell ⟨w.heap.size, 0, none⟩ (.bool true)).putObj E (.deferred none)).heap[D]? = some (.deferred (some [])) := (World.putObj_heap_other hne).trans k2
  have c1 := World.cell?_setCell_same' W ⟨w.heap.size, 0, none⟩ (.bool true) (by rw [hr]; rfl)
  have c2 := cell_kept c1 (grownBy_putObj' _ E (.deferred none)) (fun r e => by cases e; exact ⟨_, k1, rfl⟩)
  have c3 := cell_kept c2 (grownBy_putObj' _ D (.deferred none)) (fun r e => by cases e; exact ⟨_, k3, rfl⟩)
  have b1 := hB.setCell (p := ⟨w.heap.size, 0, none⟩) (Nat.le_refl _) (.bool true)
  have b2 := b1.trans (belowK_b (w := w) (Nat.le_refl _) _ E _ (.deferred none) hE1 k1 rfl rfl)
  have b3 := b2.trans (belowK_b (w := w) (Nat.le_refl _) _ D _ (.deferred none) hD1 k3 rfl rfl)
  refine ⟨by simp, .inl ⟨_, _, rfl, run_takeDeferred k1, ?_⟩⟩
  refine ⟨by simp, .inl ⟨_, _, rfl, run_takeDeferred k3, ?_⟩⟩
  refine ⟨.bool true, ?_, rfl, b3⟩
  simp [results, Try.f8, go_sem, c3, ht]

/-- What Parts hands back is not nil. -/
theorem seq_not_nil (lb : Array Value) (W : World) : (binOp BinOp.eql 35 (.func (.func 28) #[] lb) .nilFunc).run Try.prog W = .ok (.bool false) W := by
  kernel_rfl

set_option maxRecDepth 100000 in
set_option maxHeartbeats 2000000 in
theorem parts_walk_in (n many : Int) (w : World) (bn : -9223372036854775808 ≤ n ∧ n ≤ 9223372036854775807) (bm : -9223372036854775808 ≤ many ∧ many ≤ 9223372036854775807) :
    CallsIn Fence.wide 9 Try.prog 8 #[.int .i64 n, .int .i64 many] w fun e w' => e = .returned (.bool true) ∧ Below w.heap.size w w' := by
  have x1 : -8388608 ≤ n / 1099511627776 := by omega
  have x2 : n / 1099511627776 ≤ 8388607 := by omega
  refine callsIn_of_wp_marks Try.func8 rfl trivial ?_ rfl
  simp only [Try.ntmps8, List.size_toArray, List.length_cons, List.length_nil, Nat.reduceAdd, Nat.reduceSub, Array.replicate_succ, Array.replicate_zero, List.push_toArray, List.append_toArray, List.nil_append, List.cons_append]
  gi_wp2_with (refine ⟨trivial, ?_⟩; gi_at_call 10; refine (callsIn_wide.2 (awake_yes _)).mono ?_; rintro e w' ⟨rfl, n0, rfl⟩)
  generalize n / 1099511627776 = x at *
  refine ⟨trivial, (callsIn_wide.2 (rparts x _ (by omega) (by omega))).mono ?_⟩
  rintro e w1 ⟨v, rfl, hrow, hB1⟩
  obtain ⟨a, cap, rfl, hc1, hc2, hpr⟩ := pairs_of_row hrow
  have hs1 : w.heap.size + 1 ≤ w1.heap.size := by have := hB1.size; simpa using this
  have hr1 : w1.cell? ⟨w.heap.size, 0, none⟩ = some (.bool false) := (hB1.cell (p := ⟨w.heap.size, 0, none⟩) (by simp)).trans (by simp)
  have hf1 : w1.frozen? ⟨w.heap.size, 0, none⟩ = false := (hB1.frozen (p := ⟨w.heap.size, 0, none⟩) (by simp)).trans (by simp)
  have hBw : Below w.heap.size w w1 := (below_drewN ((Below.refl _ w).alloc (Nat.le_refl _) _) n0).trans (hB1.mono (by simp))
  have HPR := Lib.hid hpr
  have hshort := partsOf_short x (by omega) (by omega)
  clear hrow hB1 hpr
  unfold maxLen at hc2
  have hnn := seq_not_nil
  gi_wp2_with (refine ⟨trivial, ?_⟩; gi_at_call 17; refine (callsIn_wide.2 (parts_call _ _)).mono ?_; rintro e w' ⟨rfl, rfl⟩)
  have c2 := new_cell (w1.alloc (.cells #[.slice a (partsOf x).length cap] 32)) (.int .i64 x) 2
  have c3 := Cnt.start ((w1.alloc (.cells #[.slice a (partsOf x).length cap] 32)).alloc (.cells #[.int .i64 x] 2)) 0 3
  simp only [World.size_alloc] at c2 c3
  have hb0 := Base.start (cap := cap) 32 hr1 hf1 HPR.out
  have hB0 : Below w.heap.size w (((w1.alloc (.cells #[.slice a (partsOf x).length cap] 32)).alloc (.cells #[.int .i64 x] 2)).alloc (.cells #[.int .i64 0] 3)) := ((hBw.alloc (by omega) _).alloc (by simp; omega) _).alloc (by simp; omega) _
  refine wpIn_rangeFunc_ownF rfl (by omega) (gf := 28) (lb := #[.pointer (some ⟨w1.heap.size + 1, 0, none⟩)]) rfl trivial (enters_of Try.func28 (by kernel_rfl) rfl)
    (parts_stops 8 (w1.heap.size + 1) x _ (by omega) (by omega) (by omega) (by simp only [World.size_alloc]; omega) (old_cell _ c2.1)) (fun _ _ => trivial) (fun _ _ _ _ _ _ _ _ => trivial) (Below.refl _ _) (fun _ => rfl)
    (I1 w w1 a cap x) (X1 x)
    (OwnFrom.and (Own.from (fun s A B row hs hg hr => ⟨hs.1.kept hg hr, hs.2.1.kept hg hr, hs.2.2⟩) _) (ownFrom_below (Nat.le_refl _) (by simp; omega)))
    (fun _ _ _ _ _ hs _ _ => hs)
    ?start
    (fun p => { tmps := #[.int .i64 n, .int .i64 many, undef, undef, .pointer (some ⟨w.heap.size, 0, none⟩), .bool true, .int .i64 x, .pointer (some ⟨w1.heap.size, 0, none⟩), .func (.func 28) #[] #[.pointer (some ⟨w1.heap.size + 1, 0, none⟩)], .pointer (some ⟨w1.heap.size + 1 + 1, 0, none⟩), .int .i64 p.1, .int .i64 p.2, undef, undef, undef, undef, undef, .bool true, .int .i64 n, .int .i64 x, .int .i64 x, .slice a (partsOf x).length cap, .int .i64 x, .func (.func 28) #[] #[.pointer (some ⟨w1.heap.size + 1, 0, none⟩)], .func (.func 28) #[] #[.pointer (some ⟨w1.heap.size + 1, 0, none⟩)], .bool false, .func (.func 28) #[] #[.pointer (some ⟨w1.heap.size + 1, 0, none⟩)], .int .i64 p.1, .int .i64 p.2, undef, undef, undef, undef, undef, undef, undef, undef, undef, undef, undef, undef, undef, undef, undef, undef, undef, undef, undef, undef, undef, undef, undef, undef, undef, undef, undef, undef, undef, undef, undef, undef, undef, undef, undef, undef, undef, undef, undef, undef, undef, undef, undef, undef, undef, undef, undef, undef, undef, undef, undef, undef, undef, undef, undef, undef, undef, undef, undef, undef, undef, undef, undef, undef, undef, undef, undef, undef, undef], defers := [] }) ?assign ?body ?done ?stop
  case start => exact ⟨⟨(hb0.alloc _).alloc _, c3, ⟨_, rfl⟩⟩, hB0⟩
  case assign =>
    intro l p W K hK
    gi_wp2
    exact hK
  case body =>
    rintro l pre ⟨p, q⟩ W ⟨⟨hb, hcn, hpre⟩, hB⟩ hlen
    have hne : partsOf x ≠ [] := by intro h; rw [h] at hlen; simp at hlen
    obtain ⟨g, hg, rfl, hcs⟩ := hb.2.2.2 hne
    obtain ⟨f0, f1⟩ := flat_fst (partsOf x) pre.length hlen
    have k0 := hcs _ _ f0
    have k1 := hcs _ _ f1
    have hgo := goes_on (partsOf x) pre hpre hlen (p, q)
    clear f0 f1 hcs hne
    obtain ⟨cw, cr, fr, hpairs⟩ := hb
    obtain ⟨ci, fi⟩ := hcn
    have HB := Lib.hid hB
    have HP := Lib.hid hpairs
    have hl1 : ((pre ++ [(p, q)]).length : Int) = (pre.length : Int) + 1 := by simp
    have HL := Lib.hid hl1
    have i1 : ((pre.length : Nat) : Int) < ((partsOf x).length : Int) := by omega
    have i2 : 0 ≤ ((pre.length : Nat) : Int) := by omega
    clear hB hpairs hr1 hf1 hnn c2 c3 hb0 hB0 hl1
    generalize (partsOf x)[pre.length] = y at *
    obtain ⟨y1, y2⟩ := y
    by_cases e : (p, q) = (y1, y2)
    · have HG := Lib.hid (hgo.2 e)
      clear hgo
      obtain ⟨rfl, rfl⟩ : p = y1 ∧ q = y2 := by simpa using e
      clear e
      gi_wp2
      exact ⟨KeepsOthers.setCell _ _ _, trivial, ⟨Base.set ⟨cw, cr, fr, HP.out⟩ (by omega) _ (by omega) _, by rw [HL.out]; exact Cnt.set ⟨ci, fi⟩ _, HG.out⟩, HB.out.setCell (p := ⟨w1.heap.size + 1 + 1, 0, none⟩) (by show w.heap.size ≤ w1.heap.size + 1 + 1; omega) _⟩
    · have HG := Lib.hid (mt hgo.1 e)
      clear hgo
      by_cases e1 : p = y1
      · subst e1
        have b2 : (q != y2) = true := by simp at e; simpa using e
        clear e
        gi_wp2
        exact ⟨KeepsOthers.setCell _ _ _, HG.out⟩
      · have b1 : (p != y1) = true := by simpa using e1
        clear e
        gi_wp2
        exact ⟨KeepsOthers.setCell _ _ _, HG.out⟩
  case done =>
    rintro D ys V hD rfl ⟨⟨hb, hcn, _⟩, hB⟩ hK
    have hD' : w1.heap.size + 1 + 1 + 1 ≤ D := by simpa using hD
    have hDV : D < V.heap.size := (Array.getElem?_eq_some_iff.1 hK).1
    have HBS := Lib.hid hb
    obtain ⟨cw, cr, fr, _⟩ := hb
    obtain ⟨ci, fi⟩ := hcn
    have HB := Lib.hid hB
    have HK := Lib.hid hK
    have t1 : -9 < many.tmod 9 := Int.lt_tmod_of_pos many (by omega)
    have t2 : many.tmod 9 < 9 := Int.tmod_lt_of_pos many (by omega)
    clear hB hr1 hf1 c2 c3 hb0 hB0 hK hD
    gi_wp2_with (refine ⟨trivial, ?_⟩; gi_at_call 17; refine (callsIn_wide.2 (parts_call _ _)).mono ?_; rintro e w' ⟨rfl, rfl⟩)
    have t3 : 0 ≤ many.tmod 9 % 9 := by omega
    have t4 : many.tmod 9 % 9 ≤ 8 := by omega
    generalize many.tmod 9 % 9 = take at *
    have c1 := Cnt.start V take 3
    have c2 := Cnt.start (V.alloc (.cells #[.int .i64 take] 3)) 0 3
    have c3 := new_cell ((V.alloc (.cells #[.int .i64 take] 3)).alloc (.cells #[.int .i64 0] 3)) (.int .i64 x) 2
    simp only [World.size_alloc] at c2 c3
    have hB0 : Below w.heap.size w (((V.alloc (.cells #[.int .i64 take] 3)).alloc (.cells #[.int .i64 0] 3)).alloc (.cells #[.int .i64 x] 2)) := ((HB.out.alloc (by omega) _).alloc (by simp only [World.size_alloc]; omega) _).alloc (by simp only [World.size_alloc]; omega) _
    refine wpIn_rangeFunc_ownF rfl (by omega) (gf := 28) (lb := #[.pointer (some ⟨V.heap.size + 1 + 1, 0, none⟩)]) rfl trivial (enters_of Try.func28 (by kernel_rfl) rfl)
      (parts_stops 8 (V.heap.size + 1 + 1) x _ (by omega) (by omega) (by omega) (by simp only [World.size_alloc]; omega) c3.1) (fun _ _ => trivial) (fun _ _ _ _ _ _ _ _ => trivial) (Below.refl _ _) (fun _ => rfl)
      (I2 w w1 V a cap x take D) (X2 w w1 V a cap x take D)
      (OwnFrom.and (OwnFrom.and (Own.from (fun s A B row hs hg hr => ⟨hs.1.kept hg hr, hs.2.1.kept hg hr, hs.2.2.1.kept hg hr, hs.2.2.2⟩) _) (heap_own (by simp only [World.size_alloc]; omega) _)) (ownFrom_below (Nat.le_refl _) (by simp only [World.size_alloc]; omega)))
      ?ownx
      ?start2
      (fun p => { tmps := #[.int .i64 n, .int .i64 many, undef, undef, .pointer (some ⟨w.heap.size, 0, none⟩), .bool true, .int .i64 x, .pointer (some ⟨w1.heap.size, 0, none⟩), .func (.func 28) #[] #[.pointer (some ⟨w1.heap.size + 1, 0, none⟩)], .pointer (some ⟨w1.heap.size + 1 + 1, 0, none⟩), undef, undef, .pointer (some ⟨V.heap.size, 0, none⟩), .pointer (some ⟨V.heap.size + 1, 0, none⟩), .func (.func 28) #[] #[.pointer (some ⟨V.heap.size + 1 + 1, 0, none⟩)], .int .i64 p.1, .int .i64 p.2, .bool true, .int .i64 n, .int .i64 x, .int .i64 x, .slice a (partsOf x).length cap, .int .i64 x, .func (.func 28) #[] #[.pointer (some ⟨w1.heap.size + 1, 0, none⟩)], .func (.func 28) #[] #[.pointer (some ⟨w1.heap.size + 1, 0, none⟩)], .bool false, .func (.func 28) #[] #[.pointer (some ⟨w1.heap.size + 1, 0, none⟩)], undef, undef, undef, undef, undef, undef, undef, undef, undef, undef, undef, undef, undef, undef, undef, undef, undef, undef, undef, undef, undef, undef, undef, undef, undef, undef, .int .i64 (partsOf x).length, .slice a (partsOf x).length cap, .int .i64 (partsOf x).length, .bool false, .int .i64 many, .int .i64 (many.tmod 9), .int .i64 (many.tmod 9 + 9), .int .i64 take, .int .i64 x, .func (.func 28) #[] #[.pointer (some ⟨V.heap.size + 1 + 1, 0, none⟩)], .func (.func 28) #[] #[.pointer (some ⟨V.heap.size + 1 + 1, 0, none⟩)], .bool false, .func (.func 28) #[] #[.pointer (some ⟨V.heap.size + 1 + 1, 0, none⟩)], .int .i64 p.1, .int .i64 p.2, undef, undef, undef, undef, undef, undef, undef, undef, undef, undef, undef, undef, undef, undef, undef, undef, undef, undef, undef, undef, undef, undef, undef, undef, undef, undef, undef, undef, undef, undef], defers := [] }) ?assign2 ?body2 ?done2 ?stop2
    case ownx =>
      rintro c s A B row (h | h) hg hr
      · refine .inl ?_
        refine OwnFrom.and (β := Unit) (I := fun _ W => (c = .exit 2 ∧ (s.length : Int) = take + 1) ∧ (Base w w1 a cap x W ∧ Cnt (V.heap.size + 1) take W ∧ Cnt V.heap.size take W) ∧ W.heap[D]? = some (.deferred (some []))) (I' := fun _ W => Below w.heap.size w W) ?_ (ownFrom_below (Nat.le_refl _) (by simp only [World.size_alloc]; omega)) () A B row h hg hr
        intro _ A B row hs hg hr
        exact ⟨hs.1, ⟨hs.2.1.1.kept hg (fun r e => (hr r e).2), hs.2.1.2.1.kept hg (fun r e => (hr r e).2), hs.2.1.2.2.kept hg (fun r e => (hr r e).2)⟩, heap_own (β := Unit) (by simp only [World.size_alloc]; omega) _ () A B row hs.2.2 hg hr⟩
      · exact .inr h
    case start2 =>
      refine ⟨⟨⟨((HBS.out.alloc _).alloc _).alloc _, c2.alloc _, (c1.alloc _).alloc _, ⟨_, rfl⟩, by simp; omega⟩, ?_⟩, hB0⟩
      rw [Below.heap_alloc _ _ _ (by simp only [World.size_alloc]; omega), Below.heap_alloc _ _ _ (by simp only [World.size_alloc]; omega), Below.heap_alloc _ _ _ hDV]; exact HK.out
    case assign2 =>
      intro l p W K hK
      gi_wp2
      exact hK
    case body2 =>
      rintro l pre ⟨p, q⟩ W ⟨⟨⟨hb, hcn, hct, hpre, hle⟩, hDD⟩, hB⟩ hlen
      have hne : partsOf x ≠ [] := by intro h; rw [h] at hlen; simp at hlen
      have HBB := Lib.hid hb
      obtain ⟨g, hg, rfl, hcs⟩ := hb.2.2.2 hne
      obtain ⟨f0, f1⟩ := flat_fst (partsOf x) pre.length hlen
      have k0 := hcs _ _ f0
      have k1 := hcs _ _ f1
      have hgo := goes_on (partsOf x) pre hpre hlen (p, q)
      clear f0 f1 hcs hne
      obtain ⟨cw', cr', fr', _⟩ := hb
      obtain ⟨cg, fg⟩ := hcn
      obtain ⟨ct, ft⟩ := hct
      have HBW := Lib.hid hB
      have HDD := Lib.hid hDD
      have hl1 : ((pre ++ [(p, q)]).length : Int) = (pre.length : Int) + 1 := by simp
      have HL := Lib.hid hl1
      have i1 : ((pre.length : Nat) : Int) < ((partsOf x).length : Int) := by omega
      have i2 : 0 ≤ ((pre.length : Nat) : Int) := by omega
      clear hB hDD hnn c1 c2 c3 hB0 hl1 cw cr fr ci fi
      generalize (partsOf x)[pre.length] = y at *
      obtain ⟨y1, y2⟩ := y
      by_cases hk : (pre.length : Int) = take
      · have HT := Lib.hid hk
        have bk : ((pre.length : Int) == take) = true := by simpa using hk
        clear hk hgo
        gi_wp2
        refine ⟨KeepsOthers.refl _, .inl ⟨⟨⟨rfl, by rw [HL.out, HT.out]⟩, ⟨HBB.out, by rw [← HT.out]; exact ⟨cg, fg⟩, ⟨ct, ft⟩⟩, HDD.out⟩, HBW.out⟩⟩
      · have bk : ((pre.length : Int) == take) = false := by simpa using hk
        have hlt : (pre.length : Int) + 1 ≤ take := by omega
        clear hk
        by_cases e : (p, q) = (y1, y2)
        · have HG := Lib.hid (hgo.2 e)
          clear hgo
          obtain ⟨rfl, rfl⟩ : p = y1 ∧ q = y2 := by simpa using e
          clear e
          gi_wp2
          refine ⟨KeepsOthers.setCell _ _ _, trivial, ⟨⟨Base.set HBB.out (by omega) _ (by omega) _, by rw [HL.out]; exact Cnt.set ⟨cg, fg⟩ _, Cnt.other ⟨ct, ft⟩ _ (by omega) _, HG.out, by rw [HL.out]; omega⟩, ?_⟩, HBW.out.setCell (p := ⟨V.heap.size + 1, 0, none⟩) (by show w.heap.size ≤ V.heap.size + 1; omega) _⟩
          rw [Below.heap_setCell _ _ _ _ (by show D ≠ V.heap.size + 1; omega)]; exact HDD.out
        · have HG := Lib.hid (mt hgo.1 e)
          clear hgo
          by_cases e1 : p = y1
          · subst e1
            have b2 : (q != y2) = true := by simp at e; simpa using e
            clear e
            gi_wp2
            exact ⟨KeepsOthers.setCell _ _ _, .inr HG.out⟩
          · have b1 : (p != y1) = true := by simpa using e1
            clear e
            gi_wp2
            exact ⟨KeepsOthers.setCell _ _ _, .inr HG.out⟩
    case done2 =>
      rintro E ys W hE rfl ⟨⟨⟨hb, hcn, hct, _, hle⟩, hDD⟩, hB⟩ hKE
      obtain ⟨cw', cr', fr', _⟩ := hb
      obtain ⟨cg, fg⟩ := hcn
      obtain ⟨ct, ft⟩ := hct
      have HDD := Lib.hid hDD
      have HBW := Lib.hid hB
      have HKE := Lib.hid hKE
      have HE := Lib.hid hE
      clear hB hDD hnn c1 c2 c3 hB0 cw cr fr ci fi hKE hE
      gi_wp2
      all_goals
        have hE' : V.heap.size + 1 + 1 + 1 ≤ E := by have := HE.out; simpa only [World.size_alloc] using this
        first
          | exact finish w W _ E D cr' HBW.out HKE.out HDD.out (by omega) (by omega) (by omega) rfl
          | (have e3 : (((partsOf x).length : Int) == take) = true := by simp; omega
             simp only [e3]
             exact finish w W _ E D cr' HBW.out HKE.out HDD.out (by omega) (by omega) (by omega) rfl)
    case stop2 =>
      rintro E c pre W hE hpre hX hKE
      rcases hX with ⟨⟨⟨rfl, hlen⟩, ⟨hb, hcn, hct⟩, hDD⟩, hB⟩ | hX
      · obtain ⟨cw', cr', fr', _⟩ := hb
        obtain ⟨cg, fg⟩ := hcn
        obtain ⟨ct, ft⟩ := hct
        have HDD := Lib.hid hDD
        have HBW := Lib.hid hB
        have HKE := Lib.hid hKE
        have HE := Lib.hid hE
        have hle : take + 1 ≤ ((partsOf x).length : Int) := by have := hpre.length_le; omega
        clear hB hDD hnn c1 c2 c3 hB0 cw cr fr ci fi hKE hE hlen
        gi_wp2
        all_goals
          have hE' : V.heap.size + 1 + 1 + 1 ≤ E := by have := HE.out; simpa only [World.size_alloc] using this
          exact finish w W _ E D cr' HBW.out HKE.out HDD.out (by omega) (by omega) (by omega) rfl
      · exact absurd hpre hX
  case stop =>
    rintro D c pre W hD hpre hX hK
    exact absurd hpre hX

theorem parts_walk (n many : Int) (w : World) (bn : -9223372036854775808 ≤ n ∧ n ≤ 9223372036854775807) (bm : -9223372036854775808 ≤ many ∧ many ≤ 9223372036854775807) :
    Calls Try.prog 8 #[.int .i64 n, .int .i64 many] w fun e w' => e = .returned (.bool true) ∧ Below w.heap.size w w' :=
  callsIn_wide.1 (parts_walk_in n many w bn bm)
end Go.Proofs.Ytlpkpmpkbinfoaa.Whole

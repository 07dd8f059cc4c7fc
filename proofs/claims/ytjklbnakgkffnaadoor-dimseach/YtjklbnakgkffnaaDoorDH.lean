/-
  The walk of the law DimsEach: it returns true, for every dims and every number; old memory stays.
-/
import Derived.Test.YtjklbnakgkffnaaDoorDA
import Derived.RangeFuncBox
import Derived.RangeFuncWrites
namespace Go.Proofs.YtjklbnakgkffnaaDoor.Dims
open Go.RowKit Go.Shelf
attribute [local go_sem] Oper.semAt_some
set_option linter.unusedVariables false
set_option linter.unusedSimpArgs false

/-! ### What has come -/

/-- The dims of what has come. -/
def bOf (a : D7) (l : List (Fin 7)) : Nat → Int := l.foldl (fun f i => fun j => if j = i.val then a.get i.val else f j) (fun _ => 0)
/-- The place that came last. -/
def lastOf (l : List (Fin 7)) : Int := l.foldl (fun _ i => (i.val : Int)) (-1)
theorem bOf_app (a : D7) (l : List (Fin 7)) (i : Fin 7) : bOf a (l ++ [i]) = fun j => if j = i.val then a.get i.val else bOf a l j := by
  unfold bOf; rw [List.foldl_append]; rfl
theorem lastOf_app (l : List (Fin 7)) (i : Fin 7) : lastOf (l ++ [i]) = i.val := by
  unfold lastOf; rw [List.foldl_append]; rfl
theorem bOf_mem (a : D7) (j : Nat) (hj : j < 7) : ∀ (l : List (Fin 7)) (f : Nat → Int), (l.foldl (fun f i => fun j => if j = i.val then a.get i.val else f j) f) j = if (⟨j, hj⟩ : Fin 7) ∈ l then a.get j else f j
  | [], f => by simp
  | i :: l, f => by
    rw [List.foldl_cons, bOf_mem a j hj l]
    by_cases h : (⟨j, hj⟩ : Fin 7) ∈ l
    · simp [h]
    · by_cases e : j = i.val
      · have : (⟨j, hj⟩ : Fin 7) = i := Fin.ext e
        simp [h, e, this]
      · have : ¬ (⟨j, hj⟩ : Fin 7) = i := fun h => e (congrArg Fin.val h)
        simp [h, e, this]
theorem places_mem (a : D7) (j : Nat) (hj : j < 7) : (⟨j, hj⟩ : Fin 7) ∈ places a ↔ a.get j ≠ 0 := by
  unfold places
  rw [List.mem_filter]
  have all7 : ∀ i : Fin 7, i ∈ ([0, 1, 2, 3, 4, 5, 6] : List (Fin 7)) := by decide
  have := all7 ⟨j, hj⟩
  simp [this]
theorem bOf_all (a : D7) (j : Nat) (hj : j < 7) : bOf a (places a) j = a.get j := by
  unfold bOf
  rw [bOf_mem a j hj]
  by_cases h : a.get j = 0
  · rw [if_neg (fun h' => (places_mem a j hj).1 h' h), h]
  · rw [if_pos ((places_mem a j hj).2 h)]
theorem places_sorted (a : D7) : (places a).Pairwise (· < ·) := by
  unfold places
  exact List.Pairwise.filter _ (by decide)
theorem last_mem : ∀ (l : List (Fin 7)), lastOf l = -1 ∨ ∃ i ∈ l, lastOf l = (i.val : Int) := by
  intro l
  rcases List.eq_nil_or_concat l with rfl | ⟨r, i, rfl⟩
  · exact .inl rfl
  · refine .inr ⟨i, by simp, ?_⟩
    rw [List.concat_eq_append, lastOf_app]
/-- What comes in order comes behind what has come, and is not 0. -/
theorem next_place (a : D7) (pre : List (Fin 7)) (i : Fin 7) (h : (pre ++ [i]) <+: places a) : lastOf pre < i.val ∧ a.get i.val ≠ 0 := by
  obtain ⟨r, hr⟩ := h
  constructor
  · have hs := places_sorted a
    rw [← hr, List.append_assoc, List.pairwise_append] at hs
    rcases last_mem pre with e | ⟨k, hk, e⟩
    · rw [e]; omega
    · have h1 : k < i := hs.2.2 k hk i (by simp)
      rw [e]
      have h2 : k.val < i.val := h1
      omega
  · have hm : i ∈ places a := by rw [← hr]; simp
    exact (places_mem a i.val i.isLt).1 hm

theorem new_cell (W : World) (v : Value) (t : TypeId) : (W.alloc (.cells #[v] t)).cell? ⟨W.heap.size, 0, none⟩ = some v ∧ (W.alloc (.cells #[v] t)).frozen? ⟨W.heap.size, 0, none⟩ = false := ⟨(Boxed.new W t v).cell, (Boxed.new W t v).frozen⟩

/-- A number in a box. -/
def Cnt (b : Nat) (k : Int) (W : World) : Prop := W.cell? ⟨b, 0, none⟩ = some (.int .i64 k) ∧ W.frozen? ⟨b, 0, none⟩ = false ∧ b < W.heap.size
/-- The result's box still holds false. -/
def Res (b : Nat) (W : World) : Prop := W.cell? ⟨b, 0, none⟩ = some (.bool false) ∧ W.frozen? ⟨b, 0, none⟩ = false ∧ b < W.heap.size
theorem Cnt.block {W W' : World} {b : Nat} {k : Int} (h : Cnt b k W) (hs : W.heap.size ≤ W'.heap.size) (hb : W'.heap[b]? = W.heap[b]?) : Cnt b k W' :=
  ⟨(World.cell?_of_block (a := ⟨b, 0, none⟩) hb).trans h.1, (frozen_of_block (a := ⟨b, 0, none⟩) hb).trans h.2.1, by have := h.2.2; omega⟩
theorem Res.block {W W' : World} {b : Nat} (h : Res b W) (hs : W.heap.size ≤ W'.heap.size) (hb : W'.heap[b]? = W.heap[b]?) : Res b W' :=
  ⟨(World.cell?_of_block (a := ⟨b, 0, none⟩) hb).trans h.1, (frozen_of_block (a := ⟨b, 0, none⟩) hb).trans h.2.1, by have := h.2.2; omega⟩
theorem Cnt.set {W : World} {b : Nat} {k : Int} (h : Cnt b k W) (k' : Int) : Cnt b k' (W.setCell ⟨b, 0, none⟩ (.int .i64 k')) :=
  ⟨World.cell?_setCell_same _ _ _ h.1, (World.frozen?_setCell _ _ _ _).trans h.2.1, by rw [World.size_setCell]; exact h.2.2⟩
theorem set_same (W : World) (b b' o : Nat) (u : Value) (h : b' ≠ b) : (W.setCell ⟨b, o, none⟩ u).heap[b']? = W.heap[b']? := Below.heap_setCell W ⟨b, o, none⟩ u b' h
theorem Cnt.other {W : World} {b : Nat} {k : Int} (h : Cnt b k W) (b' o : Nat) (u : Value) (hb : b ≠ b') : Cnt b k (W.setCell ⟨b', o, none⟩ u) :=
  h.block (by rw [World.size_setCell]; exact Nat.le_refl _) (set_same W b' b o u hb)
theorem Res.other {W : World} {b : Nat} (h : Res b W) (b' o : Nat) (u : Value) (hb : b ≠ b') : Res b (W.setCell ⟨b', o, none⟩ u) :=
  h.block (by rw [World.size_setCell]; exact Nat.le_refl _) (set_same W b' b o u hb)
theorem cell_block {W : World} {b o : Nat} {v : Value} (h : W.cell? ⟨b, o, none⟩ = some v) : ∃ c t fz, W.heap[b]? = some (.cells c t fz) := by
  unfold World.cell? at h
  split at h
  · rename_i c e f hb
    exact ⟨c, e, f, hb⟩
  · simp at h
/-- What cells a loop's own marks do not touch. -/
theorem grown_block {W W' : World} {row : Option Nat} (hg : W.grownBy W' row) (hr : ∀ r, row = some r → ∃ o : Obj, W.heap[r]? = some o ∧ o.isCells = false) {b o : Nat} {v : Value} (h : W.cell? ⟨b, o, none⟩ = some v) : W'.heap[b]? = W.heap[b]? := by
  obtain ⟨c, t, fz, hb⟩ := cell_block h
  refine hg.block b (Array.getElem?_eq_some_iff.1 hb).1 (fun e => ?_)
  obtain ⟨o', ho, hc⟩ := hr b e.symm
  rw [hb] at ho
  injection ho with ho
  subst ho
  simp [Obj.isCells] at hc
theorem grown_size {W W' : World} {row : Option Nat} (hg : W.grownBy W' row) : W.heap.size ≤ W'.heap.size := hg.size

theorem seq_not_nil (lb : Array Value) (W : World) : (binOp BinOp.eql 56 (.func (.func 58) #[] lb) .nilFunc).run Tryd.prog W = .ok (.bool false) W := by
  kernel_rfl

/-- What both loops keep: the dims, and the result. -/
def Base (w : World) (a : D7) (W : World) : Prop := Lies7 W w.heap.size a.get ∧ Res (w.heap.size + 1) W
theorem Base.grown {w W W' : World} {a : D7} (h : Base w a W) {row : Option Nat} (hg : W.grownBy W' row) (hr : ∀ r, row = some r → ∃ o : Obj, W.heap[r]? = some o ∧ o.isCells = false) : Base w a W' :=
  ⟨h.1.block (grown_size hg) (grown_block hg hr (h.1.1 0 (by omega))), h.2.block (grown_size hg) (grown_block hg hr h.2.1)⟩
theorem Base.set {w W : World} {a : D7} (h : Base w a W) (b o : Nat) (u : Value) (hb : w.heap.size + 1 < b) : Base w a (W.setCell ⟨b, o, none⟩ u) :=
  ⟨h.1.other b o u (by omega), h.2.other b o u (by omega)⟩

/-- Where the first loop is. -/
def I1 (w : World) (a : D7) (B : Nat) (pre : List (Fin 7)) (W : World) : Prop :=
  (Base w a W ∧ Lies7 W (B + 1) (bOf a pre) ∧ Cnt (B + 1 + 1) (lastOf pre) W ∧ Cnt (B + 1 + 1 + 1) pre.length W) ∧ Below w.heap.size w W

theorem I1.own (w : World) (a : D7) (B B' : Nat) (hB : w.heap.size ≤ B') : OwnFrom B' (I1 w a B) :=
  OwnFrom.and (fun s W W' row hs hg hr => by
    have hr' : ∀ r, row = some r → ∃ o : Obj, W.heap[r]? = some o ∧ o.isCells = false := fun r e => (hr r e).2
    exact ⟨hs.1.grown hg hr', hs.2.1.block (grown_size hg) (grown_block hg hr' (hs.2.1.1 0 (by omega))), hs.2.2.1.block (grown_size hg) (grown_block hg hr' hs.2.2.1.1), hs.2.2.2.block (grown_size hg) (grown_block hg hr' hs.2.2.2.1)⟩) (ownFrom_below (Nat.le_refl _) hB)

/-- Where the second loop is: V is the world behind the first one, D its mark. -/
def K2 (w : World) (a : D7) (B : Nat) (V : World) (k got : Int) (D : Nat) (W : World) : Prop :=
  ((Base w a W ∧ Lies7 W (B + 1) a.get ∧ Cnt (B + 1 + 1 + 1) (places a).length W ∧ Cnt V.heap.size k W ∧ Cnt (V.heap.size + 1) got W) ∧ W.heap[D]? = some (.deferred (some []))) ∧ Below w.heap.size w W
def I2 (w : World) (a : D7) (B : Nat) (V : World) (k : Int) (D : Nat) (pre : List (Fin 7)) (W : World) : Prop :=
  K2 w a B V k pre.length D W ∧ (pre.length : Int) ≤ k
/-- Where a round leaves it: as many as are taken have come, and one more. -/
def X2 (w : World) (a : D7) (B : Nat) (V : World) (k : Int) (D : Nat) (c : Code) (pre : List (Fin 7)) (W : World) : Prop :=
  K2 w a B V k k D W ∧ c = .exit 2 ∧ (pre.length : Int) = k + 1

theorem heap_own {β : Type} {B D : Nat} (h : D < B) (o : Obj) : OwnFrom B (fun (_ : β) W => W.heap[D]? = some o) :=
  fun _ W W' row hs hg hr => (hg.block D (Array.getElem?_eq_some_iff.1 hs).1 (fun e => by have := (hr D e.symm).1; omega)).trans hs

theorem K2.own (w : World) (a : D7) (B : Nat) (V : World) (k got : Int) (D B' : Nat) (hB : w.heap.size ≤ B') (hD : D < B') {W W' : World} {row : Option Nat} (hs : K2 w a B V k got D W) (hg : W.grownBy W' row) (hr : ∀ r, row = some r → B' ≤ r ∧ ∃ o : Obj, W.heap[r]? = some o ∧ o.isCells = false) : K2 w a B V k got D W' := by
  have hr' : ∀ r, row = some r → ∃ o : Obj, W.heap[r]? = some o ∧ o.isCells = false := fun r e => (hr r e).2
  obtain ⟨⟨⟨h1, h2, h3, h4, h5⟩, h6⟩, h7⟩ := hs
  exact ⟨⟨⟨h1.grown hg hr', h2.block (grown_size hg) (grown_block hg hr' (h2.1 0 (by omega))), h3.block (grown_size hg) (grown_block hg hr' h3.1), h4.block (grown_size hg) (grown_block hg hr' h4.1), h5.block (grown_size hg) (grown_block hg hr' h5.1)⟩, heap_own (β := Unit) hD _ () W W' row h6 hg hr⟩, ownFrom_below (β := Unit) (Nat.le_refl _) hB () W W' row h7 hg hr⟩

/-- The return: the result is true, behind the rounds' two marks. -/
theorem each_finish (w W : World) (tmps : Array Value) (E D : Nat) (hr : Res (w.heap.size + 1) W) (hB : Below w.heap.size w W) (hE : W.heap[E]? = some (.deferred (some []))) (hD : W.heap[D]? = some (.deferred (some []))) (hne : D ≠ E) (hE1 : w.heap.size ≤ E) (hD1 : w.heap.size ≤ D)
    (ht : tmps[4]? = some (.pointer (some ⟨w.heap.size + 1, 0, none⟩))) :
    LeavesInM Fence.wide 9 Tryd.prog Tryd.f8 tmps (fun e w' => e = .returned (.bool true) ∧ Below w.heap.size w w') [{ target := .collected E, args := #[] }, { target := .collected D, args := #[] }] .returning (W.setCell ⟨w.heap.size + 1, 0, none⟩ (.bool true)) := by
  have k1 := (KeepsOthers.setCell W ⟨w.heap.size + 1, 0, none⟩ (.bool true)).same E _ hE rfl
  have k2 := (KeepsOthers.setCell W ⟨w.heap.size + 1, 0, none⟩ (.bool true)).same D _ hD rfl
  have k3 : ((W.setCell ⟨w.heap.size + 1, 0, none⟩ (.bool true)).putObj E (.deferred none)).heap[D]? = some (.deferred (some [])) := (World.putObj_heap_other hne).trans k2
  have c1 := World.cell?_setCell_same W ⟨w.heap.size + 1, 0, none⟩ (.bool true) hr.1
  have c2 := cell_kept c1 (grownBy_putObj' _ E (.deferred none)) (fun r e => by cases e; exact ⟨_, k1, rfl⟩)
  have c3 := cell_kept c2 (grownBy_putObj' _ D (.deferred none)) (fun r e => by cases e; exact ⟨_, k3, rfl⟩)
  have b1 := hB.setCell (p := ⟨w.heap.size + 1, 0, none⟩) (Nat.le_succ _) (.bool true)
  have b2 := b1.trans (belowK_b (w := w) (Nat.le_refl _) _ E _ (.deferred none) hE1 k1 rfl rfl)
  have b3 := b2.trans (belowK_b (w := w) (Nat.le_refl _) _ D _ (.deferred none) hD1 k3 rfl rfl)
  refine ⟨by simp, .inl ⟨_, _, rfl, run_takeDeferred k1, ?_⟩⟩
  refine ⟨by simp, .inl ⟨_, _, rfl, run_takeDeferred k3, ?_⟩⟩
  refine ⟨.bool true, ?_, rfl, b3⟩
  simp [results, Tryd.f8, go_sem, c3, ht]

set_option maxRecDepth 100000 in
set_option maxHeartbeats 2000000 in
theorem each_walk_in (a : D7) (many : Int) (w : World) (hE : Env w) (fa : Fine a) (bm : -9223372036854775808 ≤ many ∧ many ≤ 9223372036854775807) :
    CallsIn Fence.wide 9 Tryd.prog 8 #[a.v, .int .i64 many] w fun e w' => e = .returned (.bool true) ∧ Below w.heap.size w w' := by
  have hnn := seq_not_nil
  have hEc := each_call a
  simp only [D7.v] at hEc ⊢
  refine callsIn_of_wp_marks Tryd.func8 rfl trivial ?_ rfl
  simp only [Tryd.ntmps8, List.size_toArray, List.length_cons, List.length_nil, Nat.reduceAdd, Nat.reduceSub, Array.replicate_succ, Array.replicate_zero, List.push_toArray, List.append_toArray, List.nil_append, List.cons_append]
  gi_wp2
  have hL0 : Lies7 ((w.alloc (.cells #[.int .i64 a.a0, .int .i64 a.a1, .int .i64 a.a2, .int .i64 a.a3, .int .i64 a.a4, .int .i64 a.a5, .int .i64 a.a6] 39)).alloc (.cells #[.bool false] 4)) w.heap.size a.get := (Lies7.new w a).alloc _
  have hR0 : Res (w.heap.size + 1) ((w.alloc (.cells #[.int .i64 a.a0, .int .i64 a.a1, .int .i64 a.a2, .int .i64 a.a3, .int .i64 a.a4, .int .i64 a.a5, .int .i64 a.a6] 39)).alloc (.cells #[.bool false] 4)) := by
    refine ⟨?_, ?_, ?_⟩ <;> simp [go_sem]
  have hB0 : Below w.heap.size w ((w.alloc (.cells #[.int .i64 a.a0, .int .i64 a.a1, .int .i64 a.a2, .int .i64 a.a3, .int .i64 a.a4, .int .i64 a.a5, .int .i64 a.a6] 39)).alloc (.cells #[.bool false] 4)) := by go_grown
  refine ⟨trivial, (callsIn_wide.2 (awake_yes _ (hE.below hB0))).mono ?_⟩
  rintro e w1 ⟨rfl, hb⟩
  have hL1 := hL0.below hb hL0.2.2
  have hR1 := hR0.block hb.size (hb.block _ hR0.2.2)
  have hB1 := Below.goB hB0 hB0.size hb
  clear hb hL0 hR0 hB0
  obtain ⟨c0, c1, c2, c3, c4, c5, c6⟩ := hL1.cells
  simp only [D7.get] at c0 c1 c2 c3 c4 c5 c6
  gi_wp2_with (refine ⟨trivial, ?_⟩; gi_at_call 28; refine (callsIn_wide.2 (hEc _)).mono ?_; rintro e w' ⟨rfl, rfl⟩)
  clear c0 c1 c2 c3 c4 c5 c6
  have hs1 : w.heap.size + 1 < w1.heap.size := hR1.2.2
  have lE : Lies7 ((((w1.alloc (.cells #[.int .i64 a.a0, .int .i64 a.a1, .int .i64 a.a2, .int .i64 a.a3, .int .i64 a.a4, .int .i64 a.a5, .int .i64 a.a6] 39)).alloc (.cells #[.int .i64 0, .int .i64 0, .int .i64 0, .int .i64 0, .int .i64 0, .int .i64 0, .int .i64 0] 39)).alloc (.cells #[.int .i64 (-1)] 3)).alloc (.cells #[.int .i64 0] 3)) w1.heap.size a.get := (((Lies7.new w1 a).alloc _).alloc _).alloc _
  have lb := Lies7.new (w1.alloc (.cells #[.int .i64 a.a0, .int .i64 a.a1, .int .i64 a.a2, .int .i64 a.a3, .int .i64 a.a4, .int .i64 a.a5, .int .i64 a.a6] 39)) dZero
  simp only [dZero, World.size_alloc] at lb
  replace lb : Lies7 ((((w1.alloc (.cells #[.int .i64 a.a0, .int .i64 a.a1, .int .i64 a.a2, .int .i64 a.a3, .int .i64 a.a4, .int .i64 a.a5, .int .i64 a.a6] 39)).alloc (.cells #[.int .i64 0, .int .i64 0, .int .i64 0, .int .i64 0, .int .i64 0, .int .i64 0, .int .i64 0] 39)).alloc (.cells #[.int .i64 (-1)] 3)).alloc (.cells #[.int .i64 0] 3)) (w1.heap.size + 1) (bOf a []) := ((lb.alloc _).alloc _).congr (fun j _ => zero_get j)
  have cl : Cnt (w1.heap.size + 1 + 1) (-1) ((((w1.alloc (.cells #[.int .i64 a.a0, .int .i64 a.a1, .int .i64 a.a2, .int .i64 a.a3, .int .i64 a.a4, .int .i64 a.a5, .int .i64 a.a6] 39)).alloc (.cells #[.int .i64 0, .int .i64 0, .int .i64 0, .int .i64 0, .int .i64 0, .int .i64 0, .int .i64 0] 39)).alloc (.cells #[.int .i64 (-1)] 3)).alloc (.cells #[.int .i64 0] 3)) := by
    refine ⟨?_, ?_, ?_⟩ <;> simp [go_sem]
  have cn : Cnt (w1.heap.size + 1 + 1 + 1) 0 ((((w1.alloc (.cells #[.int .i64 a.a0, .int .i64 a.a1, .int .i64 a.a2, .int .i64 a.a3, .int .i64 a.a4, .int .i64 a.a5, .int .i64 a.a6] 39)).alloc (.cells #[.int .i64 0, .int .i64 0, .int .i64 0, .int .i64 0, .int .i64 0, .int .i64 0, .int .i64 0] 39)).alloc (.cells #[.int .i64 (-1)] 3)).alloc (.cells #[.int .i64 0] 3)) := by
    refine ⟨?_, ?_, ?_⟩ <;> simp [go_sem]
  have hbs : Base w a ((((w1.alloc (.cells #[.int .i64 a.a0, .int .i64 a.a1, .int .i64 a.a2, .int .i64 a.a3, .int .i64 a.a4, .int .i64 a.a5, .int .i64 a.a6] 39)).alloc (.cells #[.int .i64 0, .int .i64 0, .int .i64 0, .int .i64 0, .int .i64 0, .int .i64 0, .int .i64 0] 39)).alloc (.cells #[.int .i64 (-1)] 3)).alloc (.cells #[.int .i64 0] 3)) := ⟨(((hL1.alloc _).alloc _).alloc _).alloc _, hR1.block (by simp only [World.size_alloc]; omega) (by rw [Below.heap_alloc _ _ _ (by simp only [World.size_alloc]; omega), Below.heap_alloc _ _ _ (by simp only [World.size_alloc]; omega), Below.heap_alloc _ _ _ (by simp only [World.size_alloc]; omega), Below.heap_alloc _ _ _ (by omega)])⟩
  have hB0 : Below w.heap.size w ((((w1.alloc (.cells #[.int .i64 a.a0, .int .i64 a.a1, .int .i64 a.a2, .int .i64 a.a3, .int .i64 a.a4, .int .i64 a.a5, .int .i64 a.a6] 39)).alloc (.cells #[.int .i64 0, .int .i64 0, .int .i64 0, .int .i64 0, .int .i64 0, .int .i64 0, .int .i64 0] 39)).alloc (.cells #[.int .i64 (-1)] 3)).alloc (.cells #[.int .i64 0] 3)) := Below.goB hB1 hB1.size (by go_grown)
  have hsz : (((((w1.alloc (.cells #[.int .i64 a.a0, .int .i64 a.a1, .int .i64 a.a2, .int .i64 a.a3, .int .i64 a.a4, .int .i64 a.a5, .int .i64 a.a6] 39)).alloc (.cells #[.int .i64 0, .int .i64 0, .int .i64 0, .int .i64 0, .int .i64 0, .int .i64 0, .int .i64 0] 39)).alloc (.cells #[.int .i64 (-1)] 3)).alloc (.cells #[.int .i64 0] 3))).heap.size = w1.heap.size + 1 + 1 + 1 + 1 := by simp only [World.size_alloc]
  clear hL1 hR1 hB1
  generalize ((((w1.alloc (.cells #[.int .i64 a.a0, .int .i64 a.a1, .int .i64 a.a2, .int .i64 a.a3, .int .i64 a.a4, .int .i64 a.a5, .int .i64 a.a6] 39)).alloc (.cells #[.int .i64 0, .int .i64 0, .int .i64 0, .int .i64 0, .int .i64 0, .int .i64 0, .int .i64 0] 39)).alloc (.cells #[.int .i64 (-1)] 3)).alloc (.cells #[.int .i64 0] 3)) = Wl at *
  refine wpIn_rangeFunc_ownF rfl (by omega) (gf := 58) (lb := #[.pointer (some ⟨w1.heap.size, 0, none⟩)]) rfl trivial (enters_of Tryd.func58 (by kernel_rfl) rfl)
    (each_stops 8 w1.heap.size a _ (by omega) lE) (fun _ _ => trivial) (fun _ _ _ _ _ _ _ _ => trivial) (Below.refl _ _) (fun _ => rfl)
    (I1 w a w1.heap.size) (fun _ pre _ => ¬ pre <+: places a)
    (I1.own w a _ _ (by omega))
    (fun _ _ _ _ _ hs _ _ => hs)
    ⟨⟨hbs, lb, cl, cn⟩, hB0⟩
    (fun i => { tmps := #[.agg #[.int .i64 a.a0, .int .i64 a.a1, .int .i64 a.a2, .int .i64 a.a3, .int .i64 a.a4, .int .i64 a.a5, .int .i64 a.a6], .int .i64 many, .pointer (some ⟨w.heap.size, 0, none⟩), undef, .pointer (some ⟨w.heap.size + 1, 0, none⟩), .bool true, (.func (.func 58) #[] #[.pointer (some ⟨w1.heap.size, 0, none⟩)]), .pointer (some ⟨w1.heap.size + 1, 0, none⟩), .pointer (some ⟨w1.heap.size + 1 + 1, 0, none⟩), .pointer (some ⟨w1.heap.size + 1 + 1 + 1, 0, none⟩), .int .i64 (i.val : Int), .int .i64 (a.get i.val), undef, undef, undef, undef, undef, .bool true, .agg #[.int .i64 a.a0, .int .i64 a.a1, .int .i64 a.a2, .int .i64 a.a3, .int .i64 a.a4, .int .i64 a.a5, .int .i64 a.a6], (.func (.func 58) #[] #[.pointer (some ⟨w1.heap.size, 0, none⟩)]), (.func (.func 58) #[] #[.pointer (some ⟨w1.heap.size, 0, none⟩)]), .bool false, .agg #[.int .i64 0, .int .i64 0, .int .i64 0, .int .i64 0, .int .i64 0, .int .i64 0, .int .i64 0], (.func (.func 58) #[] #[.pointer (some ⟨w1.heap.size, 0, none⟩)]), .int .i64 (i.val : Int), .int .i64 (a.get i.val), undef, undef, undef, undef, undef, undef, undef, undef, undef, undef, undef, undef, undef, undef, undef, undef, undef, undef, undef, undef, undef, undef, undef, undef, undef, undef, undef, undef, undef, undef, undef, undef, undef, undef, undef, undef, undef, undef, undef, undef, undef, undef, undef, undef, undef, undef, undef, undef, undef, undef, undef], defers := [] }) ?assign ?body ?done ?stop
  case assign =>
    intro l p W K hK
    gi_wp2
    exact hK
  case body =>
    rintro l pre i W ⟨⟨hb, lb', cl', cn'⟩, hB⟩ hlen
    have hpl := places_len a
    have hnx := next_place a pre i
    have i7 : (i.val : Int) ≤ 6 := by have := i.isLt; omega
    have i77 : (i.val : Int) < 7 := by omega
    obtain ⟨k1, k2, k3⟩ := id cl'
    obtain ⟨n1, n2, n3⟩ := id cn'
    obtain ⟨r1, r2, r3⟩ := id hb.2
    have b1 := lb'.1 i.val i.isLt
    have b2 := lb'.2.1 i.val
    have HN := Lib.hid hnx
    have hl1 : ((pre ++ [i]).length : Int) = (pre.length : Int) + 1 := by simp
    have HL := Lib.hid hl1
    clear hnx hl1
    by_cases e1 : (i.val : Int) ≤ lastOf pre
    · gi_wp2
      exact ⟨KeepsOthers.setCell _ _ _, fun h => by have := (HN.out h).1; omega⟩
    · by_cases e2 : a.get i.val = 0
      · have e3 : (a.get i.val == 0) = true := by simp [e2]
        have HZ := Lib.hid e2
        clear e2
        gi_wp2
        exact ⟨KeepsOthers.setCell _ _ _, fun h => (HN.out h).2 HZ.out⟩
      · have e3 : (a.get i.val == 0) = false := by simpa using e2
        clear e2
        gi_wp2
        refine ⟨((KeepsOthers.setCell _ _ _).trans (KeepsOthers.setCell _ _ _)).trans (KeepsOthers.setCell _ _ _), trivial, ⟨((hb.set _ _ _ (by omega)).set _ _ _ (by omega)).set _ _ _ (by omega), ?_, ?_, ?_⟩, ?_⟩
        · rw [bOf_app]
          exact ((lb'.set i.val _).other _ _ _ (by omega)).other _ _ _ (by omega)
        · rw [lastOf_app]
          exact ((cl'.other _ _ _ (by omega)).set _).other _ _ _ (by omega)
        · rw [HL.out]
          exact ((cn'.other _ _ _ (by omega)).other _ _ _ (by omega)).set _
        · exact ((hB.setCell (p := ⟨w1.heap.size + 1, i.val, none⟩) (by show w.heap.size ≤ w1.heap.size + 1; omega) _).setCell (p := ⟨w1.heap.size + 1 + 1, 0, none⟩) (by show w.heap.size ≤ w1.heap.size + 1 + 1; omega) _).setCell (p := ⟨w1.heap.size + 1 + 1 + 1, 0, none⟩) (by show w.heap.size ≤ w1.heap.size + 1 + 1 + 1; omega) _
  case done =>
    rintro D ys V hD rfl ⟨⟨hb, lb', cl', cn'⟩, hB⟩ hK
    have hDV : D < V.heap.size := (Array.getElem?_eq_some_iff.1 hK).1
    replace lb' := lb'.congr (bOf_all a)
    have t1 : -9 < many.tmod 9 := Int.lt_tmod_of_pos many (by omega)
    have t2 : many.tmod 9 < 9 := Int.tmod_lt_of_pos many (by omega)
    have HK := Lib.hid hK
    have HC := Lib.hid cn'
    have HB := Lib.hid hb
    have HLB := Lib.hid lb'
    have HBW := Lib.hid hB
    obtain ⟨c0, c1, c2, c3, c4, c5, c6⟩ := hb.1.cells
    simp only [D7.get] at c0 c1 c2 c3 c4 c5 c6
    have hv1 : w.heap.size < V.heap.size := hb.1.2.2
    have hv2 : w.heap.size < V.heap.size + 1 := by omega
    clear hK cl' cn' lb' hb hB hbs lb cl cn hB0
    gi_wp2_with (refine ⟨trivial, ?_⟩; gi_at_call 28; refine (callsIn_wide.2 (hEc _)).mono ?_; rintro e w' ⟨rfl, rfl⟩)
    clear c0 c1 c2 c3 c4 c5 c6
    have t3 : 0 ≤ many.tmod 9 % 9 := by omega
    have t4 : many.tmod 9 % 9 ≤ 8 := by omega
    generalize many.tmod 9 % 9 = take at *
    have lE2 := Lies7.new ((V.alloc (.cells #[.int .i64 take] 3)).alloc (.cells #[.int .i64 0] 3)) a
    simp only [World.size_alloc] at lE2
    have ck : Cnt V.heap.size take (((V.alloc (.cells #[.int .i64 take] 3)).alloc (.cells #[.int .i64 0] 3)).alloc (.cells #[.int .i64 a.a0, .int .i64 a.a1, .int .i64 a.a2, .int .i64 a.a3, .int .i64 a.a4, .int .i64 a.a5, .int .i64 a.a6] 39)) := by
      refine ⟨?_, ?_, ?_⟩ <;> simp [go_sem]
    have cg : Cnt (V.heap.size + 1) 0 (((V.alloc (.cells #[.int .i64 take] 3)).alloc (.cells #[.int .i64 0] 3)).alloc (.cells #[.int .i64 a.a0, .int .i64 a.a1, .int .i64 a.a2, .int .i64 a.a3, .int .i64 a.a4, .int .i64 a.a5, .int .i64 a.a6] 39)) := by
      refine ⟨?_, ?_, ?_⟩ <;> simp [go_sem]
    have h1 : w1.heap.size + 1 < V.heap.size := HLB.out.2.2
    have h2 : w1.heap.size + 1 + 1 + 1 < V.heap.size := HC.out.2.2
    have hold : ∀ b, b < V.heap.size → ((((V.alloc (.cells #[.int .i64 take] 3)).alloc (.cells #[.int .i64 0] 3)).alloc (.cells #[.int .i64 a.a0, .int .i64 a.a1, .int .i64 a.a2, .int .i64 a.a3, .int .i64 a.a4, .int .i64 a.a5, .int .i64 a.a6] 39))).heap[b]? = V.heap[b]? := by
      intro b hb
      rw [Below.heap_alloc _ _ _ (by simp only [World.size_alloc]; omega), Below.heap_alloc _ _ _ (by simp only [World.size_alloc]; omega), Below.heap_alloc _ _ _ hb]
    have hsz2 : ((((V.alloc (.cells #[.int .i64 take] 3)).alloc (.cells #[.int .i64 0] 3)).alloc (.cells #[.int .i64 a.a0, .int .i64 a.a1, .int .i64 a.a2, .int .i64 a.a3, .int .i64 a.a4, .int .i64 a.a5, .int .i64 a.a6] 39))).heap.size = V.heap.size + 1 + 1 + 1 := by simp only [World.size_alloc]
    have hK0 : K2 w a w1.heap.size V take 0 D (((V.alloc (.cells #[.int .i64 take] 3)).alloc (.cells #[.int .i64 0] 3)).alloc (.cells #[.int .i64 a.a0, .int .i64 a.a1, .int .i64 a.a2, .int .i64 a.a3, .int .i64 a.a4, .int .i64 a.a5, .int .i64 a.a6] 39)) :=
      ⟨⟨⟨⟨HB.out.1.block (by omega) (hold _ hv1), HB.out.2.block (by omega) (hold _ HB.out.2.2.2)⟩, HLB.out.block (by omega) (hold _ h1), HC.out.block (by omega) (hold _ h2), ck, cg⟩, (hold D hDV).trans HK.out⟩, Below.goB HBW.out HBW.out.size (by go_grown)⟩
    clear ck cg hold HK HC HB HLB HBW
    generalize (((V.alloc (.cells #[.int .i64 take] 3)).alloc (.cells #[.int .i64 0] 3)).alloc (.cells #[.int .i64 a.a0, .int .i64 a.a1, .int .i64 a.a2, .int .i64 a.a3, .int .i64 a.a4, .int .i64 a.a5, .int .i64 a.a6] 39)) = W2 at *
    refine wpIn_rangeFunc_ownF rfl (by omega) (gf := 58) (lb := #[.pointer (some ⟨V.heap.size + 1 + 1, 0, none⟩)]) rfl trivial (enters_of Tryd.func58 (by kernel_rfl) rfl)
      (each_stops 8 (V.heap.size + 1 + 1) a _ (by omega) lE2) (fun _ _ => trivial) (fun _ _ _ _ _ _ _ _ => trivial) (Below.refl _ _) (fun _ => rfl)
      (I2 w a w1.heap.size V take D) (X2 w a w1.heap.size V take D)
      (fun s A B row hs hg hr => ⟨hs.1.own w a _ V take _ D W2.heap.size (by omega) (by omega) hg hr, hs.2⟩)
      (fun c s A B row hs hg hr => ⟨hs.1.own w a _ V take _ D W2.heap.size (by omega) (by omega) hg hr, hs.2⟩)
      ⟨hK0, by simp only [List.length_nil]; omega⟩
      (fun i => { tmps := #[.agg #[.int .i64 a.a0, .int .i64 a.a1, .int .i64 a.a2, .int .i64 a.a3, .int .i64 a.a4, .int .i64 a.a5, .int .i64 a.a6], .int .i64 many, .pointer (some ⟨w.heap.size, 0, none⟩), undef, .pointer (some ⟨w.heap.size + 1, 0, none⟩), .bool true, (.func (.func 58) #[] #[.pointer (some ⟨w1.heap.size, 0, none⟩)]), .pointer (some ⟨w1.heap.size + 1, 0, none⟩), .pointer (some ⟨w1.heap.size + 1 + 1, 0, none⟩), .pointer (some ⟨w1.heap.size + 1 + 1 + 1, 0, none⟩), undef, undef, .pointer (some ⟨V.heap.size, 0, none⟩), .pointer (some ⟨V.heap.size + 1, 0, none⟩), (.func (.func 58) #[] #[.pointer (some ⟨V.heap.size + 1 + 1, 0, none⟩)]), .int .i64 (i.val : Int), .int .i64 (a.get i.val), .bool true, .agg #[.int .i64 a.a0, .int .i64 a.a1, .int .i64 a.a2, .int .i64 a.a3, .int .i64 a.a4, .int .i64 a.a5, .int .i64 a.a6], (.func (.func 58) #[] #[.pointer (some ⟨w1.heap.size, 0, none⟩)]), (.func (.func 58) #[] #[.pointer (some ⟨w1.heap.size, 0, none⟩)]), .bool false, .agg #[.int .i64 0, .int .i64 0, .int .i64 0, .int .i64 0, .int .i64 0, .int .i64 0, .int .i64 0], (.func (.func 58) #[] #[.pointer (some ⟨w1.heap.size, 0, none⟩)]), undef, undef, undef, undef, undef, undef, undef, undef, undef, undef, undef, undef, undef, undef, undef, undef, undef, undef, undef, .int .i64 many, .int .i64 (many.tmod 9), .int .i64 (many.tmod 9 + 9), .int .i64 take, .agg #[.int .i64 a.a0, .int .i64 a.a1, .int .i64 a.a2, .int .i64 a.a3, .int .i64 a.a4, .int .i64 a.a5, .int .i64 a.a6], (.func (.func 58) #[] #[.pointer (some ⟨V.heap.size + 1 + 1, 0, none⟩)]), (.func (.func 58) #[] #[.pointer (some ⟨V.heap.size + 1 + 1, 0, none⟩)]), .bool false, (.func (.func 58) #[] #[.pointer (some ⟨V.heap.size + 1 + 1, 0, none⟩)]), .int .i64 (i.val : Int), .int .i64 (a.get i.val), undef, undef, undef, undef, undef, undef, undef, undef, undef, undef, undef, undef, undef, undef, undef, undef, undef, undef, undef, undef, undef, undef, undef], defers := [] }) ?assign2 ?body2 ?done2 ?stop2
    case assign2 =>
      intro l p W K hK
      gi_wp2
      exact hK
    case body2 =>
      rintro l pre i W ⟨⟨⟨⟨hb, lb', cn', ck, cg⟩, hDD⟩, hB⟩, hle⟩ hlen
      have i77 : (i.val : Int) < 7 := by have := i.isLt; omega
      have hpl := places_len a
      obtain ⟨k1, k2, k3⟩ := id ck
      obtain ⟨g1, g2, g3⟩ := id cg
      have b1 := hb.1.1 i.val i.isLt
      have hl1 : ((pre ++ [i]).length : Int) = (pre.length : Int) + 1 := by simp
      have HL := Lib.hid hl1
      clear hl1
      by_cases hk : (pre.length : Int) = take
      · have bk : ((pre.length : Int) == take) = true := by simpa using hk
        have HT := Lib.hid hk
        clear hk
        gi_wp2
        refine ⟨KeepsOthers.refl _, ⟨⟨⟨hb, lb', cn', ck, ?_⟩, hDD⟩, hB⟩, rfl, by rw [HL.out, HT.out]⟩
        rw [← HT.out]; exact cg
      · have bk : ((pre.length : Int) == take) = false := by simpa using hk
        have hlt : (pre.length : Int) + 1 ≤ take := by omega
        have be : (a.get i.val != a.get i.val) = false := by simp
        clear hk
        gi_wp2
        refine ⟨KeepsOthers.setCell _ _ _, trivial, ⟨⟨⟨hb.set _ _ _ (by omega), lb'.other _ _ _ (by omega), cn'.other _ _ _ (by omega), ck.other _ _ _ (by omega), ?_⟩, ?_⟩, ?_⟩, by rw [HL.out]; exact hlt⟩
        · rw [HL.out]; exact cg.set _
        · rw [set_same _ _ _ _ _ (by omega)]; exact hDD
        · exact hB.setCell (p := ⟨V.heap.size + 1, 0, none⟩) (by show w.heap.size ≤ V.heap.size + 1; omega) _
    case done2 =>
      rintro E ys W hE' rfl ⟨⟨⟨⟨hb, lb', cn', ck, cg⟩, hDD⟩, hB⟩, hle⟩ hKE
      have q := eq7
      have qa := eqB_same a
      obtain ⟨c0, c1, c2, c3, c4, c5, c6⟩ := hb.1.cells
      obtain ⟨d0, d1, d2, d3, d4, d5, d6⟩ := lb'.cells
      simp only [D7.get] at c0 c1 c2 c3 c4 c5 c6 d0 d1 d2 d3 d4 d5 d6
      obtain ⟨n1, n2, n3⟩ := cn'
      obtain ⟨k1, k2, k3⟩ := ck
      obtain ⟨g1, g2, g3⟩ := cg
      obtain ⟨r1, r2, r3⟩ := id hb.2
      have HR := Lib.hid hb.2
      have HD := Lib.hid hDD
      have HBW := Lib.hid hB
      have HKE := Lib.hid hKE
      have hEE : V.heap.size + 1 + 1 + 1 ≤ E := by omega
      clear hb hDD hB hKE hnn lb' hE'
      gi_wp2
      have e3 : (((places a).length : Int) == min take ((places a).length : Int)) = true := by rw [beq_iff_eq]; omega
      rw [e3]
      exact each_finish w W _ E D HR.out HBW.out HKE.out HD.out (by omega) (by omega) (by omega) rfl
    case stop2 =>
      rintro E c pre W hE' hpre ⟨⟨⟨⟨hb, lb', cn', ck, cg⟩, hDD⟩, hB⟩, rfl, hlen⟩ hKE
      have hle : take + 1 ≤ ((places a).length : Int) := by have := hpre.length_le; omega
      have q := eq7
      have qa := eqB_same a
      obtain ⟨c0, c1, c2, c3, c4, c5, c6⟩ := hb.1.cells
      obtain ⟨d0, d1, d2, d3, d4, d5, d6⟩ := lb'.cells
      simp only [D7.get] at c0 c1 c2 c3 c4 c5 c6 d0 d1 d2 d3 d4 d5 d6
      obtain ⟨n1, n2, n3⟩ := cn'
      obtain ⟨k1, k2, k3⟩ := ck
      obtain ⟨g1, g2, g3⟩ := cg
      obtain ⟨r1, r2, r3⟩ := id hb.2
      have HR := Lib.hid hb.2
      have HD := Lib.hid hDD
      have HBW := Lib.hid hB
      have HKE := Lib.hid hKE
      have hEE : V.heap.size + 1 + 1 + 1 ≤ E := by omega
      clear hb hDD hB hKE hnn lb' hE' hlen
      gi_wp2
      have e3 : (take == min take ((places a).length : Int)) = true := by rw [beq_iff_eq]; omega
      rw [e3]
      exact each_finish w W _ E D HR.out HBW.out HKE.out HD.out (by omega) (by omega) (by omega) rfl
  case stop =>
    rintro D c pre W hD hpre hX hK
    exact absurd hpre hX

theorem each_law (a0 a1 a2 a3 a4 a5 a6 many : Int) (w : World) (hE : Env w) (b0 : -9223372036854775808 ≤ a0 ∧ a0 ≤ 9223372036854775807) (b1 : -9223372036854775808 ≤ a1 ∧ a1 ≤ 9223372036854775807) (b2 : -9223372036854775808 ≤ a2 ∧ a2 ≤ 9223372036854775807) (b3 : -9223372036854775808 ≤ a3 ∧ a3 ≤ 9223372036854775807) (b4 : -9223372036854775808 ≤ a4 ∧ a4 ≤ 9223372036854775807) (b5 : -9223372036854775808 ≤ a5 ∧ a5 ≤ 9223372036854775807) (b6 : -9223372036854775808 ≤ a6 ∧ a6 ≤ 9223372036854775807) (bm : -9223372036854775808 ≤ many ∧ many ≤ 9223372036854775807) :
    Calls Tryd.prog 8 #[.agg #[.int .i64 a0, .int .i64 a1, .int .i64 a2, .int .i64 a3, .int .i64 a4, .int .i64 a5, .int .i64 a6], .int .i64 many] w fun e w' => e = .returned (.bool true) ∧ Below w.heap.size w w' :=
  callsIn_wide.1 (each_walk_in ⟨a0, a1, a2, a3, a4, a5, a6⟩ many w hE (seven b0 b1 b2 b3 b4 b5 b6) bm)

end Go.Proofs.YtjklbnakgkffnaaDoor.Dims

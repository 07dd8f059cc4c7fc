/-
  The walk of AtomsEach.
-/
import Derived.Test.YtpmibcdmaaagjaaDoorJ7
import Derived.Test.YtpmibcdmaaagjaaDoorC3
import Derived.Sort.CutIn
namespace Go.Proofs.YtpmibcdmaaagjaaDoor.Atoms
open Go.RowKit Go.Shelf Go.Proofs.YtpmibcdmaaagjaaDoor.Ranges
attribute [local go_sem] Oper.semAt_some
set_option linter.unusedVariables false
set_option linter.unusedSimpArgs false

theorem each_not_nil (lb : Array Value) (W : World) : (binOp BinOp.eql 35 (.func (.func 23) #[] lb) .nilFunc).run Tryd.prog W = .ok (.bool false) W := by
  kernel_rfl

theorem below_join {w X w2 : World} (h : Below w.heap.size w X) (hb : Below X.heap.size X w2) : Below w.heap.size w w2 := h.trans (hb.mono h.size)
/-- A box of two stays. -/
theorem box_keep {X w2 : World} {a b : Value} {t : TypeId} (hb : Below (X.alloc (.cells #[a, b] t)).heap.size (X.alloc (.cells #[a, b] t)) w2) : w2.cell? ⟨X.heap.size, 0, none⟩ = some a ∧ w2.cell? ⟨X.heap.size, 1, none⟩ = some b ∧ ∀ j, w2.frozen? ⟨X.heap.size, j, none⟩ = false := by
  have hz : X.heap.size < (X.alloc (.cells #[a, b] t)).heap.size := by rw [World.size_alloc]; omega
  exact ⟨(hb.cell (p := ⟨X.heap.size, 0, none⟩) hz).trans (by simp [go_sem]), (hb.cell (p := ⟨X.heap.size, 1, none⟩) hz).trans (by simp [go_sem]), fun j => (hb.frozen (p := ⟨X.heap.size, j, none⟩) hz).trans (by simp [go_sem])⟩
theorem box_go {X w2 : World} {b : Nat} {u v : Value} (h : X.cell? ⟨b, 0, none⟩ = some u ∧ X.cell? ⟨b, 1, none⟩ = some v ∧ ∀ j, X.frozen? ⟨b, j, none⟩ = false) (hb : Below X.heap.size X w2) : w2.cell? ⟨b, 0, none⟩ = some u ∧ w2.cell? ⟨b, 1, none⟩ = some v ∧ ∀ j, w2.frozen? ⟨b, j, none⟩ = false :=
  ⟨(hb.cell (p := ⟨b, 0, none⟩) (cell_lt h.1)).trans h.1, (hb.cell (p := ⟨b, 1, none⟩) (cell_lt h.1)).trans h.2.1, fun j => (hb.frozen (p := ⟨b, j, none⟩) (cell_lt h.1)).trans (h.2.2 j)⟩
/-- A slice, where a cell of a block is written that begins otherwise. -/
theorem SliceAt.unlike {V : World} {s : Value} {k n : Nat} {f : Nat → Nat → Value} (h : SliceAt V s k n f) (hk : 0 < k) {b : Nat} {x : Value} (hx : V.cell? ⟨b, 0, none⟩ = some x) (hne : 0 < n → f 0 0 ≠ x) (i : Nat) (u : Value) : SliceAt (V.setCell ⟨b, i, none⟩ u) s k n f := by
  rcases h with h | ⟨b', c, hs, hc, hm, hg⟩
  · exact .inl h
  · refine .inr ⟨b', c, hs, hc, hm.set _ _ _, ?_⟩
    by_cases h0 : n = 0
    · subst h0
      exact ⟨fun i hi => absurd hi (by omega), fun j => by rw [World.frozen?_setCell]; exact hg.2.1 j, by rw [World.size_setCell]; exact hg.2.2⟩
    · refine hg.other b i u fun e => ?_
      subst e
      have := hg.1 0 (by omega) 0 hk
      rw [Nat.zero_mul, Nat.zero_add, hx] at this
      exact hne (by omega) (Option.some.inj this).symm
theorem AtomsSl.unlike {V : World} {s : Value} {rows : List Row} {S : Nat → Value} (h : AtomsSl V s rows S) {b : Nat} {o : Option Addr} {m c : Nat} (hx : V.cell? ⟨b, 0, none⟩ = some (.slice o m c)) (i : Nat) (u : Value) : AtomsSl (V.setCell ⟨b, i, none⟩ u) s rows S :=
  ⟨SliceAt.unlike h.1 (by omega) hx (fun _ e => by cases e) i u, fun j hj => SliceAt.unlike (h.2 j hj) (by omega) hx (fun _ e => by unfold cellT termCell at e; rw [if_pos rfl] at e; cases e) i u⟩
/-- The table stands in its box. -/
structure TabBox (w0 : World) (tb : Nat) (o1 : Option Addr) (c1 : Nat) (v : Value) (rows : List Row) (S : Nat → Value) (V : World) : Prop where
  t1 : V.cell? ⟨tb, 1, none⟩ = some v
  t0 : V.cell? ⟨tb, 0, none⟩ = some (.slice o1 rows.length c1)
  at_ : AtomsSl V (.slice o1 rows.length c1) rows S
  lo : w0.heap.size ≤ tb
  lt : tb < V.heap.size
  below : Below w0.heap.size w0 V
theorem TabBox.go {w0 : World} {tb : Nat} {o1 : Option Addr} {c1 : Nat} {v : Value} {rows : List Row} {S : Nat → Value} {V V' : World} (h : TabBox w0 tb o1 c1 v rows S V) (hb : Below V.heap.size V V') : TabBox w0 tb o1 c1 v rows S V' :=
  ⟨(hb.cell (p := ⟨tb, 1, none⟩) h.lt).trans h.t1, (hb.cell (p := ⟨tb, 0, none⟩) h.lt).trans h.t0, h.at_.go hb, h.lo, by have := h.lt; have := hb.size; omega, h.below.trans (hb.mono h.below.size)⟩
theorem TabBox.new {w0 w3 : World} {o1 : Option Addr} {c1 : Nat} {rows : List Row} {S : Nat → Value} (v : Value) (t : TypeId) (hA : AtomsSl w3 (.slice o1 rows.length c1) rows S) (hb : Below w0.heap.size w0 w3) : TabBox w0 w3.heap.size o1 c1 v rows S (w3.alloc (.cells #[.slice o1 rows.length c1, v] t)) :=
  have hu : Below w3.heap.size w3 (w3.alloc (.cells #[.slice o1 rows.length c1, v] t)) := (Below.refl _ _).alloc (Nat.le_refl _) _
  ⟨by simp [go_sem], by simp [go_sem], hA.go hu, hb.size, by rw [World.size_alloc]; omega, hb.trans (hu.mono hb.size)⟩
theorem TabBox.old {w0 w3 : World} {tb : Nat} {o1 o3 : Option Addr} {c1 n3 c3 : Nat} {v v3 : Value} {rows : List Row} {S : Nat → Value} (hA : AtomsSl w3 (.slice o1 rows.length c1) rows S) (hb : Below w0.heap.size w0 w3) (hx : w3.cell? ⟨tb, 0, none⟩ = some (.slice o3 n3 c3)) (hx1 : w3.cell? ⟨tb, 1, none⟩ = some v3) (hl : w0.heap.size ≤ tb) : TabBox w0 tb o1 c1 v rows S ((w3.setCell ⟨tb, 0, none⟩ (.slice o1 rows.length c1)).setCell ⟨tb, 1, none⟩ v) := by
  have c0 : (w3.setCell ⟨tb, 0, none⟩ (.slice o1 rows.length c1)).cell? ⟨tb, 0, none⟩ = some (.slice o1 rows.length c1) := World.cell?_setCell_same _ _ _ hx
  refine ⟨World.cell?_setCell_same _ _ _ (cell_off hx1 (by omega)), cell_off c0 (by omega), (hA.unlike hx 0 _).unlike c0 1 _, hl, ?_, (hb.setCell (p := ⟨tb, 0, none⟩) hl _).setCell (p := ⟨tb, 1, none⟩) hl _⟩
  have := cell_lt hx
  rw [World.size_setCell, World.size_setCell]; exact this

theorem fits_rows {M m : Nat} {rows : List Row} (hl : rows.length ≤ M) (hok : RowsOk m rows) (hM : M ≤ 1000000 := by omega) (hm : m ≤ 1000000 := by omega) : Fits rows := by
  refine ⟨by omega, fun i => ?_, fun i => ?_⟩
  · by_cases h : i < rows.length
    · have := (hok (rows.getD i default) (by rw [List.getD_eq_getElem?_getD, List.getElem?_eq_getElem h]; exact List.getElem_mem _)).2
      omega
    · rw [List.getD_eq_getElem?_getD, List.getElem?_eq_none (by omega)]; exact Nat.zero_le _
  · by_cases h : i < rows.length
    · exact (hok (rows.getD i default) (by rw [List.getD_eq_getElem?_getD, List.getElem?_eq_getElem h]; exact List.getElem_mem _)).1.1
    · rw [List.getD_eq_getElem?_getD, List.getElem?_eq_none (by omega)]
      exact ⟨fine5_of _ (Nat.zero_le _) (Nat.zero_le _) (Nat.zero_le _) (Nat.zero_le _) (Nat.zero_le _), by decide, by decide, Nat.zero_le _⟩
/-- The box of a count, at w5's end. -/
structure EaI (w5 : World) (k : Int) (W : World) : Prop where
  below : Below w5.heap.size w5 W
  nb : W.cell? ⟨w5.heap.size, 0, none⟩ = some (.int .i64 k)
  nf : W.frozen? ⟨w5.heap.size, 0, none⟩ = false
  size : w5.heap.size + 1 ≤ W.heap.size
theorem EaI.go {w5 : World} {k : Int} {W W' : World} (h : EaI w5 k W) (hb : Below (w5.heap.size + 1) W W') : EaI w5 k W' :=
  ⟨h.below.trans (hb.mono (by omega)), (hb.cell (p := ⟨w5.heap.size, 0, none⟩) (show w5.heap.size < w5.heap.size + 1 by omega)).trans h.nb, (hb.frozen (p := ⟨w5.heap.size, 0, none⟩) (show w5.heap.size < w5.heap.size + 1 by omega)).trans h.nf, by have := h.size; have := hb.size; omega⟩
theorem EaI.set {w5 : World} {k : Int} {W : World} (h : EaI w5 k W) (k' : Int) : EaI w5 k' (W.setCell ⟨w5.heap.size, 0, none⟩ (.int .i64 k')) :=
  ⟨h.below.setCell (p := ⟨w5.heap.size, 0, none⟩) (Nat.le_refl _) _, World.cell?_setCell_same _ _ _ h.nb, by rw [World.frozen?_setCell]; exact h.nf, by rw [World.size_setCell]; exact h.size⟩
/-- And of what comes then: how many are taken, how many were had; the first rounds' mark. -/
structure EbI (w5 : World) (k : Int) (t D : Nat) (tk h : Int) (W : World) : Prop where
  a : EaI w5 k W
  x1 : W.cell? ⟨t, 0, none⟩ = some (.int .i64 tk)
  x2 : W.cell? ⟨t + 1, 0, none⟩ = some (.int .i64 h)
  x3 : W.frozen? ⟨t + 1, 0, none⟩ = false
  m : W.heap[D]? = some (.deferred (some []))
  lo : w5.heap.size + 1 ≤ t
  ld : D < t
  size : t + 2 ≤ W.heap.size
theorem EbI.go {w5 : World} {k : Int} {t D : Nat} {tk h : Int} {W W' : World} (i : EbI w5 k t D tk h W) (hb : Below (t + 2) W W') : EbI w5 k t D tk h W' := by
  have hz := hb.size
  have hs := i.size
  have hl := i.lo
  have hd := i.ld
  exact ⟨i.a.go (hb.mono (by omega)), (hb.cell (p := ⟨t, 0, none⟩) (show t < t + 2 by omega)).trans i.x1, (hb.cell (p := ⟨t + 1, 0, none⟩) (show t + 1 < t + 2 by omega)).trans i.x2, (hb.frozen (p := ⟨t + 1, 0, none⟩) (show t + 1 < t + 2 by omega)).trans i.x3, (hb.block D (by omega)).trans i.m, hl, hd, by omega⟩
theorem EbI.set {w5 : World} {k : Int} {t D : Nat} {tk h : Int} {W : World} (i : EbI w5 k t D tk h W) (h' : Int) : EbI w5 k t D tk h' (W.setCell ⟨t + 1, 0, none⟩ (.int .i64 h')) := by
  have hl := i.lo
  have hd := i.ld
  have o1 : ∀ b, b ≠ t + 1 → (W.setCell ⟨t + 1, 0, none⟩ (.int .i64 h')).cell? ⟨b, 0, none⟩ = W.cell? ⟨b, 0, none⟩ := fun b hb => World.cell?_setCell_other _ _ _ _ (by intro hh; injection hh with e1 e2; omega)
  exact ⟨⟨i.a.below.setCell (p := ⟨t + 1, 0, none⟩) (show w5.heap.size ≤ t + 1 by omega) _, by rw [o1 _ (by omega)]; exact i.a.nb, by rw [World.frozen?_setCell]; exact i.a.nf, by rw [World.size_setCell]; exact i.a.size⟩,
    by rw [o1 _ (by omega)]; exact i.x1, World.cell?_setCell_same _ _ _ i.x2, by rw [World.frozen?_setCell]; exact i.x3, (Below.heap_setCell W ⟨t + 1, 0, none⟩ _ D (show D ≠ t + 1 by omega)).trans i.m, hl, hd, by rw [World.size_setCell]; exact i.size⟩
/-- The return: the result is true, behind the rounds' two marks. -/
theorem each_finish (w W : World) (tmps : Array Value) (E D : Nat) (hr : W.cell? ⟨w.heap.size + 1, 0, none⟩ = some (.bool false)) (hB : Below w.heap.size w W) (hE : W.heap[E]? = some (.deferred (some []))) (hD : W.heap[D]? = some (.deferred (some []))) (hne : D ≠ E) (hE1 : w.heap.size + 2 ≤ E) (hD1 : w.heap.size + 2 ≤ D)
    (ht : tmps[4]? = some (.pointer (some ⟨w.heap.size + 1, 0, none⟩))) :
    LeavesInM Fence.wide 9 Tryd.prog Tryd.f4 tmps (fun e w' => e = .returned (.bool true) ∧ Below w.heap.size w w') [{ target := .collected E, args := #[] }, { target := .collected D, args := #[] }] .returning (W.setCell ⟨w.heap.size + 1, 0, none⟩ (.bool true)) := by
  have c1 : (W.setCell ⟨w.heap.size + 1, 0, none⟩ (.bool true)).cell? ⟨w.heap.size + 1, 0, none⟩ = some (.bool true) := World.cell?_setCell_same _ _ _ hr
  have b1 := hB.setCell (p := ⟨w.heap.size + 1, 0, none⟩) (show w.heap.size ≤ w.heap.size + 1 by omega) (.bool true)
  have k1 : (W.setCell ⟨w.heap.size + 1, 0, none⟩ (.bool true)).heap[E]? = some (.deferred (some [])) := (Below.heap_setCell W ⟨w.heap.size + 1, 0, none⟩ _ E (show E ≠ w.heap.size + 1 by omega)).trans hE
  have k2 : (W.setCell ⟨w.heap.size + 1, 0, none⟩ (.bool true)).heap[D]? = some (.deferred (some [])) := (Below.heap_setCell W ⟨w.heap.size + 1, 0, none⟩ _ D (show D ≠ w.heap.size + 1 by omega)).trans hD
  generalize W.setCell ⟨w.heap.size + 1, 0, none⟩ (.bool true) = Y at *
  have hput : ∀ (X : World) (l : Nat) (o : Obj), w.heap.size + 2 ≤ l → Below (w.heap.size + 2) X (X.putObj l o) := fun X l o hl => ⟨rfl, rfl, rfl, by simp [World.putObj], fun k hk => World.putObj_heap_other (by omega)⟩
  have k3 : (Y.putObj E (.deferred none)).heap[D]? = some (.deferred (some [])) := (World.putObj_heap_other hne).trans k2
  have hI3 := (hput Y E (.deferred none) hE1).trans (hput _ D (.deferred none) hD1)
  have hrs := (hI3.cell (p := ⟨w.heap.size + 1, 0, none⟩) (show w.heap.size + 1 < w.heap.size + 2 by omega)).trans c1
  refine ⟨by simp, .inl ⟨_, _, rfl, run_takeDeferred k1, ?_⟩⟩
  refine ⟨by simp, .inl ⟨_, _, rfl, run_takeDeferred k3, ?_⟩⟩
  refine ⟨.bool true, ?_, rfl, b1.trans (hI3.mono (by omega))⟩
  simp [results, Tryd.f4, go_sem, ht, hrs]
theorem seq_later {α : Type} {F : Fence} {n : Nat} {P : Program} {g : Nat} {lb : Array Value} {encs : α → Array Value} {G : List α → α → World → Prop} {Kp : World → World → Prop} {S Sp : List α → Prop} {w w' : World} (h : Seq F n P g lb encs G Kp S Sp w) (hb : Below w.heap.size w w') : Seq F n P g lb encs G Kp S Sp w' :=
  fun l J Jx W hW => h l J Jx W (hb.trans (hW.mono hb.size))
theorem Kept.cell {lo hi : Nat} (V : World) (b i : Nat) (u : Value) (h : hi ≤ b) : Kept lo hi V (V.setCell ⟨b, i, none⟩ u) := ⟨by rw [World.size_setCell]; exact Nat.le_refl _, fun k _ h2 => Below.heap_setCell V ⟨b, i, none⟩ u k (by show k ≠ b; omega)⟩
theorem keeps_below {B : Nat} {W W' : World} (h : Below W.heap.size W W') : KeepsFrom B W W' := ⟨h.size, fun k o _ hk _ => (h.block k (Array.getElem?_eq_some_iff.1 hk).1).trans hk⟩

set_option maxRecDepth 100000 in
set_option maxHeartbeats 60000000 in
theorem each_in (how at_ n many : Int) (tx : List UInt8) (w : World) (hT : Frac.OfTen w) (hn : -9223372036854775808 ≤ n ∧ n ≤ 9223372036854775807) (htx : tx.length ≤ 9223372036854775807) :
    CallsIn Fence.wide 9 Tryd.prog 4 #[.agg #[.int .i64 how, .int .i64 at_, .int .i64 n, .string (bs tx)], .int .i64 many] w fun e w' => e = .returned (.bool true) ∧ Below w.heap.size w w' := by
  have hnn := each_not_nil
  have hu : Below w.heap.size w ((w.alloc (.cells #[.int .i64 how, .int .i64 at_, .int .i64 n, .string (bs tx)] 23)).alloc (.cells #[.bool false] 4)) := by go_grown
  have q0 : ((w.alloc (.cells #[.int .i64 how, .int .i64 at_, .int .i64 n, .string (bs tx)] 23)).alloc (.cells #[.bool false] 4)).cell? ⟨w.heap.size, 0, none⟩ = some (.int .i64 how) := by simp [go_sem]
  have q1 : ((w.alloc (.cells #[.int .i64 how, .int .i64 at_, .int .i64 n, .string (bs tx)] 23)).alloc (.cells #[.bool false] 4)).cell? ⟨w.heap.size, 1, none⟩ = some (.int .i64 at_) := by simp [go_sem]
  have q2 : ((w.alloc (.cells #[.int .i64 how, .int .i64 at_, .int .i64 n, .string (bs tx)] 23)).alloc (.cells #[.bool false] 4)).cell? ⟨w.heap.size, 2, none⟩ = some (.int .i64 n) := by simp [go_sem]
  have q3 : ((w.alloc (.cells #[.int .i64 how, .int .i64 at_, .int .i64 n, .string (bs tx)] 23)).alloc (.cells #[.bool false] 4)).cell? ⟨w.heap.size, 3, none⟩ = some (.string (bs tx)) := by simp [go_sem]
  have x2 : ((w.alloc (.cells #[.int .i64 how, .int .i64 at_, .int .i64 n, .string (bs tx)] 23)).alloc (.cells #[.bool false] 4)).cell? ⟨w.heap.size + 1, 0, none⟩ = some (.bool false) := by simp [go_sem]
  have x3 : ((w.alloc (.cells #[.int .i64 how, .int .i64 at_, .int .i64 n, .string (bs tx)] 23)).alloc (.cells #[.bool false] 4)).frozen? ⟨w.heap.size + 1, 0, none⟩ = false := by simp [go_sem]
  have hz : w.heap.size + 2 ≤ ((w.alloc (.cells #[.int .i64 how, .int .i64 at_, .int .i64 n, .string (bs tx)] 23)).alloc (.cells #[.bool false] 4)).heap.size := by simp only [World.size_alloc]; omega
  refine callsIn_of_wp_marks Tryd.func4 rfl trivial ?_ rfl
  simp only [Tryd.ntmps4, List.size_toArray, List.length_cons, List.length_nil, Nat.reduceAdd, Nat.reduceSub, Array.replicate_succ, Array.replicate_zero, List.push_toArray, List.append_toArray, List.nil_append, List.cons_append]
  gi_wp2
  generalize ((w.alloc (.cells #[.int .i64 how, .int .i64 at_, .int .i64 n, .string (bs tx)] 23)).alloc (.cells #[.bool false] 4)) = w0 at *
  refine ⟨trivial, (callsIn_wide.2 (awake_yes w0 (hT.below hu))).mono ?_⟩
  rintro e w1 ⟨rfl, hb1⟩
  have hz1 := hb1.size
  replace q0 := (hb1.cell (p := ⟨w.heap.size, 0, none⟩) (show w.heap.size < w0.heap.size by omega)).trans q0
  replace q1 := (hb1.cell (p := ⟨w.heap.size, 1, none⟩) (show w.heap.size < w0.heap.size by omega)).trans q1
  replace q2 := (hb1.cell (p := ⟨w.heap.size, 2, none⟩) (show w.heap.size < w0.heap.size by omega)).trans q2
  replace q3 := (hb1.cell (p := ⟨w.heap.size, 3, none⟩) (show w.heap.size < w0.heap.size by omega)).trans q3
  have hlw : w.heap.size < w1.heap.size := by omega
  have hua : Below w1.heap.size w1 (w1.drew.alloc (.cells #[.slice none 0 0, .slice none 0 0] 29)) := (Below.refl _ _).drew.alloc (Nat.le_refl _) _
  have qa0 := (hua.cell (p := ⟨w.heap.size, 0, none⟩) hlw).trans q0
  have qa1 := (hua.cell (p := ⟨w.heap.size, 1, none⟩) hlw).trans q1
  have qa2 := (hua.cell (p := ⟨w.heap.size, 2, none⟩) hlw).trans q2
  have qa3 := (hua.cell (p := ⟨w.heap.size, 3, none⟩) hlw).trans q3
  gi_upto_region 2 with fail
  gi_cut [6] from 15 (fun x wx => ∃ (tb : Nat) (rows : List Row) (S : Nat → Value) (o1 o2 : Option Addr) (c1 n2 c2 : Nat), x = .pointer (some ⟨tb, 0, none⟩) ∧ rows.length ≤ 168 ∧ RowsOk 10 rows ∧ TabBox w1 tb o1 c1 (.slice o2 n2 c2) rows S wx)
  case first =>
    gi_region_with (first
      | (refine ⟨trivial, ?_⟩; gi_at_call 6; refine (callsIn_wide.2 (refTable_any _)).mono ?_; rintro e w2 ⟨sa0, sp0, S0, rfl, hTab, hb2⟩; have hB2 := below_join (w := w1) (by first | exact (Below.refl _ _).drew | exact (Below.refl _ _).drew.alloc (Nat.le_refl _) _) hb2; have q0' := (hB2.cell (p := ⟨w.heap.size, 0, none⟩) hlw).trans q0; have q1' := (hB2.cell (p := ⟨w.heap.size, 1, none⟩) hlw).trans q1; have q2' := (hB2.cell (p := ⟨w.heap.size, 2, none⟩) hlw).trans q2; have q3' := (hB2.cell (p := ⟨w.heap.size, 3, none⟩) hlw).trans q3; have qb0 := (((Below.refl _ _).alloc (Nat.le_refl _) (.cells #[.slice none 0 0, .slice none 0 0] 29) : Below w2.heap.size w2 (w2.alloc (.cells #[.slice none 0 0, .slice none 0 0] 29))).cell (p := ⟨w.heap.size, 0, none⟩) (cell_lt q0')).trans q0'; have qb1 := (((Below.refl _ _).alloc (Nat.le_refl _) (.cells #[.slice none 0 0, .slice none 0 0] 29) : Below w2.heap.size w2 (w2.alloc (.cells #[.slice none 0 0, .slice none 0 0] 29))).cell (p := ⟨w.heap.size, 1, none⟩) (cell_lt q0')).trans q1'; have qb2 := (((Below.refl _ _).alloc (Nat.le_refl _) (.cells #[.slice none 0 0, .slice none 0 0] 29) : Below w2.heap.size w2 (w2.alloc (.cells #[.slice none 0 0, .slice none 0 0] 29))).cell (p := ⟨w.heap.size, 2, none⟩) (cell_lt q0')).trans q2'; have qb3 := (((Below.refl _ _).alloc (Nat.le_refl _) (.cells #[.slice none 0 0, .slice none 0 0] 29) : Below w2.heap.size w2 (w2.alloc (.cells #[.slice none 0 0, .slice none 0 0] 29))).cell (p := ⟨w.heap.size, 3, none⟩) (cell_lt q0')).trans q3'; have hsp := Lib.hid (fun Y (hY : Below w2.heap.size w2 Y) => spoilt_any how at_ n tx sa0 sp0 tableRs S0 tablePs 168 9 Y (hTab.go hY).atoms (hTab.go hY).prefs (by rw [len_T]; omega) (by rw [len_P]; omega) (by rw [len_T]; omega) (by omega) (by omega) table_ok.1 table_ok.2 hn htx); (try (have hbx0 := box_keep (below_join (Below.refl _ _).drew hb2); have hbx : w2.cell? ⟨w1.heap.size, 0, none⟩ = some (.slice none 0 0) ∧ w2.cell? ⟨w1.heap.size, 1, none⟩ = some (.slice none 0 0) ∧ ∀ j, w2.frozen? ⟨w1.heap.size, j, none⟩ = false := hbx0)))
      | (refine ⟨trivial, ?_⟩; gi_at_call 7; (first | with_reducible refine (callsIn_wide.2 (hsp.out _ (Below.refl _ _))).mono ?_ | with_reducible refine (callsIn_wide.2 (hsp.out _ ((Below.refl _ _).alloc (Nat.le_refl _) _))).mono ?_); rintro e w3 ⟨sa, sp, rows, S, ps, rfl, hA, hP, hl, hpl, hok, hpf, hb3⟩; obtain ⟨o1, c1, rfl⟩ := SliceAt.slice hA.1; obtain ⟨o2, c2, rfl⟩ := SliceAt.slice hP; have hB3 := below_join hB2 (below_join (w := w2) (by first | with_reducible exact Below.refl _ _ | exact (Below.refl _ _).alloc (Nat.le_refl _) _) hb3); (try have hby : w3.cell? ⟨w1.heap.size, 0, none⟩ = some (.slice none 0 0) ∧ w3.cell? ⟨w1.heap.size, 1, none⟩ = some (.slice none 0 0) ∧ ∀ j, w3.frozen? ⟨w1.heap.size, j, none⟩ = false := box_go hbx hb3); (try (have hby0 := box_keep hb3; have hby : w3.cell? ⟨w2.heap.size, 0, none⟩ = some (.slice none 0 0) ∧ w3.cell? ⟨w2.heap.size, 1, none⟩ = some (.slice none 0 0) ∧ ∀ j, w3.frozen? ⟨w2.heap.size, j, none⟩ = false := hby0)); (try have hy0 := hby.1); (try have hy1 := hby.2.1); (try have hy2 := hby.2.2 0); (try have hy3 := hby.2.2 1)))
    all_goals
      first
        | (have hzz : w3.cell? ⟨w2.heap.size, 0, none⟩ = some (.slice none 0 0) := hy0
           have hTB := TabBox.old (v := .slice o2 ps.length c2) hA hB3 hzz hy1 hB2.size
           generalize ((w3.setCell ⟨w2.heap.size, 0, none⟩ (.slice o1 rows.length c1)).setCell ⟨w2.heap.size, 1, none⟩ (.slice o2 ps.length c2)) = V at hTB ⊢
           generalize w2.heap.size = tb at hTB ⊢)
        | (have hzz : w3.cell? ⟨w1.heap.size, 0, none⟩ = some (.slice none 0 0) := hy0
           have hTB := TabBox.old (v := .slice o2 ps.length c2) hA hB3 hzz hy1 (Nat.le_refl _)
           generalize ((w3.setCell ⟨w1.heap.size, 0, none⟩ (.slice o1 rows.length c1)).setCell ⟨w1.heap.size, 1, none⟩ (.slice o2 ps.length c2)) = V at hTB ⊢
           obtain ⟨tb, htb⟩ : ∃ tb, w1.heap.size = tb := ⟨_, rfl⟩
           rw [htb]
           replace hTB : TabBox w1 tb o1 c1 (.slice o2 ps.length c2) rows S V := htb ▸ hTB
           clear htb)
        | (have hTB := TabBox.new (.slice o2 ps.length c2) 29 hA hB3
           generalize w3.alloc (.cells #[.slice o1 rows.length c1, .slice o2 ps.length c2] 29) = V at hTB ⊢
           generalize w3.heap.size = tb at hTB ⊢)
      gi_wp2_with fail
      gi_meet
      case rel => exact ⟨tb, rows, S, o1, o2, c1, ps.length, c2, rfl, hl, hok, hTB⟩
  obtain ⟨tb, rows, S, o1, o2, c1, n2, c2, rfl, hl, hok, hTB⟩ := hcut
  obtain ⟨V0, hV0⟩ : ∃ V0, V0 = wc := ⟨_, rfl⟩
  subst hV0
  have hfits : Fits rows := fits_rows hl hok
  have hBV : Below w0.heap.size w0 V0 := hb1.trans (hTB.below.mono hz1)
  have y2 := (hBV.cell (p := ⟨w.heap.size + 1, 0, none⟩) (show w.heap.size + 1 < w0.heap.size by omega)).trans x2
  have y3 := (hBV.frozen (p := ⟨w.heap.size + 1, 0, none⟩) (show w.heap.size + 1 < w0.heap.size by omega)).trans x3
  have hBw : Below w.heap.size w V0 := hu.trans (hBV.mono (by omega))
  have htb : w.heap.size + 2 ≤ tb := by have := hTB.lo; omega
  have hwV : w.heap.size + 2 ≤ V0.heap.size := by have := hTB.lt; omega
  have hlr : rows.length ≤ 168 := hl
  have t0 := hTB.t0
  have t1 := hTB.t1
  have hec := each_call (.slice o1 rows.length c1) (.slice o2 n2 c2) rows S V0 hfits hTB.at_
  clear hBV qa0 qa1 qa2 qa3 q0 q1 q2 q3 x2 x3 hu hua hT hb1 hz1 hlw hz hok
  gi_wp2
  refine ⟨trivial, (callsIn_wide.2 hec).mono ?_⟩
  rintro e w5 ⟨ob, s, T, rfl, hE⟩
  clear hec t0 t1
  replace y2 := (hE.below.cell (p := ⟨w.heap.size + 1, 0, none⟩) (show w.heap.size + 1 < V0.heap.size by omega)).trans y2
  replace y3 := (hE.below.frozen (p := ⟨w.heap.size + 1, 0, none⟩) (show w.heap.size + 1 < V0.heap.size by omega)).trans y3
  replace hBw := hBw.trans (hE.below.mono (by omega))
  replace hTB := hTB.go hE.below
  have hz5 := hE.below.size
  gi_wp2
  have hu6 : Below w5.heap.size w5 (w5.alloc (.cells #[.int .i64 0] 3)) := by go_grown
  have hI6 : EaI w5 0 (w5.alloc (.cells #[.int .i64 0] 3)) := ⟨hu6, by simp [go_sem], by simp [go_sem], by simp only [World.size_alloc]; omega⟩
  have hz6 : (w5.alloc (.cells #[.int .i64 0] 3)).heap.size ≤ w5.heap.size + 1 := by simp only [World.size_alloc]; omega
  generalize w5.alloc (.cells #[.int .i64 0] 3) = w6 at *
  have hz7 := hI6.size
  have hsq := each_seq 8 ob rows T s V0 w5 (by omega) hfits hE
  have hseq := seq_later hsq hu6
  have eg := enters_of Tryd.func23 (by kernel_rfl) rfl
  have HSQ := Lib.hid hsq
  clear hsq hnn hE
  refine range_law rfl (by omega) (gf := 23) (lb := #[.pointer (some ⟨ob, 0, none⟩)]) rfl trivial eg hseq (fun _ => rfl) (fun h k => h.trans k)
    (fun W l o o' hl _ _ => Kept.put W l o' (by omega)) (fun W W' hs hb => Kept.of hb (by omega))
    (fun pre x W W' h hb => ⟨h.1, h.2.1, h.2.2.go hb⟩) (fun pre x W l o o' h hl hh h1 h2 => ⟨h.1, h.2.1, SliceAt.putObj h.2.2 hh h1 h2⟩)
    (fun pre W => ∃ k : Int, Hid (k = pre.length) ∧ EaI w5 k W)
    (fun cd pre W => False)
    (fun pre W W' hs h hb => by obtain ⟨k, h1, h2⟩ := h; exact ⟨k, h1, h2.go (hb.mono hz7)⟩)
    (fun cd pre W W' hs h hb => h)
    ⟨0, rfl, hI6⟩
    (fun x W0 => { tmps := #[.agg #[.int .i64 how, .int .i64 at_, .int .i64 n, .string (bs tx)], .int .i64 many, .pointer (some ⟨w.heap.size, 0, none⟩), undef, .pointer (some ⟨w.heap.size + 1, 0, none⟩), .bool true, .pointer (some ⟨tb, 0, none⟩), .func (.func 23) #[] #[.pointer (some ⟨ob, 0, none⟩)], .pointer (some ⟨w5.heap.size, 0, none⟩), .int .i64 (x.1 : Int), .pointer (some ⟨W0.heap.size, 0, none⟩), undef, undef, undef, .bool true, u15, u16, u17, .agg #[.slice o1 rows.length c1, .slice o2 n2 c2], .func (.func 23) #[] #[.pointer (some ⟨ob, 0, none⟩)], .func (.func 23) #[] #[.pointer (some ⟨ob, 0, none⟩)], .bool false, .func (.func 23) #[] #[.pointer (some ⟨ob, 0, none⟩)], .int .i64 (x.1 : Int), .agg #[.string (bs (rows.getD x.1 default).c0), .string (bs (rows.getD x.1 default).c1), .string (bs (rows.getD x.1 default).c2), .string (bs (rows.getD x.1 default).c3), .string (bs (rows.getD x.1 default).c4), .bool (rows.getD x.1 default).m, .int .i64 (rows.getD x.1 default).tag, .int .i64 (rows.getD x.1 default).base, .int .i64 (rows.getD x.1 default).num, .int .i64 (rows.getD x.1 default).den, .int .i64 (rows.getD x.1 default).ten, x.2], u25, u26, u27, u28, u29, u30, u31, u32, u33, u34, u35, u36, u37, u38, u39, u40, u41, u42, u43, u44, u45, u46, u47, u48, u49, u50, u51, u52, u53, u54, u55, u56, u57, u58, u59, u60, u61, u62, u63, u64, u65, u66, u67, u68, u69, u70], defers := [] })
    (fun x W0 W => AtomBox W W0.heap.size (rows.getD x.1 default) x.2) (fun x W0 W l o o' h hl hh h1 h2 => Grid.putObj h hh h1 h2) ?assign ?body ?done ?stop
  case assign =>
    rintro l pre ⟨k, sx⟩ W KK hI hG hK
    obtain ⟨os, cs, hsl⟩ := SliceAt.slice hG.2.2
    dsimp only at hsl
    subst hsl
    have hbx := AtomBox.new W (rows.getD k default) (.slice os (rows.getD k default).ts.length cs)
    have hb := (Below.refl W.heap.size W).alloc (Nat.le_refl _) (.cells ((rows.getD k default).cs (.slice os (rows.getD k default).ts.length cs)) 40)
    have HK := hK _ hb hbx
    clear hbx hb hK hI hG
    simp only [encA, Row.cs] at HK ⊢
    generalize rows.getD k default = r at HK ⊢
    gi_wp2
    exact HK
  case body =>
    rintro l pre ⟨k, sx⟩ W0 W hs0 ⟨kk, hkk, hI⟩ ⟨hk, hkn, hts⟩ hR
    dsimp only at hk hkn hts hR ⊢
    have hke : kk = (k : Int) := by rw [hkk.out, hk]
    subst hke
    have hkW := hI.size
    have HPK := Lib.hid hk
    clear hk hkk
    have hTW := hTB.go hI.below
    obtain ⟨b, rfl⟩ : ∃ b, o1 = some ⟨b, 0, none⟩ := by
      rcases hTW.at_.1 with ⟨h0, _⟩ | ⟨b', c', he, _⟩
      · omega
      · injection he with e1 e2 e3
        exact ⟨b', e1⟩
    have hg : Grid W b 12 rows.length (cellA rows S) := by
      rcases hTW.at_.1 with ⟨h0, _⟩ | ⟨b', c', he, _, _, hg⟩
      · omega
      · injection he with e1 e2 e3
        injection e1 with e1
        injection e1 with e1
        rw [e1]
        exact hg
    have hts2 := hTW.at_.2 k hkn
    obtain ⟨r, hr⟩ : ∃ r, rows.getD k default = r := ⟨_, rfl⟩
    have hrl := hfits.ts k
    rw [hr] at hts hR hrl hts2 ⊢
    obtain ⟨os, cs, rfl⟩ := SliceAt.slice hts
    have hrow := row_cells hg k hkn r hr
    have HR := Lib.hid hr
    clear hr
    generalize S k = sk at hts2 hrow
    obtain ⟨ok, ck, rfl⟩ := SliceAt.slice hts2
    obtain ⟨d0, d1, d2, d3, d4, d5, d6, d7, d8, d9, d10, d11⟩ := hrow
    obtain ⟨x0, x1, x2, x3, x4, x5, x6, x7, x8, x9, x10, x11⟩ := AtomBox.cells hR
    have hsame := fun Y (hY : Below W.heap.size W Y) => same_yes r _ _ Y (hts.go hY) (hts2.go hY) hrl
    have HSM := Lib.hid hsame
    simp only [Row.cs] at HSM
    have t0 := hTW.t0
    have nb := hI.nb
    have hki : (k : Int) < rows.length := by omega
    clear hsame hg hTW
    have hnl : ¬ rows.length ≤ k := by omega
    gi_upto_region 12 with fail
    gi_cut [11] from 25 (fun x wx => x = .bool true ∧ Below W.heap.size W wx)
    case first =>
      gi_region_with (first | (refine ⟨trivial, ?_⟩; gi_at_call 11; refine (CallsIn.inRound l (callsIn_wide.2 (HSM.out _ (Below.refl _ _).drew))).mono ?_; rintro e W2 ⟨rfl, hb2⟩))
      all_goals
        gi_wp2_with fail
        gi_meet
        case rel => exact ⟨rfl, (Below.refl _ _).drew.trans hb2⟩
    obtain ⟨rfl, hbc⟩ := hcut
    clear x0 x1 x2 x3 x4 x5 x6 x7 x8 x9 x10 x11 d0 d1 d2 d3 d4 d5 d6 d7 d8 d9 d10 d11 t0 nb HSM hts hts2 hR
    have hI2 := hI.go (hbc.mono (by omega))
    have nb := hI2.nb
    have nf := hI2.nf
    have hlr2 : (k : Int) ≤ 168 := by omega
    gi_wp2
    refine ⟨(keeps_below hbc).trans (keeps_set _ _ _ _ (by omega)), (Kept.of hbc (by omega)).trans (Kept.cell _ _ _ _ (Nat.le_refl _)), (k : Int) + 1, ?_, hI2.set _⟩
    show _ = _
    rw [List.length_append, ← HPK.out]; simp
  case done =>
    intro xs V hSx hI hD
    obtain ⟨kk, hkk, hI⟩ := hI
    have hx : xs.length = rows.length := hSx
    have hke : kk = (rows.length : Int) := by rw [hkk.out, hx]
    subst hke
    have hDl : w6.heap.size < V.heap.size := (Array.getElem?_eq_some_iff.1 hD).1
    have HDD := Lib.hid hD
    clear hkk hx hSx hD
    obtain ⟨tk, htk⟩ : ∃ a, restN many 60 = a := ⟨_, rfl⟩
    have tk60 : tk < 60 := by rw [← htk]; exact restN_lt many 60 (by omega)
    have rt := fun W => rest_any many 60 W (by omega) (by omega)
    rw [htk] at rt
    clear htk
    gi_wp2
    refine ⟨trivial, (callsIn_wide.2 (rt _)).mono ?_⟩
    rintro e w' ⟨rfl, rfl⟩
    gi_wp2
    have hwr := hI.size
    have hu8 : Below V.heap.size V ((V.alloc (.cells #[.int .i64 (tk : Int)] 3)).alloc (.cells #[.int .i64 0] 3)) := by go_grown
    have hH : EbI w5 rows.length V.heap.size w6.heap.size tk 0 ((V.alloc (.cells #[.int .i64 (tk : Int)] 3)).alloc (.cells #[.int .i64 0] 3)) := ⟨hI.go (hu8.mono hwr), by simp [go_sem], by simp [go_sem], by simp [go_sem], (hu8.block _ hDl).trans HDD.out, hwr, hDl, by simp only [World.size_alloc]; omega⟩
    have hz8 : ((V.alloc (.cells #[.int .i64 (tk : Int)] 3)).alloc (.cells #[.int .i64 0] 3)).heap.size ≤ V.heap.size + 2 := by simp only [World.size_alloc]; omega
    generalize ((V.alloc (.cells #[.int .i64 (tk : Int)] 3)).alloc (.cells #[.int .i64 0] 3)) = w8 at *
    have hz9 := hH.size
    have hseq2 := seq_later HSQ.out hH.a.below
    clear rt hu8
    refine range_law rfl (by omega) (gf := 23) (lb := #[.pointer (some ⟨ob, 0, none⟩)]) rfl trivial eg hseq2 (fun _ => rfl) (fun h k => h.trans k)
      (fun W l o o' hl _ _ => Kept.put W l o' (by omega)) (fun W W' hs hb => Kept.of hb (by omega))
      (fun pre x W W' h hb => ⟨h.1, h.2.1, h.2.2.go hb⟩) (fun pre x W l o o' h hl hh h1 h2 => ⟨h.1, h.2.1, SliceAt.putObj h.2.2 hh h1 h2⟩)
      (fun pre W => ∃ h : Int, Hid (h = pre.length ∧ h ≤ tk) ∧ EbI w5 rows.length V.heap.size w6.heap.size tk h W)
      (fun cd pre W => cd = .exit 2 ∧ Hid ((tk : Int) < rows.length) ∧ EbI w5 rows.length V.heap.size w6.heap.size tk tk W)
      (fun pre W W' hs h hb => by obtain ⟨h, h1, h2⟩ := h; exact ⟨h, h1, h2.go (hb.mono hz9)⟩)
      (fun cd pre W W' hs h hb => ⟨h.1, h.2.1, h.2.2.go (hb.mono hz9)⟩)
      ⟨0, ⟨rfl, by omega⟩, hH⟩
      (fun x W0 => { tmps := #[.agg #[.int .i64 how, .int .i64 at_, .int .i64 n, .string (bs tx)], .int .i64 many, .pointer (some ⟨w.heap.size, 0, none⟩), undef, .pointer (some ⟨w.heap.size + 1, 0, none⟩), .bool true, .pointer (some ⟨tb, 0, none⟩), .func (.func 23) #[] #[.pointer (some ⟨ob, 0, none⟩)], .pointer (some ⟨w5.heap.size, 0, none⟩), undef, undef, undef, .pointer (some ⟨V.heap.size, 0, none⟩), .pointer (some ⟨V.heap.size + 1, 0, none⟩), .bool true, u15, u16, u17, .agg #[.slice o1 rows.length c1, .slice o2 n2 c2], .func (.func 23) #[] #[.pointer (some ⟨ob, 0, none⟩)], .func (.func 23) #[] #[.pointer (some ⟨ob, 0, none⟩)], .bool false, .func (.func 23) #[] #[.pointer (some ⟨ob, 0, none⟩)], u23, u24, u25, u26, u27, u28, u29, u30, u31, u32, u33, u34, u35, u36, u37, u38, u39, u40, u41, u42, u43, u44, u45, .int .i64 many, .int .i64 (tk : Int), .func (.func 23) #[] #[.pointer (some ⟨ob, 0, none⟩)], .int .i64 (x.1 : Int), .agg #[.string (bs (rows.getD x.1 default).c0), .string (bs (rows.getD x.1 default).c1), .string (bs (rows.getD x.1 default).c2), .string (bs (rows.getD x.1 default).c3), .string (bs (rows.getD x.1 default).c4), .bool (rows.getD x.1 default).m, .int .i64 (rows.getD x.1 default).tag, .int .i64 (rows.getD x.1 default).base, .int .i64 (rows.getD x.1 default).num, .int .i64 (rows.getD x.1 default).den, .int .i64 (rows.getD x.1 default).ten, x.2], u51, u52, u53, u54, u55, u56, u57, u58, u59, u60, u61, u62, u63, u64, u65, u66, u67, u68, u69, u70], defers := [] })
      (fun x W0 W => True) (fun x W0 W l o o' h _ _ _ _ => trivial) ?assign2 ?body2 ?done2 ?stop2
    case assign2 =>
      rintro l pre ⟨k, sx⟩ W KK hI hG hK
      have HK := hK _ (Below.refl _ _) trivial
      clear hK hI hG
      simp only [encA, Row.cs] at HK ⊢
      generalize rows.getD k default = r at HK ⊢
      gi_wp2
      exact Eq.mp (congrArg (fun t => KK { tmps := t, defers := [] } W) (by kernel_rfl)) HK
    case body2 =>
      rintro l pre ⟨k, sx⟩ W0 W hs0 ⟨h, hh, hI2⟩ hG _
      have hk1 := hG.1
      have hk2 := hG.2.1
      dsimp only at hk1 hk2 ⊢
      have hh0 : 0 ≤ h ∧ h ≤ 60 := by have := hh.out; omega
      have HLE : Hid (h < rows.length) := by
        have h1 := hh.out.1
        show _ < _
        omega
      have HP := Lib.hid hh.out.1
      clear hk1 hk2 hG
      have q1 := hI2.x1
      have q2 := hI2.x2
      have q3 := hI2.x3
      by_cases e : h = (tk : Int)
      · have eb : (h == (tk : Int)) = true := by simpa using e
        have HE := Lib.hid e
        clear e
        gi_wp2
        refine ⟨KeepsFrom.refl _ _, rfl, ?_, ?_⟩
        · have h1 := HLE.out
          have h3 := HE.out
          show _ < _
          omega
        · rw [← HE.out]; exact HE.out ▸ hI2
      · have eb : (h == (tk : Int)) = false := by simpa using e
        have HE := Lib.hid e
        clear e
        have hse := hI2.set (h + 1)
        have hlo := hI2.lo
        gi_wp2
        refine ⟨keeps_set _ _ _ _ (by omega), Kept.cell _ _ _ _ (by omega), h + 1, ⟨?_, ?_⟩, hse⟩
        · rw [List.length_append, HP.out]; simp
        · have h1 := HE.out
          have h2 := hh.out.2
          omega
    case done2 =>
      intro xs V2 hSx hI2 hD2
      obtain ⟨h, hh, hI2⟩ := hI2
      have hx : xs.length = rows.length := hSx
      have HH : Hid (h = (rows.length : Int) ∧ (rows.length : Int) ≤ (tk : Int)) := by
        have h1 := hh.out
        refine ⟨?_, ?_⟩ <;> omega
      obtain ⟨he, hle⟩ := HH.out
      subst he
      have hlo := hI2.lo
      clear hx hSx hh HH
      rcases Int.lt_or_eq_of_le hle with hls | hls
      · clear hle
        have q1 := hI2.x1
        have q2 := hI2.x2
        have q4 := hI2.a.nb
        have hT2 := hTB.go hI2.a.below
        have t0 := hT2.t0
        have r1 := (hI2.a.below.cell (p := ⟨w.heap.size + 1, 0, none⟩) (show w.heap.size + 1 < w5.heap.size by omega)).trans y2
        have r2 := (hI2.a.below.frozen (p := ⟨w.heap.size + 1, 0, none⟩) (show w.heap.size + 1 < w5.heap.size by omega)).trans y3
        have hBe := hBw.trans (hI2.a.below.mono (by omega))
        have hm := hI2.m
        clear hT2
        gi_wp2
        all_goals exact each_finish w _ _ _ _ r1 hBe hD2 hm (by omega) (by omega) (by omega) rfl
      · have hbq : ((rows.length : Int) == (tk : Int)) = true := by simpa using hls
        clear hls
        have q1 := hI2.x1
        have q2 := hI2.x2
        have q4 := hI2.a.nb
        have hT2 := hTB.go hI2.a.below
        have t0 := hT2.t0
        have r1 := (hI2.a.below.cell (p := ⟨w.heap.size + 1, 0, none⟩) (show w.heap.size + 1 < w5.heap.size by omega)).trans y2
        have r2 := (hI2.a.below.frozen (p := ⟨w.heap.size + 1, 0, none⟩) (show w.heap.size + 1 < w5.heap.size by omega)).trans y3
        have hBe := hBw.trans (hI2.a.below.mono (by omega))
        have hm := hI2.m
        clear hT2
        gi_wp2
        all_goals exact each_finish w _ _ _ _ r1 hBe hD2 hm (by omega) (by omega) (by omega) rfl
    case stop2 =>
      intro cd pre V2 hSx hI2 hD2
      obtain ⟨rfl, hlt, hI2⟩ := hI2
      have hlt := hlt.out
      have hlo := hI2.lo
      clear hSx
      · skip
        have q1 := hI2.x1
        have q2 := hI2.x2
        have q4 := hI2.a.nb
        have hT2 := hTB.go hI2.a.below
        have t0 := hT2.t0
        have r1 := (hI2.a.below.cell (p := ⟨w.heap.size + 1, 0, none⟩) (show w.heap.size + 1 < w5.heap.size by omega)).trans y2
        have r2 := (hI2.a.below.frozen (p := ⟨w.heap.size + 1, 0, none⟩) (show w.heap.size + 1 < w5.heap.size by omega)).trans y3
        have hBe := hBw.trans (hI2.a.below.mono (by omega))
        have hm := hI2.m
        clear hT2
        gi_wp2
        all_goals exact each_finish w _ _ _ _ r1 hBe hD2 hm (by omega) (by omega) (by omega) rfl
  case stop =>
    intro cd pre V hSx hI hD
    exact hI.elim

theorem each_walk (how at_ n : Int) (tx : ByteArray) (many : Int) (w : World) (hT : Frac.OfTen w) (hn : -9223372036854775808 ≤ n ∧ n ≤ 9223372036854775807) (htx : tx.size ≤ 9223372036854775807) :
    Calls Tryd.prog 4 #[.agg #[.int .i64 how, .int .i64 at_, .int .i64 n, .string tx], .int .i64 many] w fun e w' => e = .returned (.bool true) ∧ Below w.heap.size w w' := by
  have := callsIn_wide.1 (each_in how at_ n many tx.data.toList w hT hn (by rw [← bs_size, bs_of]; exact htx))
  rw [bs_of] at this
  exact this

theorem each_law (how at_ n : Int) (tx : ByteArray) (many : Int) (w : World) (hT : Frac.OfTen w) (_ : -9223372036854775808 ≤ how ∧ how ≤ 9223372036854775807) (_ : -9223372036854775808 ≤ at_ ∧ at_ ≤ 9223372036854775807) (hn : -9223372036854775808 ≤ n ∧ n ≤ 9223372036854775807) (htx : tx.size ≤ maxLen) (_ : -9223372036854775808 ≤ many ∧ many ≤ 9223372036854775807) :
    Calls Tryd.prog 4 #[.agg #[.int .i64 how, .int .i64 at_, .int .i64 n, .string tx], .int .i64 many] w fun e w' => e = .returned (.bool true) ∧ Below w.heap.size w w' :=
  each_walk how at_ n tx many w hT hn (Nat.le_trans htx (by decide))

end Go.Proofs.YtpmibcdmaaagjaaDoor.Atoms

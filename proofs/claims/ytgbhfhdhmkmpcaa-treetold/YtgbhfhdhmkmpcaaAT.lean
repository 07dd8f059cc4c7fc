/-
  What atoms.derived, others and prefixes lay, run by the kernel.
-/
import Derived.Test.YtgbhfhdhmkmpcaaAF
import Derived.Shelf.Abstract
namespace Go.Proofs.Ytgbhfhdhmkmpcaa.Atoms
open Go.RowKit Go.Shelf
set_option linter.unusedVariables false
set_option linter.unusedSimpArgs false

set_option maxRecDepth 100000 in
theorem to_any (a b : Int) (w : World) :
    Calls Try.prog 42 #[.int .i64 a, .int .i64 b] w fun e w' => e = .returned (.agg #[.int .i64 a, .int .i64 b]) ∧ w' = w.alloc (.cells #[.int .i64 a, .int .i64 b] 85) := by
  go_enter Try.func42, Try.ntmps42
  go_wp2
  refine bodyPost_ret (v := .agg #[.int .i64 a, .int .i64 b]) (by simp [results, Try.results42, go_sem]) rfl ⟨rfl, rfl⟩
/-- What to answers. -/
def knowTo (f : FuncId) (args : Array Value) : Option (Value × List Obj) :=
  match f == 42, args.toList with
  | true, [.int .i64 a, .int .i64 b] => some (.agg #[.int .i64 a, .int .i64 b], [.cells #[.int .i64 a, .int .i64 b] 85])
  | _, _ => none
theorem known_to : Known Try.prog knowTo := by
  intro f args v os h w
  unfold knowTo at h
  split at h
  · rename_i a b hf hl
    simp only [Option.some.injEq, Prod.mk.injEq] at h
    obtain ⟨rfl, rfl⟩ := h
    have hf' : f = 42 := by simpa using hf
    subst hf'
    obtain rfl : args = #[.int .i64 a, .int .i64 b] := by cases args; simp_all
    refine (to_any a b w).mono ?_
    rintro e w' ⟨rfl, rfl⟩
    exact ⟨rfl, laid_alloc' _ _⟩
  · cases h

/-- A row of operations, as far as k; of the frame then one slot is told. -/
theorem wpList_run {P : Program} {K : FuncId → Array Value → Option (Value × List Obj)} (hK : Known P K) {ops : Array Oper} {Q : Exit → Act → World → Prop} (w : World) (k : Nat) (l : List Oper) (a : Act) (s N : Nat) (v : Value) (os' : List Obj)
    (h : (evOps P K w.heap.size (l.take k) a []).map (fun r => (r.1.tmps.getD s undef, r.1.tmps.size, r.1.defers.isEmpty, r.2)) = some (v, N, true, os'))
    (hr : ∀ a' : Act, a'.tmps.getD s undef = v → a'.tmps.size = N → a'.defers = [] → wpList P ops Q (l.drop k) a' (laid w os')) : wpList P ops Q l a w := by
  obtain ⟨⟨a', o'⟩, h1, h2⟩ := Option.map_eq_some_iff.1 h
  simp only [Prod.mk.injEq] at h2
  obtain ⟨e1, e2, e3, rfl⟩ := h2
  have hw := wpList_ev hK w (l.drop k) (l.take k) a [] a' o' h1 (hr a' e1 e2 (by simpa using e3))
  rw [List.take_append_drop, laid_nil] at hw
  exact hw
/-- The last two operations: a call, and its answer into the first slot. -/
theorem tail_call {P : Program} {ops : Array Oper} {Q : Exit → Act → World → Prop} {l : List Oper} {a : Act} {w : World} {g : FuncId} {s d : Nat} {T : Array TypeId} {v : Value} {R : Ending → World → Prop}
    (hl : l.map (fun o => (o.guard.isNone, o.dst, o.op)) = [(true, some d, .call { callee := .value (.func g), args := #[.tmp s], argTypes := T }), (true, some 0, .assign (.tmp d))])
    (hv : a.tmps.getD s undef = v) (hd : d < a.tmps.size) (he : ∀ args w, (callFunc g args).run P w = .ok (.enter g args) w)
    (hc : Calls P g #[v] w R) (hR : ∀ e w', R e w' → ∃ v', e = .returned v') (hQ : ∀ (a' : Act) (v' : Value) (w' : World), R (.returned v') w' → a'.tmps.getD 0 undef = v' → a'.defers = a.defers → Q .normal a' w') : wpList P ops Q l a w := by
  rcases l with _ | ⟨o1, _ | ⟨o2, _ | ⟨o3, l⟩⟩⟩
  · simp at hl
  · simp at hl
  · simp only [List.map_cons, List.map_nil, List.cons.injEq, Prod.mk.injEq, and_true] at hl
    obtain ⟨⟨g1, d1, p1⟩, g2, d2, p2⟩ := hl
    refine wpList_plain (by simpa using g1) fun K hK => ?_
    unfold Oper.wp execOp
    simp only [p1, resolve, Act.eval, Sem.run_bind, Sem.run_pure, Result.andThen_ok, List.map_toArray, List.map_cons, List.map_nil, hv, invoke, Deferred.ofValue]
    simp only [Array.append_empty, he, Result.andThen_ok, Oper.upon]
    refine hc.mono ?_
    intro e w' hr
    obtain ⟨v', rfl⟩ := hR e w' hr
    refine hK _ _ ?_
    refine wpList_plain (by simpa using g2) fun K2 hK2 => ?_
    unfold Oper.wp execOp
    simp only [p2, Sem.run_pure, Oper.upon]
    refine hK2 _ _ (hQ _ v' w' hr ?_ ?_)
    · rw [d1, d2]
      simp only [Act.put, Act.eval]
      have h0 : 0 < a.tmps.size := by omega
      simp [Array.getD, h0, hd]
    · rw [d1, d2]; rfl
  · simp at hl

/-! ### What is laid -/

def termsC (ts : List (Int × Int)) : Array Value := (flat 2 ts.length (cellT ts)).toArray
/-- The blocks of a row's terms. -/
def layT (r : Row) : List Obj := if r.ts.isEmpty then [] else r.ts.map (fun t => .cells #[.int .i64 t.1, .int .i64 t.2] 85) ++ [.cells (termsC r.ts) 85]
def offs (rows : List Row) (i : Nat) : Nat := ((rows.take i).flatMap layT).length
def sliceOf (n : Nat) (rows : List Row) (i : Nat) : Value :=
  if (rows.getD i default).ts.isEmpty then .slice none 0 0 else .slice (some ⟨n + (offs rows i + (rows.getD i default).ts.length), 0, none⟩) (rows.getD i default).ts.length (rows.getD i default).ts.length
def atomsAt (rows : List Row) : Nat := (rows.flatMap layT).length
def layRows (n : Nat) (rows : List Row) : List Obj := rows.flatMap layT ++ [.cells (flat 12 rows.length (cellA rows (sliceOf n rows))).toArray 73]
theorem flatMap_at (rows : List Row) (i : Nat) (hi : i < rows.length) (k : Nat) (hk : k < (layT (rows.getD i default)).length) : (rows.flatMap layT)[offs rows i + k]? = (layT (rows.getD i default))[k]? := by
  have hd : rows.getD i default = rows[i] := by rw [List.getD_eq_getElem?_getD, List.getElem?_eq_getElem hi]; rfl
  rw [hd] at hk ⊢
  have e : rows = rows.take i ++ rows[i] :: rows.drop (i + 1) := by simp
  have e2 : rows.flatMap layT = (rows.take i).flatMap layT ++ (layT rows[i] ++ (rows.drop (i + 1)).flatMap layT) := by
    conv => lhs; rw [e]
    rw [List.flatMap_append, List.flatMap_cons]
  rw [e2]
  unfold offs
  rw [List.getElem?_append_right (by omega), Nat.add_sub_cancel_left, List.getElem?_append_left hk]
theorem rows_grid (w : World) (rows : List Row) : Grid (laid w (layRows w.heap.size rows)) (w.heap.size + atomsAt rows) 12 rows.length (cellA rows (sliceOf w.heap.size rows)) := by
  refine Grid.old (cs := (flat 12 rows.length (cellA rows (sliceOf w.heap.size rows))).toArray) (t := 73) ?_ ?_
  · rw [laid_get]
    unfold layRows atomsAt
    rw [List.getElem?_append_right (by omega)]
    simp
  · intro i hi j hj
    rw [List.getElem?_toArray]
    exact flat_at hi hj
theorem rows_terms (w : World) (rows : List Row) : TermsAll (laid w (layRows w.heap.size rows)) rows (sliceOf w.heap.size rows) := by
  intro i hi
  unfold sliceOf
  by_cases h : (rows.getD i default).ts.isEmpty = true
  · rw [if_pos h]
    have h0 : (rows.getD i default).ts = [] := by simpa using h
    rw [h0]
    exact .inl ⟨rfl, rfl⟩
  · rw [if_neg h]
    have hb : (laid w (layRows w.heap.size rows)).heap[w.heap.size + (offs rows i + (rows.getD i default).ts.length)]? = some (.cells (termsC (rows.getD i default).ts) 85) := by
      rw [laid_get]
      unfold layRows
      have hlt : (rows.getD i default).ts.length < (layT (rows.getD i default)).length := by unfold layT; rw [if_neg h]; simp
      have := flatMap_at rows i hi _ hlt
      rw [List.getElem?_append_left (by
        have hs : (rows.flatMap layT)[offs rows i + (rows.getD i default).ts.length]? ≠ none := by rw [this, List.getElem?_eq_getElem hlt]; simp
        exact Nat.lt_of_not_le fun hle => hs (List.getElem?_eq_none hle)), this]
      unfold layT
      rw [if_neg h, List.getElem?_append_right (by simp)]
      simp
    refine .inr ⟨_, _, rfl, Nat.le_refl _, ?_, ?_⟩
    · have := Spare.of_cells hb
      have hs : (termsC (rows.getD i default).ts).size = (rows.getD i default).ts.length * 2 := by unfold termsC; rw [List.size_toArray, flat_length]
      rwa [hs] at this
    · refine Grid.old hb fun i' hi' j hj => ?_
      unfold termsC
      rw [List.getElem?_toArray]
      exact flat_at hi' hj
theorem slice_above (n : Nat) (rows : List Row) (i : Nat) : Above n (sliceOf n rows i) := by
  intro a m c e
  unfold sliceOf at e
  split at e
  · cases e
  · injection e with e1
    injection e1 with e1
    rw [← e1]
    show n ≤ n + _
    omega
/-- How a function ends that hands these rows back. -/
def RowsEnd (w : World) (rows : List Row) (e : Ending) (w' : World) : Prop :=
  ∃ s S, e = .returned s ∧ AtomsSl w' s rows S ∧ Above w.heap.size s ∧ (∀ i, i < rows.length → Above w.heap.size (S i)) ∧ Below w.heap.size w w'
theorem map_getD (rows : List Row) (i : Nat) (hi : i < rows.length) : (rows.map fillR).getD i default = fillR (rows.getD i default) := by
  rw [List.getD_eq_getElem?_getD, List.getD_eq_getElem?_getD]
  simp [List.getElem?_eq_getElem hi]
theorem rows_end (w : World) (rows : List Row) (hn : 0 < rows.length) {c : Nat} (hc : c = rows.length) {v : Value} {w' : World} (h : FilledEnd (laid w (layRows w.heap.size rows)) (w.heap.size + atomsAt rows) c rows (sliceOf w.heap.size rows) (.returned v) w') : RowsEnd w (rows.map fillR) (.returned v) w' := by
  obtain ⟨hv, hg, hO⟩ := h
  injection hv with hv
  have hx : ∃ x, w'.cell? ⟨w.heap.size + atomsAt rows, 0, none⟩ = some (.string x) := by
    have := hg.1 0 hn 0 (by omega)
    exact ⟨_, this⟩
  have hg0 := rows_grid w rows
  have hts := rows_terms w rows
  have hl : (rows.map fillR).length = rows.length := by simp
  subst hc
  refine ⟨v, sliceOf w.heap.size rows, rfl, ⟨?_, ?_⟩, ?_, fun i _ => slice_above _ _ _, (laid_below w _).trans (hO.below (by omega))⟩
  · rw [hl]
    refine .inr ⟨_, _, hv, Nat.le_refl _, ?_, hg⟩
    intro j hj
    have h1 := hg.flat (by omega) j _ (flat_get hj)
    rw [h1]; rfl
  · intro i hi
    rw [hl] at hi
    rw [map_getD rows i hi]
    have ht := hts i hi
    show SliceAt w' (sliceOf w.heap.size rows i) 2 (rows.getD i default).ts.length (cellT (rows.getD i default).ts)
    rcases ht with h0 | ⟨b, cc, he, hcc, hsp, hgt⟩
    · exact .inl h0
    · have hne : b ≠ w.heap.size + atomsAt rows := by
        intro e
        by_cases hz : (rows.getD i default).ts.length = 0
        · have : sliceOf w.heap.size rows i = .slice none 0 0 := by
            unfold sliceOf
            rw [if_pos (by simpa using hz)]
          rw [this] at he
          cases he
        · have h1 := hgt.1 0 (by omega) 0 (by omega)
          have h2 := hg0.1 0 hn 0 (by omega)
          rw [e] at h1
          rw [Nat.zero_mul] at h1 h2
          rw [h1] at h2
          simp [cellT, termCell, cellA, Row.cell, Row.cs] at h2
      exact .inr ⟨b, cc, he, hcc, hsp.block (hO.block b hne), hO.grid hgt hne⟩
  · rw [hv]
    intro a m c' e
    injection e with e1
    injection e1 with e1
    rw [← e1]
    show w.heap.size ≤ w.heap.size + _
    omega

end Go.Proofs.Ytgbhfhdhmkmpcaa.Atoms

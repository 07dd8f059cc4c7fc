/-
  Contract of atoms.filled: the numbers that a row leaves out. What atoms.derived, others and prefixes lay, run by the kernel. Contracts of atoms.prefixes, bases. Contracts of slices.Grow, slices.Concat of atoms. Contracts of atoms.derived, others. Contracts of atoms.Table, drachmlaw05.awake.
-/
import Derived.Test.YthofogokpolhdaaGreatDoorAS
import Derived.Shelf.Abstract
import Derived.Deep.WholeRow
import Derived.Deep.MidRow
import Derived.Lib.AppendZeros
namespace Go.Proofs.YthofogokpolhdaaGreatDoor.Atoms
open Go.RowKit
set_option linter.unusedVariables false
set_option linter.unusedSimpArgs false

/-- As far as it is filled: k rows. -/
def fillTo (rows : List Row) (k : Nat) : List Row := (rows.take k).map fillR ++ rows.drop k
theorem fillTo_len (rows : List Row) (k : Nat) : (fillTo rows k).length = rows.length := by
  simp [fillTo]; omega
theorem fillTo_end (rows : List Row) : fillTo rows rows.length = rows.map fillR := by simp [fillTo]
theorem fillTo_get (rows : List Row) (k i : Nat) (hi : i < rows.length) : (fillTo rows k).getD i default = if i < k then fillR (rows.getD i default) else rows.getD i default := by
  unfold fillTo
  rw [List.getD_eq_getElem?_getD, List.getD_eq_getElem?_getD]
  by_cases h : i < k
  · rw [if_pos h, List.getElem?_append_left (by simp; omega)]
    simp [h, List.getElem?_eq_getElem hi]
  · rw [if_neg h]
    by_cases hk : k ≤ rows.length
    · rw [List.getElem?_append_right (by simp; omega)]
      simp only [List.length_map, List.length_take, List.getElem?_drop]
      congr 1
      congr 1
      omega
    · omega
theorem fill_ts (rows : List Row) (k i : Nat) (hi : i < rows.length) : ((fillTo rows k).getD i default).ts = (rows.getD i default).ts := by
  rw [fillTo_get rows k i hi]
  split <;> rfl
/-- Only the block b has turned. -/
structure Only (b : Nat) (w w' : World) : Prop where
  os : w'.os = w.os
  tape : w'.tape = w.tape
  output : w'.output = w.output
  size : w'.heap.size = w.heap.size
  block : ∀ k, k ≠ b → w'.heap[k]? = w.heap[k]?
theorem Only.refl (b : Nat) (w : World) : Only b w w := ⟨rfl, rfl, rfl, rfl, fun _ _ => rfl⟩
theorem Only.set {b : Nat} {w w' : World} (h : Only b w w') (i : Nat) (u : Value) : Only b w (w'.setCell ⟨b, i, none⟩ u) :=
  ⟨h.os, h.tape, h.output, (World.size_setCell _ _ _).trans h.size, fun k hk => (Below.heap_setCell w' ⟨b, i, none⟩ u k hk).trans (h.block k hk)⟩
theorem Only.below {b B : Nat} {w w' : World} (h : Only b w w') (hb : B ≤ b) : Below B w w' := ⟨h.os, h.tape, h.output, Nat.le_of_eq h.size.symm, fun k hk => h.block k (by omega)⟩
theorem Only.grid {b : Nat} {w w' : World} (h : Only b w w') {b' k n : Nat} {f : Nat → Nat → Value} (hg : Grid w b' k n f) (hn : b' ≠ b) : Grid w' b' k n f := hg.block (Nat.le_of_eq h.size.symm) (h.block b' hn)
theorem upd_row (rows : List Row) (S : Nat → Value) (k : Nat) (hk : k < rows.length) (r : Row) (hr : rows.getD k default = r) :
    ∀ i, i < rows.length → ∀ j, j < 12 → upd (upd (upd (cellA (fillTo rows k) S) k 7 (.int .i64 (-1))) k 8 (.int .i64 (max r.num 1))) k 9 (.int .i64 (max r.den 1)) i j = cellA (fillTo rows (k + 1)) S i j := by
  intro i hi j hj
  unfold upd cellA
  rw [fillTo_get rows k i hi, fillTo_get rows (k + 1) i hi]
  by_cases e : i = k
  · subst e
    rw [if_neg (Nat.lt_irrefl _), if_pos (Nat.lt_succ_self _), hr]
    unfold Row.cell Row.cs fillR
    match j, hj with
    | 0, _ => simp
    | 1, _ => simp
    | 2, _ => simp
    | 3, _ => simp
    | 4, _ => simp
    | 5, _ => simp
    | 6, _ => simp
    | 7, _ => simp
    | 8, _ => simp
    | 9, _ => simp
    | 10, _ => simp
    | 11, _ => simp
  · have : (i < k) ↔ (i < k + 1) := by omega
    simp only [e, this, false_and, if_false]
/-- How filled ends. -/
def FilledEnd (w : World) (b c : Nat) (rows : List Row) (S : Nat → Value) (e : Ending) (w' : World) : Prop :=
  e = .returned (.slice (some ⟨b, 0, none⟩) rows.length c) ∧ Grid w' b 12 rows.length (cellA (rows.map fillR) S) ∧ Only b w w'

set_option maxRecDepth 100000 in
set_option maxHeartbeats 4000000 in
theorem filled_any (b c : Nat) (rows : List Row) (S : Nat → Value) (w : World) (hg : Grid w b 12 rows.length (cellA rows S)) (hn : rows.length ≤ 1000000) :
    Calls Tryz.prog 98 #[.slice (some ⟨b, 0, none⟩) rows.length c] w (FilledEnd w b c rows S) := by
  go_enter Tryz.func98, Tryz.ntmps98
  go_wp2
  go_loopw [6] (fun x wr => ∃ k : Nat, x = .int .i64 k ∧ k ≤ rows.length ∧ Grid wr b 12 rows.length (cellA (fillTo rows k) S) ∧ Only b w wr) (fun x _ => (rows.length - intOf x).toNat)
  case atStart => exact ⟨0, rfl, by omega, hg, Only.refl _ _⟩
  case round =>
    clear hg
    obtain ⟨k, rfl, hk, hg, hO⟩ := hrel
    by_cases hkn : k < rows.length
    · have hki : (k : Int) < (rows.length : Int) := by omega
      obtain ⟨r, hr⟩ : ∃ r, rows.getD k default = r := ⟨_, rfl⟩
      have hr' : (fillTo rows k).getD k default = r := by rw [fillTo_get rows k k hkn, if_neg (Nat.lt_irrefl _)]; exact hr
      obtain ⟨d0, d1, d2, d3, d4, d5, d6, d7, d8, d9, d10, d11⟩ := row_cells hg k hkn r hr'
      have f7 := hg.2.1 (k * 12 + 7)
      have f8 := hg.2.1 (k * 12 + 8)
      have f9 := hg.2.1 (k * 12 + 9)
      have hG := (((hg.set k 7 hkn (by omega) (.int .i64 (-1))).set k 8 hkn (by omega) (.int .i64 (max r.num 1))).set k 9 hkn (by omega) (.int .i64 (max r.den 1))).ext (upd_row rows S k hkn r hr)
      have hO3 := ((hO.set (k * 12 + 7) (.int .i64 (-1))).set (k * 12 + 8) (.int .i64 (max r.num 1))).set (k * 12 + 9) (.int .i64 (max r.den 1))
      have HR := Lib.hid hr
      have HR' := Lib.hid hr'
      clear hr hr'
      have HN : Hid ((if r.num < 1 then 1 else r.num) = max r.num 1) := by show _ = _; split <;> omega
      have HD : Hid ((if r.den < 1 then 1 else r.den) = max r.den 1) := by show _ = _; split <;> omega
      have HG := Lib.hid hG
      have HO := Lib.hid hO3
      clear hG hO3
      go_wp2
      rw [HN.out, HD.out]
      refine ⟨⟨k + 1, rfl, by omega, HG.out, HO.out⟩, ?_⟩
      simp only [intOf]; omega
    · have hke : k = rows.length := by omega
      subst hke
      rw [fillTo_end] at hg
      go_wp2
      go_ret
      exact ⟨rfl, hg, hO⟩

end Go.Proofs.YthofogokpolhdaaGreatDoor.Atoms

namespace Go.Proofs.YthofogokpolhdaaGreatDoor.Atoms
open Go.RowKit Go.Shelf
set_option linter.unusedVariables false
set_option linter.unusedSimpArgs false

set_option maxRecDepth 100000 in
theorem to_any (a b : Int) (w : World) :
    Calls Tryz.prog 99 #[.int .i64 a, .int .i64 b] w fun e w' => e = .returned (.agg #[.int .i64 a, .int .i64 b]) ∧ w' = w.alloc (.cells #[.int .i64 a, .int .i64 b] 147) := by
  go_enter Tryz.func99, Tryz.ntmps99
  go_wp2
  refine bodyPost_ret (v := .agg #[.int .i64 a, .int .i64 b]) (by simp [results, Tryz.results99, go_sem]) rfl ⟨rfl, rfl⟩
/-- What to answers. -/
def knowTo (f : FuncId) (args : Array Value) : Option (Value × List Obj) :=
  match f == 99, args.toList with
  | true, [.int .i64 a, .int .i64 b] => some (.agg #[.int .i64 a, .int .i64 b], [.cells #[.int .i64 a, .int .i64 b] 147])
  | _, _ => none
theorem known_to : Known Tryz.prog knowTo := by
  intro f args v os h w
  unfold knowTo at h
  split at h
  · rename_i a b hf hl
    simp only [Option.some.injEq, Prod.mk.injEq] at h
    obtain ⟨rfl, rfl⟩ := h
    have hf' : f = 99 := by simpa using hf
    subst hf'
    obtain rfl : args = #[.int .i64 a, .int .i64 b] := by cases args; simp_all
    refine (to_any a b w).mono ?_
    rintro e w' ⟨rfl, rfl⟩
    exact ⟨rfl, laid_alloc' _ _⟩
  · cases h

/-- A row of operations, as far as k; of the frame then one slot is told. -/
theorem wpList_run {P : Program} {K : FuncId → Array Value → Option (Value × List Obj)} (hK : Known P K) {ops : Array Oper} {Q : Exit → Act → World → Prop} (w : World) (k : Nat) (l : List Oper) (a : Act) (s N : Nat) (v : Value) (os' : List Obj)
    (h : (evOps P K w.heap.size (l.take k) a []).map (fun r => (r.1.tmps.getD s undef, r.1.tmps.size, r.1.defers.isEmpty, r.2)) = some (v, N, true, os'))
    (hr : ∀ a' : Act, a'.tmps.getD s undef = v → a'.tmps.size = N → a'.defers = [] → wpList P ops Q (l.drop k) a' (laid w os')) : wpList P ops Q l a w := by
  obtain ⟨⟨a', o'⟩, h1, h2⟩ := Option.map_eq_some_iff.1 h
  simp only [Prod.mk.injEq] at h2
  obtain ⟨e1, e2, e3, rfl⟩ := h2
  have hw := wpList_ev hK w (l.drop k) (l.take k) a [] a' o' h1 (hr a' e1 e2 (by simpa using e3))
  rw [List.take_append_drop, laid_nil] at hw
  exact hw
/-- The last two operations: a call, and its answer into the first slot. -/
theorem tail_call {P : Program} {ops : Array Oper} {Q : Exit → Act → World → Prop} {l : List Oper} {a : Act} {w : World} {g : FuncId} {s d : Nat} {T : Array TypeId} {v : Value} {R : Ending → World → Prop}
    (hl : l.map (fun o => (o.guard.isNone, o.dst, o.op)) = [(true, some d, .call { callee := .value (.func g), args := #[.tmp s], argTypes := T }), (true, some 0, .assign (.tmp d))])
    (hv : a.tmps.getD s undef = v) (hd : d < a.tmps.size) (he : ∀ args w, (callFunc g args).run P w = .ok (.enter g args) w)
    (hc : Calls P g #[v] w R) (hR : ∀ e w', R e w' → ∃ v', e = .returned v') (hQ : ∀ (a' : Act) (v' : Value) (w' : World), R (.returned v') w' → a'.tmps.getD 0 undef = v' → a'.defers = a.defers → Q .normal a' w') : wpList P ops Q l a w := by
  rcases l with _ | ⟨o1, _ | ⟨o2, _ | ⟨o3, l⟩⟩⟩
  · simp at hl
  · simp at hl
  · simp only [List.map_cons, List.map_nil, List.cons.injEq, Prod.mk.injEq, and_true] at hl
    obtain ⟨⟨g1, d1, p1⟩, g2, d2, p2⟩ := hl
    refine wpList_plain (by simpa using g1) fun K hK => ?_
    unfold Oper.wp execOp
    simp only [p1, resolve, Act.eval, Sem.run_bind, Sem.run_pure, Result.andThen_ok, List.map_toArray, List.map_cons, List.map_nil, hv, invoke, Deferred.ofValue]
    simp only [Array.append_empty, he, Result.andThen_ok, Oper.upon]
    refine hc.mono ?_
    intro e w' hr
    obtain ⟨v', rfl⟩ := hR e w' hr
    refine hK _ _ ?_
    refine wpList_plain (by simpa using g2) fun K2 hK2 => ?_
    unfold Oper.wp execOp
    simp only [p2, Sem.run_pure, Oper.upon]
    refine hK2 _ _ (hQ _ v' w' hr ?_ ?_)
    · rw [d1, d2]
      simp only [Act.put, Act.eval]
      have h0 : 0 < a.tmps.size := by omega
      simp [Array.getD, h0, hd]
    · rw [d1, d2]; rfl
  · simp at hl

/-! ### What is laid -/

def termsC (ts : List (Int × Int)) : Array Value := (flat 2 ts.length (cellT ts)).toArray
/-- The blocks of a row's terms. -/
def layT (r : Row) : List Obj := if r.ts.isEmpty then [] else r.ts.map (fun t => .cells #[.int .i64 t.1, .int .i64 t.2] 147) ++ [.cells (termsC r.ts) 147]
def offs (rows : List Row) (i : Nat) : Nat := ((rows.take i).flatMap layT).length
def sliceOf (n : Nat) (rows : List Row) (i : Nat) : Value :=
  if (rows.getD i default).ts.isEmpty then .slice none 0 0 else .slice (some ⟨n + (offs rows i + (rows.getD i default).ts.length), 0, none⟩) (rows.getD i default).ts.length (rows.getD i default).ts.length
def atomsAt (rows : List Row) : Nat := (rows.flatMap layT).length
def layRows (n : Nat) (rows : List Row) : List Obj := rows.flatMap layT ++ [.cells (flat 12 rows.length (cellA rows (sliceOf n rows))).toArray 134]
theorem flatMap_at (rows : List Row) (i : Nat) (hi : i < rows.length) (k : Nat) (hk : k < (layT (rows.getD i default)).length) : (rows.flatMap layT)[offs rows i + k]? = (layT (rows.getD i default))[k]? := by
  have hd : rows.getD i default = rows[i] := by rw [List.getD_eq_getElem?_getD, List.getElem?_eq_getElem hi]; rfl
  rw [hd] at hk ⊢
  have e : rows = rows.take i ++ rows[i] :: rows.drop (i + 1) := by simp
  have e2 : rows.flatMap layT = (rows.take i).flatMap layT ++ (layT rows[i] ++ (rows.drop (i + 1)).flatMap layT) := by
    conv => lhs; rw [e]
    rw [List.flatMap_append, List.flatMap_cons]
  rw [e2]
  unfold offs
  rw [List.getElem?_append_right (by omega), Nat.add_sub_cancel_left, List.getElem?_append_left hk]
theorem rows_grid (w : World) (rows : List Row) : Grid (laid w (layRows w.heap.size rows)) (w.heap.size + atomsAt rows) 12 rows.length (cellA rows (sliceOf w.heap.size rows)) := by
  refine Grid.old (cs := (flat 12 rows.length (cellA rows (sliceOf w.heap.size rows))).toArray) (t := 134) ?_ ?_
  · rw [laid_get]
    unfold layRows atomsAt
    rw [List.getElem?_append_right (by omega)]
    simp
  · intro i hi j hj
    rw [List.getElem?_toArray]
    exact flat_at hi hj
theorem rows_terms (w : World) (rows : List Row) : TermsAll (laid w (layRows w.heap.size rows)) rows (sliceOf w.heap.size rows) := by
  intro i hi
  unfold sliceOf
  by_cases h : (rows.getD i default).ts.isEmpty = true
  · rw [if_pos h]
    have h0 : (rows.getD i default).ts = [] := by simpa using h
    rw [h0]
    exact .inl ⟨rfl, rfl⟩
  · rw [if_neg h]
    have hb : (laid w (layRows w.heap.size rows)).heap[w.heap.size + (offs rows i + (rows.getD i default).ts.length)]? = some (.cells (termsC (rows.getD i default).ts) 147) := by
      rw [laid_get]
      unfold layRows
      have hlt : (rows.getD i default).ts.length < (layT (rows.getD i default)).length := by unfold layT; rw [if_neg h]; simp
      have := flatMap_at rows i hi _ hlt
      rw [List.getElem?_append_left (by
        have hs : (rows.flatMap layT)[offs rows i + (rows.getD i default).ts.length]? ≠ none := by rw [this, List.getElem?_eq_getElem hlt]; simp
        exact Nat.lt_of_not_le fun hle => hs (List.getElem?_eq_none hle)), this]
      unfold layT
      rw [if_neg h, List.getElem?_append_right (by simp)]
      simp
    refine .inr ⟨_, _, rfl, Nat.le_refl _, ?_, ?_⟩
    · have := Spare.of_cells hb
      have hs : (termsC (rows.getD i default).ts).size = (rows.getD i default).ts.length * 2 := by unfold termsC; rw [List.size_toArray, flat_length]
      rwa [hs] at this
    · refine Grid.old hb fun i' hi' j hj => ?_
      unfold termsC
      rw [List.getElem?_toArray]
      exact flat_at hi' hj
theorem slice_above (n : Nat) (rows : List Row) (i : Nat) : Above n (sliceOf n rows i) := by
  intro a m c e
  unfold sliceOf at e
  split at e
  · cases e
  · injection e with e1
    injection e1 with e1
    rw [← e1]
    show n ≤ n + _
    omega
/-- How a function ends that hands these rows back. -/
def RowsEnd (w : World) (rows : List Row) (e : Ending) (w' : World) : Prop :=
  ∃ s S, e = .returned s ∧ AtomsSl w' s rows S ∧ Above w.heap.size s ∧ (∀ i, i < rows.length → Above w.heap.size (S i)) ∧ Below w.heap.size w w'
theorem map_getD (rows : List Row) (i : Nat) (hi : i < rows.length) : (rows.map fillR).getD i default = fillR (rows.getD i default) := by
  rw [List.getD_eq_getElem?_getD, List.getD_eq_getElem?_getD]
  simp [List.getElem?_eq_getElem hi]
theorem rows_end (w : World) (rows : List Row) (hn : 0 < rows.length) {c : Nat} (hc : c = rows.length) {v : Value} {w' : World} (h : FilledEnd (laid w (layRows w.heap.size rows)) (w.heap.size + atomsAt rows) c rows (sliceOf w.heap.size rows) (.returned v) w') : RowsEnd w (rows.map fillR) (.returned v) w' := by
  obtain ⟨hv, hg, hO⟩ := h
  injection hv with hv
  have hx : ∃ x, w'.cell? ⟨w.heap.size + atomsAt rows, 0, none⟩ = some (.string x) := by
    have := hg.1 0 hn 0 (by omega)
    exact ⟨_, this⟩
  have hg0 := rows_grid w rows
  have hts := rows_terms w rows
  have hl : (rows.map fillR).length = rows.length := by simp
  subst hc
  refine ⟨v, sliceOf w.heap.size rows, rfl, ⟨?_, ?_⟩, ?_, fun i _ => slice_above _ _ _, (laid_below w _).trans (hO.below (by omega))⟩
  · rw [hl]
    refine .inr ⟨_, _, hv, Nat.le_refl _, ?_, hg⟩
    intro j hj
    have h1 := hg.flat (by omega) j _ (flat_get hj)
    rw [h1]; rfl
  · intro i hi
    rw [hl] at hi
    rw [map_getD rows i hi]
    have ht := hts i hi
    show SliceAt w' (sliceOf w.heap.size rows i) 2 (rows.getD i default).ts.length (cellT (rows.getD i default).ts)
    rcases ht with h0 | ⟨b, cc, he, hcc, hsp, hgt⟩
    · exact .inl h0
    · have hne : b ≠ w.heap.size + atomsAt rows := by
        intro e
        by_cases hz : (rows.getD i default).ts.length = 0
        · have : sliceOf w.heap.size rows i = .slice none 0 0 := by
            unfold sliceOf
            rw [if_pos (by simpa using hz)]
          rw [this] at he
          cases he
        · have h1 := hgt.1 0 (by omega) 0 (by omega)
          have h2 := hg0.1 0 hn 0 (by omega)
          rw [e] at h1
          rw [Nat.zero_mul] at h1 h2
          rw [h1] at h2
          simp [cellT, termCell, cellA, Row.cell, Row.cs] at h2
      exact .inr ⟨b, cc, he, hcc, hsp.block (hO.block b hne), hO.grid hgt hne⟩
  · rw [hv]
    intro a m c' e
    injection e with e1
    injection e1 with e1
    rw [← e1]
    show w.heap.size ≤ w.heap.size + _
    omega

end Go.Proofs.YthofogokpolhdaaGreatDoor.Atoms

namespace Go.Proofs.YthofogokpolhdaaGreatDoor.Atoms
open Go.RowKit Go.Shelf
set_option linter.unusedVariables false
set_option linter.unusedSimpArgs false

/-- No call is known. -/
def knowNone (f : FuncId) (args : Array Value) : Option (Value × List Obj) := none
theorem known_none : Known Tryz.prog knowNone := by
  intro f args v os h
  cases h
def PrefsEnd (w : World) (ps : List Pre) (e : Ending) (w' : World) : Prop := ∃ s, e = .returned s ∧ PrefsSl w' s ps ∧ Above w.heap.size s ∧ Below w.heap.size w w'
def layPs (ps : List Pre) : List Obj := [.cells (flat 6 ps.length (cellP ps)).toArray 164]
theorem prefs_end (w : World) (ps : List Pre) : PrefsEnd w ps (.returned (.slice (some ⟨w.heap.size + 0, 0, none⟩) ps.length ps.length)) (laid w (layPs ps)) := by
  have hb : (laid w (layPs ps)).heap[w.heap.size + 0]? = some (.cells (flat 6 ps.length (cellP ps)).toArray 164) := by rw [laid_get]; rfl
  refine ⟨_, rfl, .inr ⟨_, _, rfl, Nat.le_refl _, ?_, ?_⟩, ?_, laid_below w _⟩
  · have := Spare.of_cells hb
    have hs : (flat 6 ps.length (cellP ps)).toArray.size = ps.length * 6 := by rw [List.size_toArray, flat_length]
    exact fun j hj => this j (by rw [hs]; exact hj)
  · refine Grid.old hb fun i hi j hj => ?_
    rw [List.getElem?_toArray]
    exact flat_at hi hj
  · intro a m c e
    injection e with e1
    injection e1 with e1
    rw [← e1]
    exact Nat.le_refl _

set_option maxRecDepth 1000000 in
set_option maxHeartbeats 4000000 in
theorem prefixes_any (w : World) : Calls Tryz.prog 77 #[] w (PrefsEnd w tablePs) := by
  go_enter Tryz.func77, Tryz.ntmps77
  refine wp_seq (wp_region_list ?_)
  refine wpList_plain rfl fun K hK => hK _ _ ?_
  show Code.wp _ _ _ _ _
  refine wp_seq (wp_region_list ?_)
  refine wpList_run known_none w 42 _ _ 0 42 (.slice (some ⟨w.heap.size + 0, 0, none⟩) tablePs.length tablePs.length) (layPs tablePs) (by kernel_rfl) ?_
  intro a' hs hN hd
  refine wpList_nil (wp_ret ?_)
  refine bodyPost_ret (v := .slice (some ⟨w.heap.size + 0, 0, none⟩) tablePs.length tablePs.length) ?_ hd (prefs_end w tablePs)
  rw [← hs]
  exact results_tmp rfl _ _ _


theorem wpList_ran {P : Program} {w V : World} {ops : Array Oper} {rest : List Oper} {o : Oper} {a : Act} {Q : Exit → Act → World → Prop} {v : Value} (hg : o.guard = none) (hr : (execOp a.eval o).run P w = .ok (.value v) V) (h : wpList P ops Q rest (a.put o.dst v) V) : wpList P ops Q (o :: rest) a w := by
  refine wpList_plain hg fun K hK => ?_
  unfold Oper.wp
  rw [hr]
  exact hK _ _ h
theorem wpList_skips {P : Program} {w V : World} {ops : Array Oper} {rest : List Oper} {o : Oper} {a : Act} {Q : Exit → Act → World → Prop} (hg : o.guard = none) (hd : o.dst = none) (hr : (execOp a.eval o).run P w = .ok .skip V) (h : wpList P ops Q rest a V) : wpList P ops Q (o :: rest) a w := by
  refine wpList_plain hg fun K hK => ?_
  unfold Oper.wp
  rw [hr]
  simp only [Oper.upon, hd, Act.put]
  exact hK _ _ h
theorem size_cells (b : Nat) : ∀ (vs : List Value) (o : Nat) (w : World), (w.setCells b o vs).heap.size = w.heap.size
  | [], _, _ => rfl
  | v :: r, o, w => by show ((w.setCell ⟨b, o, none⟩ v).setCells b (o + 1) r).heap.size = _; rw [size_cells b r (o + 1) _, World.size_setCell]
theorem only_cells (b : Nat) : ∀ (vs : List Value) (o : Nat) (w w0 : World), Only b w0 w → Only b w0 (w.setCells b o vs)
  | [], _, _, _, h => h
  | v :: r, o, w, w0, h => only_cells b r (o + 1) _ w0 (h.set o v)
theorem Spare.cells {w : World} {b m : Nat} (h : Spare w b m) (b' : Nat) : ∀ (vs : List Value) (o : Nat), Spare (w.setCells b' o vs) b m := by
  intro vs
  induction vs generalizing w with
  | nil => intro o; exact h
  | cons v r ih => intro o; exact ih (h.set b' o v) (o + 1)
/-- More rows behind those that there are. -/
theorem Grid.append {w : World} {b k n m : Nat} {f g : Nat → Nat → Value} (h : Grid w b k n f) (hk : 0 < k) (hs : Spare w b ((n + m) * k)) :
    Grid (w.setCells b (n * k) (Atoms.flat k m g)) b k (n + m) (fun i j => if i < n then f i j else g (i - n) j) := by
  have hl := flat_length k m g
  refine ⟨fun i hi j hj => ?_, fun j => ?_, ?_⟩
  · show _ = some (if i < n then f i j else g (i - n) j)
    by_cases hin : i < n
    · rw [if_pos hin, World.cell?_setCells_out]
      · exact h.1 i hin j hj
      · intro _ _
        left
        show i * k + j < n * k
        have : (i + 1) * k ≤ n * k := Nat.mul_le_mul_right k hin
        rw [Nat.add_mul] at this; omega
    · rw [if_neg hin]
      have e : i * k + j = n * k + ((i - n) * k + j) := by
        have : i * k = n * k + (i - n) * k := by rw [← Nat.add_mul]; congr 1; omega
        omega
      have hlt : (i - n) * k + j < (Atoms.flat k m g).length := by
        rw [hl]
        have : (i - n + 1) * k ≤ m * k := Nat.mul_le_mul_right k (by omega)
        rw [Nat.add_mul] at this; omega
      rw [e, World.cell?_setCells_in b _ _ w (fun j' hj' => hs _ (by rw [hl] at hj'; rw [Nat.add_mul]; omega)) _ hlt]
      have := flat_at (k := k) (n := m) (f := g) (i := i - n) (j := j) (by omega) hj
      rw [List.getElem?_eq_getElem hlt] at this
      exact this
  · rw [World.frozen?_setCells]; exact h.2.1 j
  · rw [size_cells]; exact h.2.2

/-- A row of operations that lay nothing, as far as k; the frame is told. -/
theorem wpList_evs {P : Program} {K : FuncId → Array Value → Option (Value × List Obj)} (hK : Known P K) {ops : Array Oper} {Q : Exit → Act → World → Prop} (w : World) (k : Nat) (l : List Oper) (a a' : Act)
    (h : evOps P K w.heap.size (l.take k) a [] = some (a', [])) (hr : wpList P ops Q (l.drop k) a' w) : wpList P ops Q l a w := by
  have hw := wpList_ev hK w (l.drop k) (l.take k) a [] a' [] h (by rw [laid_nil]; exact hr)
  rw [List.take_append_drop, laid_nil] at hw
  exact hw
/-- The bases' codes, as one array. -/
def calledL : List Value := codesB.flatMap fun c => c.cs.toList
def calledV : Value := .agg calledL.toArray
def oneV (i : Nat) : Value := .agg (codesB.getD i ⟨[], [], [], [], []⟩).cs
theorem called0 (V : World) : (Instr.index 159 calledV (.int .i64 0)).run Tryz.prog V = .ok (oneV 0) V := by kernel_rfl
theorem called1 (V : World) : (Instr.index 159 calledV (.int .i64 1)).run Tryz.prog V = .ok (oneV 1) V := by kernel_rfl
theorem called2 (V : World) : (Instr.index 159 calledV (.int .i64 2)).run Tryz.prog V = .ok (oneV 2) V := by kernel_rfl
theorem called3 (V : World) : (Instr.index 159 calledV (.int .i64 3)).run Tryz.prog V = .ok (oneV 3) V := by kernel_rfl
theorem called4 (V : World) : (Instr.index 159 calledV (.int .i64 4)).run Tryz.prog V = .ok (oneV 4) V := by kernel_rfl
theorem called5 (V : World) : (Instr.index 159 calledV (.int .i64 5)).run Tryz.prog V = .ok (oneV 5) V := by kernel_rfl
theorem called6 (V : World) : (Instr.index 159 calledV (.int .i64 6)).run Tryz.prog V = .ok (oneV 6) V := by kernel_rfl
theorem called_at (V : World) : ∀ i, i < 7 → (Instr.index 159 calledV (.int .i64 (i : Nat))).run Tryz.prog V = .ok (oneV i) V := by
  intro i hi
  match i, hi with
  | 0, _ => exact called0 V
  | 1, _ => exact called1 V
  | 2, _ => exact called2 V
  | 3, _ => exact called3 V
  | 4, _ => exact called4 V
  | 5, _ => exact called5 V
  | 6, _ => exact called6 V
theorem exec_alloc {P : Program} {w V : World} {ρ : Operand → Value} {o : Oper} {t : TypeId} {v : Value} (ho : o.op = .alloc t) (h : (Instr.alloc t true (.tuple #[])).run P w = .ok v V) : (execOp ρ o).run P w = .ok (.value v) V := by
  unfold execOp
  simp only [ho, Sem.run_bind, h, Result.andThen_ok, Sem.run_pure]
theorem exec_make {P : Program} {w V : World} {ρ : Operand → Value} {o : Oper} {t : TypeId} {x y : Operand} {v : Value} (ho : o.op = .makeSlice t x y) (h : (Instr.makeSlice t (ρ x) (ρ y)).run P w = .ok v V) : (execOp ρ o).run P w = .ok (.value v) V := by
  unfold execOp
  simp only [ho, Sem.run_bind, h, Result.andThen_ok, Sem.run_pure]
theorem exec_load {P : Program} {w V : World} {ρ : Operand → Value} {o : Oper} {t : TypeId} {x : Operand} {v : Value} (ho : o.op = .load t x) (h : (Instr.loadAt t (ρ x)).run P w = .ok v V) : (execOp ρ o).run P w = .ok (.value v) V := by
  unfold execOp
  simp only [ho, Sem.run_bind, h, Result.andThen_ok, Sem.run_pure]
theorem exec_store {P : Program} {w V : World} {ρ : Operand → Value} {o : Oper} {t : TypeId} {x y : Operand} (ho : o.op = .store t x y) (h : (Instr.storeAt t (ρ x) (ρ y)).run P w = .ok () V) : (execOp ρ o).run P w = .ok .skip V := by
  unfold execOp
  simp only [ho, Sem.run_bind, h, Result.andThen_ok, Sem.run_pure]

/-- The array's first cells, the slice's first cells. -/
def zeros35 : Array Value := Array.replicate 35 (.string ⟨#[]⟩)
def zeros84 : Array Value := (Array.range 84).map fun i => ((⟨[], [], [], [], [], false, 0, 0, 0, 0, 0, []⟩ : Row).cs (.slice none 0 0))[i % 12]!
theorem make84 (V : World) : (Instr.makeSlice 86 (.int .i64 0) (.int .i64 7)).run Tryz.prog V = .ok (.slice (some ⟨V.heap.size, 0, none⟩) 0 7) (V.alloc (.cells zeros84 134)) := by kernel_rfl
theorem alloc35 (V : World) : (Instr.alloc 159 true (.tuple #[])).run Tryz.prog V = .ok (.pointer (some ⟨V.heap.size, 0, none⟩)) (V.alloc (.cells zeros35 159)) := by kernel_rfl
theorem store35 (V : World) : (Instr.storeAt 159 (.pointer (some ⟨V.heap.size, 0, none⟩)) calledV).run Tryz.prog (V.alloc (.cells zeros35 159)) = .ok () (V.alloc (.cells calledL.toArray 159)) :=
  run_storeAt_new V 159 zeros35 calledL.toArray (by kernel_rfl) (by kernel_rfl) (by kernel_rfl)
theorem load35 (V : World) (o : Obj) : (Instr.loadAt 159 (.pointer (some ⟨V.heap.size, 0, none⟩))).run Tryz.prog ((V.alloc (.cells calledL.toArray 159)).alloc o) = .ok calledV ((V.alloc (.cells calledL.toArray 159)).alloc o) := by
  have hh : ((V.alloc (.cells calledL.toArray 159)).alloc o).heap[V.heap.size]? = some (.cells calledL.toArray 159) :=
    (Below.heap_alloc _ _ _ (by rw [World.size_alloc]; omega)).trans (World.alloc_heap_new V _)
  exact run_loadAt_mid _ V.heap.size 0 159 calledL (.array 7 158) (fun j v hv => by simp [World.cell?, hh, hv]) (by kernel_rfl) rfl (by kernel_rfl)
/-- How the world stands while the bases are laid. -/
structure BasesI (w wr : World) (b k : Nat) : Prop where
  grid : Grid wr b 12 k (cellA rowsB (fun _ => .slice none 0 0))
  spare : Spare wr b 84
  b : w.heap.size ≤ b
  below : Below w.heap.size w wr

theorem rowB_at (k : Nat) (h : k < 7) : rowsB.getD k default = ⟨(codesB.getD k ⟨[], [], [], [], []⟩).c0, (codesB.getD k ⟨[], [], [], [], []⟩).c1, (codesB.getD k ⟨[], [], [], [], []⟩).c2, (codesB.getD k ⟨[], [], [], [], []⟩).c3, (codesB.getD k ⟨[], [], [], [], []⟩).c4, true, 0, (k : Int), 1, 1, 0, []⟩ := by
  match k, h with
  | 0, _ => rfl
  | 1, _ => rfl
  | 2, _ => rfl
  | 3, _ => rfl
  | 4, _ => rfl
  | 5, _ => rfl
  | 6, _ => rfl

attribute [local irreducible] calledV zeros84 zeros35 calledL oneV

set_option maxRecDepth 1000000 in
set_option maxHeartbeats 4000000 in
theorem bases_any (w : World) : Calls Tryz.prog 74 #[] w (RowsEnd w rowsB) := by
  go_enter Tryz.func74, Tryz.ntmps74
  refine wp_seq (wp_region_list ?_)
  refine wpList_plain rfl fun K hK => hK _ _ ?_
  show Code.wp _ _ _ _ _
  refine wp_seq (wp_region_list ?_)
  refine wpList_evs known_none w 8 _ _ { tmps := #[.slice none 0 0, undef, undef, undef, undef, oneV 0, oneV 1, oneV 2, oneV 3, oneV 4, oneV 5, oneV 6, calledV, undef, undef, undef, undef, undef, undef, undef, undef, undef, undef, undef, undef, undef, undef], defers := [] } (by kernel_rfl) ?_
  refine wpList_ran rfl (exec_alloc rfl (alloc35 w)) ?_
  refine wpList_skips rfl rfl (exec_store rfl (store35 w)) ?_
  refine wpList_nil ?_
  show Code.wp _ _ _ _ _
  refine wp_seq (wp_region_list ?_)
  refine wpList_ran rfl (exec_make rfl (make84 _)) ?_
  refine wpList_plain rfl fun K2 hK2 => hK2 _ _ ?_
  show Code.wp _ _ _ _ _
  refine wp_seq ?_
  refine wp_seq (wp_region_list ?_)
  refine wpList_ran rfl (exec_load rfl (load35 w _)) ?_
  refine wpList_plain rfl fun K3 hK3 => hK3 _ _ ?_
  rw [World.size_alloc]
  show Code.wp _ _ _ { tmps := #[.slice none 0 0, .pointer (some ⟨w.heap.size, 0, none⟩), .slice (some ⟨w.heap.size + 1, 0, none⟩) 0 7, undef, undef, oneV 0, oneV 1, oneV 2, oneV 3, oneV 4, oneV 5, oneV 6, calledV, .slice (some ⟨w.heap.size + 1, 0, none⟩) 0 7, calledV, .int .i64 0, undef, undef, undef, undef, undef, undef, undef, undef, undef, undef, undef], defers := [] } _
  have hI : BasesI w ((w.alloc (.cells calledL.toArray 159)).alloc (.cells zeros84 134)) (w.heap.size + 1) 0 := by
    have hn := World.alloc_heap_new (w.alloc (.cells calledL.toArray 159)) (.cells zeros84 134)
    rw [World.size_alloc] at hn
    refine ⟨Grid.old hn (fun i hi => absurd hi (by omega)), ?_, by omega, ?_⟩
    · have := Spare.of_cells hn
      rwa [show zeros84.size = 84 by kernel_rfl] at this
    · exact ((Below.refl _ _).alloc (Nat.le_refl _) _).alloc (by rw [World.size_alloc]; omega) _
  generalize ((w.alloc (.cells calledL.toArray 159)).alloc (.cells zeros84 134)) = V at hI ⊢
  clear hK hK2 hK3
  go_wp2
  go_loopw [2, 15] (fun s x wr => ∃ k : Nat, s = .slice (some ⟨w.heap.size + 1, 0, none⟩) k 7 ∧ x = .int .i64 k ∧ k ≤ 7 ∧ BasesI w wr (w.heap.size + 1) k) (fun _ x _ => (7 - intOf x).toNat)
  case atStart => exact ⟨0, rfl, rfl, by omega, hI⟩
  case round =>
    clear hI
    obtain ⟨k, rfl, rfl, hk, hI⟩ := hrel
    by_cases h7 : k < 7
    · have k7 : (k : Int) < 7 := by omega
      have hix := fun V => called_at V k h7
      obtain ⟨c, hc⟩ : ∃ c, codesB.getD k ⟨[], [], [], [], []⟩ = c := ⟨_, rfl⟩
      rw [show oneV k = .agg #[.string (bs c.c0), .string (bs c.c1), .string (bs c.c2), .string (bs c.c3), .string (bs c.c4)] by unfold oneV; rw [hc]; rfl] at hix
      have hrow : rowsB.getD k default = ⟨c.c0, c.c1, c.c2, c.c3, c.c4, true, 0, (k : Int), 1, 1, 0, []⟩ := by rw [← hc]; exact rowB_at k h7
      have HROW := Lib.hid hrow
      clear hc hrow
      have hbx := AtomBox.new (wr.alloc (.cells #[.string (bs c.c0), .string (bs c.c1), .string (bs c.c2), .string (bs c.c3), .string (bs c.c4)] 158)) ⟨c.c0, c.c1, c.c2, c.c3, c.c4, true, 0, (k : Int), 1, 1, 0, []⟩ (.slice none 0 0)
      have hu : Below wr.heap.size wr ((wr.alloc (.cells #[.string (bs c.c0), .string (bs c.c1), .string (bs c.c2), .string (bs c.c3), .string (bs c.c4)] 158)).alloc (.cells ((⟨c.c0, c.c1, c.c2, c.c3, c.c4, true, 0, (k : Int), 1, 1, 0, []⟩ : Row).cs (.slice none 0 0)) 134)) :=
        ((Below.refl _ _).alloc (Nat.le_refl _) _).alloc (by rw [World.size_alloc]; omega) _
      rw [World.size_alloc] at hbx
      have hsp := hI.spare.block (hu.block _ (by have := hI.grid.2.2; omega))
      have hg := hI.grid.go hu
      have hB := hI.below.trans (hu.mono hI.below.size)
      obtain ⟨V2, happ, hI2⟩ : ∃ V2, (∀ ty, (Builtin.append_ #[86, 86] ty #[.slice (some ⟨w.heap.size + 1, 0, none⟩) k 7, .slice (some ⟨wr.heap.size + 1, 0, none⟩) 1 1]).run Tryz.prog ((wr.alloc (.cells #[.string (bs c.c0), .string (bs c.c1), .string (bs c.c2), .string (bs c.c3), .string (bs c.c4)] 158)).alloc (.cells ((⟨c.c0, c.c1, c.c2, c.c3, c.c4, true, 0, (k : Int), 1, 1, 0, []⟩ : Row).cs (.slice none 0 0)) 134)) = .ok (.slice (some ⟨w.heap.size + 1, 0, none⟩) (k + 1) 7) V2) ∧ BasesI w V2 (w.heap.size + 1) (k + 1) := by
        obtain ⟨i, hi, hk12, hby, z, hz, hzs⟩ := info_ca
        refine ⟨_, fun ty => run_append_room_src _ _ _ ty _ i u_ca hi (w.heap.size + 1) 0 k 7 _ 1 (flat 12 1 (fun _ j => (⟨c.c0, c.c1, c.c2, c.c3, c.c4, true, 0, (k : Int), 1, 1, 0, []⟩ : Row).cell (.slice none 0 0) j)) (Src.ofSlice _ u_ca ⟨wr.heap.size + 1, 0, none⟩ 1 1 _ ?_ ?_ ?_) (by omega) ?_ ?_, ?_⟩
        · rw [flat_length, hk12]
        · intro j u hu
          rw [Addr.add_mid, Nat.zero_add]
          exact Grid.flat hbx (by omega) j u hu
        · intro u hu
          obtain ⟨t, ht⟩ := List.getElem?_of_mem hu
          have hlt : t < 12 := by have := (List.getElem?_eq_some_iff.1 ht).1; rw [flat_length] at this; omega
          rw [flat_get (by omega)] at ht
          injection ht with ht
          rw [← ht]
          rw [Nat.mod_eq_of_lt hlt]
          match t, hlt with
          | 0, _ => rfl
          | 1, _ => rfl
          | 2, _ => rfl
          | 3, _ => rfl
          | 4, _ => rfl
          | 5, _ => rfl
          | 6, _ => rfl
          | 7, _ => rfl
          | 8, _ => rfl
          | 9, _ => rfl
          | 10, _ => rfl
          | 11, _ => rfl
        · intro j hj
          rw [flat_length] at hj
          exact hsp _ (by rw [hk12]; omega)
        · intro j hj
          exact hg.2.1 _
        · rw [hk12, Nat.zero_add]
          refine ⟨?_, hsp.cells _ _ _, by omega, (only_cells _ _ _ _ _ (Only.refl _ _)).below (B := w.heap.size) (by omega) |> hB.trans⟩
          refine (hg.append (m := 1) (g := fun _ j => (⟨c.c0, c.c1, c.c2, c.c3, c.c4, true, 0, (k : Int), 1, 1, 0, []⟩ : Row).cell (.slice none 0 0) j) (by omega) (fun j hj => hsp j (by omega))).ext ?_
          intro i hi j hj
          by_cases e : i < k
          · rw [if_pos e]
          · rw [if_neg e]
            have : i = k := by omega
            subst this
            unfold cellA
            rw [HROW.out]
      clear hbx hu hsp hg hB hI
      simp only [Row.cs] at happ
      go_wp2_with (at_builtin; refine wpList_app rfl _ _ 86 86 rfl happ ?_)
      refine ⟨⟨k + 1, rfl, rfl, by omega, hI2⟩, ?_⟩
      simp only [intOf]; omega
    · have k7 : k = 7 := by omega
      subst k7
      go_wp2
      go_ret
      refine ⟨_, fun _ => .slice none 0 0, rfl, ⟨.inr ⟨_, _, rfl, Nat.le_refl _, hI.spare, hI.grid⟩, ?_⟩, ?_, ?_, hI.below⟩
      · intro i hi
        refine .inl ⟨?_, rfl⟩
        have : i < 7 := hi
        rw [rowB_at i this]
        rfl
      · intro a m c e
        injection e with e1
        injection e1 with e1
        rw [← e1]
        show w.heap.size ≤ w.heap.size + 1
        omega
      · intro i _ a m c e
        cases e

end Go.Proofs.YthofogokpolhdaaGreatDoor.Atoms

namespace Go.Proofs.YthofogokpolhdaaGreatDoor.Atoms
open Go.RowKit Go.Shelf
set_option linter.unusedVariables false
set_option linter.unusedSimpArgs false

/-- Room for so many atoms, from w's end on. -/
structure RoomFor (w w' : World) (b c n : Nat) : Prop where
  n : n ≤ c
  spare : Spare w' b (c * 12)
  thaw : ∀ j, w'.frozen? ⟨b, j, none⟩ = false
  lt : b < w'.heap.size
  b : w.heap.size ≤ b
  below : Below w.heap.size w w'
def GrowEnd (w : World) (n : Nat) (e : Ending) (w' : World) : Prop := ∃ b c, e = .returned (.slice (some ⟨b, 0, none⟩) 0 c) ∧ RoomFor w w' b c n

set_option maxRecDepth 100000 in
set_option maxHeartbeats 4000000 in
theorem grow_any (n : Nat) (w : World) (h0 : 0 < n) (hn : n ≤ 1000000) :
    Calls Tryz.prog 97 #[.slice none 0 0, .int .i64 n] w (GrowEnd w n) := by
  obtain ⟨c, V, happ, hR⟩ : ∃ c V, (∀ ty, (Builtin.append_ #[86, 3] ty #[.slice none 0 0, .int .i64 n]).run Tryz.prog w = .ok (.slice (some ⟨w.heap.size, 0, none⟩) n c) V) ∧ RoomFor w V w.heap.size c n := by
    obtain ⟨i, hi, hk12, hby, z, hz, hzs⟩ := info_ca
    refine ⟨_, _, fun ty => Lib.run_append_nil_zeros w _ _ ty _ i z .i64 .i64 u_ca (by kernel_rfl) hi hz n h0 (by omega) (by omega) (by rw [hby]; omega), ?_⟩
    have hh : (w.drew.alloc (.cells (Builtin.zeroCells z.cells n ++ Builtin.zeroCells z.cells (grownCap w n 0 134 - n)) 134)).heap[w.heap.size]? = some (.cells (Builtin.zeroCells z.cells n ++ Builtin.zeroCells z.cells (grownCap w n 0 134 - n)) 134) := World.alloc_heap_new w.drew _
    have hge := grownCap_ge w n 0 134
    refine ⟨hge, ?_, ?_, (Array.getElem?_eq_some_iff.1 hh).1, Nat.le_refl _, (Below.refl _ _).drew.alloc (Nat.le_refl _) _⟩
    · have := Spare.of_cells hh
      refine fun j hj => this j ?_
      simp only [Array.size_append, Builtin.zeroCells, Array.size_map, Array.size_range, hzs]
      generalize grownCap w n 0 134 = g at *
      rw [← Nat.add_mul, Nat.add_sub_cancel' hge]
      exact hj
    · exact (Grid.old (k := 1) (n := 0) (f := fun _ _ => undef) hh (fun i hi => absurd hi (by omega))).2.1
  have hnn : (0 : Int) < n := by omega
  have hcap := hR.n
  go_enter Tryz.func97, Tryz.ntmps97
  go_wp2_with (at_builtin; refine wpList_app rfl _ _ 86 3 rfl happ ?_)
  go_ret
  exact ⟨_, _, rfl, hR⟩

/-- What is put behind one another: slices, their atoms, the slices of their terms. -/
structure Piece where
  s : Value
  rows : List Row
  S : Nat → Value
def rowsTo (L : List Piece) (j : Nat) : List Row := (L.take j).flatMap (·.rows)
theorem rowsTo_succ (L : List Piece) (j : Nat) (p : Piece) (h : L[j]? = some p) : rowsTo L (j + 1) = rowsTo L j ++ p.rows := by
  obtain ⟨hj, hp⟩ := List.getElem?_eq_some_iff.1 h
  unfold rowsTo
  rw [List.take_succ_eq_append_getElem hj, List.flatMap_append, hp]
  simp
theorem rowsTo_le (L : List Piece) (j : Nat) : (rowsTo L j).length ≤ (L.flatMap (·.rows)).length := by
  have h : L.flatMap (·.rows) = rowsTo L j ++ (L.drop j).flatMap (·.rows) := by
    unfold rowsTo
    rw [← List.flatMap_append, List.take_append_drop]
  rw [h, List.length_append]; omega
theorem SliceAt.src {w : World} {s : Value} {n : Nat} {f : Nat → Nat → Value} (h : SliceAt w s 12 n f) (h1 : ∀ i, i < n → ∀ j, j < 12 → (f i j).oneCell' = true) {i : TypeInfo} (hi : i.size = 12) : Src Tryz.prog i.size 86 s n (Atoms.flat 12 n f) w := by
  rcases h with ⟨rfl, rfl⟩ | ⟨b, c, rfl, hc, hm, hg⟩
  · have : Atoms.flat 12 0 f = [] := by simp [Atoms.flat]
    rw [this]
    exact Src.ofNil w u_ca 0
  · refine Src.ofSlice w u_ca _ n c _ (by rw [hi, flat_length]) (fun j u hu => ?_) (fun u hu => ?_)
    · rw [Addr.add_mid, Nat.zero_add]
      exact hg.flat (by omega) j u hu
    · obtain ⟨t, ht⟩ := List.getElem?_of_mem hu
      have hlt : t < n * 12 := by have := (List.getElem?_eq_some_iff.1 ht).1; rwa [flat_length] at this
      rw [flat_get hlt] at ht
      injection ht with ht
      rw [← ht]
      exact h1 _ ((Nat.div_lt_iff_lt_mul (by omega)).2 hlt) _ (Nat.mod_lt _ (by omega))
/-- Slices of terms, one row behind the other. -/
def catS (n : Nat) (T S : Nat → Value) : Nat → Value := fun i => if i < n then T i else S (i - n)
theorem cat_getD (A B : List Row) (i : Nat) : (A ++ B).getD i default = if i < A.length then A.getD i default else B.getD (i - A.length) default := by
  rw [List.getD_eq_getElem?_getD, List.getD_eq_getElem?_getD, List.getD_eq_getElem?_getD]
  by_cases h : i < A.length
  · rw [if_pos h, List.getElem?_append_left h]
  · rw [if_neg h, List.getElem?_append_right (by omega)]
theorem cat_cells (A B : List Row) (T S : Nat → Value) : ∀ i, i < A.length + B.length → ∀ j, j < 12 → (if i < A.length then cellA A T i j else cellA B S (i - A.length) j) = cellA (A ++ B) (catS A.length T S) i j := by
  intro i hi j hj
  unfold cellA catS
  rw [cat_getD]
  by_cases h : i < A.length
  · simp only [if_pos h]
  · simp only [if_neg h]
theorem cat_terms {w : World} {A B : List Row} {T S : Nat → Value} (hA : TermsAll w A T) (hB : TermsAll w B S) : TermsAll w (A ++ B) (catS A.length T S) := by
  intro i hi
  rw [List.length_append] at hi
  unfold catS
  rw [cat_getD]
  by_cases h : i < A.length
  · rw [if_pos h, if_pos h]; exact hA i h
  · rw [if_neg h, if_neg h]; exact hB _ (by omega)
/-- How the world stands while the pieces are put behind one another. -/
structure ConcatI (w wr : World) (b c : Nat) (L : List Piece) (j : Nat) (T : Nat → Value) : Prop where
  grid : Grid wr b 12 (rowsTo L j).length (cellA (rowsTo L j) T)
  terms : TermsAll w (rowsTo L j) T
  above : ∀ i, i < (rowsTo L j).length → ∃ p ∈ L, ∃ i', i' < p.rows.length ∧ T i = p.S i'
  spare : Spare wr b (c * 12)
  b : w.heap.size ≤ b
  below : Below w.heap.size w wr
theorem ConcatI.step {w wr : World} {b c : Nat} {L : List Piece} {j : Nat} {T : Nat → Value} (h : ConcatI w wr b c L j T) {p : Piece} (hp : L[j]? = some p) (hA : AtomsSl w p.s p.rows p.S) (hc : (L.flatMap (·.rows)).length ≤ c) :
    ∃ V, (∀ ty, (Builtin.append_ #[86, 86] ty #[.slice (some ⟨b, 0, none⟩) (rowsTo L j).length c, p.s]).run Tryz.prog wr = .ok (.slice (some ⟨b, 0, none⟩) (rowsTo L (j + 1)).length c) V) ∧ ConcatI w V b c L (j + 1) (catS (rowsTo L j).length T p.S) := by
  obtain ⟨i, hi, hk12, hby, z, hz, hzs⟩ := info_ca
  have hA2 := hA.go h.below
  have hle := rowsTo_le L (j + 1)
  have hsu := rowsTo_succ L j p hp
  have hlen : (rowsTo L (j + 1)).length = (rowsTo L j).length + p.rows.length := by rw [hsu, List.length_append]
  refine ⟨wr.setCells b ((rowsTo L j).length * 12) (flat 12 p.rows.length (cellA p.rows p.S)), fun ty => ?_, ?_⟩
  · have := run_append_room_src wr _ _ ty _ i u_ca hi b 0 (rowsTo L j).length c p.s p.rows.length _ (SliceAt.src hA2.1 (cell_one hA2.2) hk12) (by omega) (fun j' hj' => h.spare _ (by
      rw [flat_length] at hj'
      rw [hk12]
      have : ((rowsTo L j).length + p.rows.length) * 12 ≤ c * 12 := Nat.mul_le_mul_right 12 (by omega)
      omega)) (fun j' _ => h.grid.2.1 _)
    rw [hk12, Nat.zero_add] at this
    rw [this, hlen]
  · have hO := only_cells b (flat 12 p.rows.length (cellA p.rows p.S)) ((rowsTo L j).length * 12) wr wr (Only.refl _ _)
    have hB : Below w.heap.size w (wr.setCells b ((rowsTo L j).length * 12) (flat 12 p.rows.length (cellA p.rows p.S))) := h.below.trans (hO.below h.b)
    refine ⟨?_, ?_, ?_, h.spare.cells _ _ _, h.b, hB⟩
    · rw [hsu, List.length_append]
      exact (h.grid.append (m := p.rows.length) (g := cellA p.rows p.S) (by omega) (fun j' hj' => h.spare j' (by
        have : ((rowsTo L j).length + p.rows.length) * 12 ≤ c * 12 := Nat.mul_le_mul_right 12 (by omega)
        omega))).ext (cat_cells _ _ _ _)
    · rw [hsu]
      exact cat_terms h.terms hA.2
    · intro i' hi'
      rw [hsu, List.length_append] at hi'
      unfold catS
      by_cases hlt : i' < (rowsTo L j).length
      · rw [if_pos hlt]; exact h.above i' hlt
      · rw [if_neg hlt]
        exact ⟨p, List.mem_of_getElem? hp, i' - (rowsTo L j).length, by omega, rfl⟩

/-- How Concat ends. -/
def ConcatEnd (w : World) (L : List Piece) (e : Ending) (w' : World) : Prop :=
  ∃ b c T, e = .returned (.slice (some ⟨b, 0, none⟩) (L.flatMap (·.rows)).length c) ∧ (L.flatMap (·.rows)).length ≤ c ∧ ConcatI w w' b c L L.length T
theorem rowsTo_end (L : List Piece) : rowsTo L L.length = L.flatMap (·.rows) := by unfold rowsTo; rw [List.take_length]
theorem rowsTo_zero (L : List Piece) : rowsTo L 0 = [] := rfl

set_option maxRecDepth 100000 in
set_option maxHeartbeats 4000000 in
theorem concat_any (L : List Piece) (sb cs : Nat) (w : World) (hL : ∀ j p, L[j]? = some p → AtomsSl w p.s p.rows p.S ∧ w.cell? ⟨sb, j, none⟩ = some p.s) (h0 : 0 < (L.flatMap (·.rows)).length) (hn : (L.flatMap (·.rows)).length ≤ 1000000) (hll : L.length ≤ 100) :
    Calls Tryz.prog 73 #[.slice (some ⟨sb, 0, none⟩) L.length cs] w (ConcatEnd w L) := by
  have HL := Lib.hid hL
  clear hL
  go_enter Tryz.func73, Tryz.ntmps73
  go_wp2
  go_loopw [3, 11] (fun x y wr => ∃ j : Nat, x = .int .i64 ((rowsTo L j).length : Nat) ∧ y = .int .i64 j ∧ j ≤ L.length ∧ w = wr) (fun _ y _ => (L.length - intOf y).toNat)
  case atStart => exact ⟨0, rfl, rfl, by omega, rfl⟩
  case round =>
    obtain ⟨j, rfl, rfl, hj, rfl⟩ := hrel
    by_cases hjl : j < L.length
    · have hji : (j : Int) < (L.length : Int) := by omega
      obtain ⟨p, hp⟩ : ∃ p, L[j]? = some p := ⟨_, List.getElem?_eq_getElem hjl⟩
      obtain ⟨hA, hc⟩ := HL.out j p hp
      obtain ⟨o, c, hs⟩ := SliceAt.slice hA.1
      rw [hs] at hc
      have hsu := congrArg List.length (rowsTo_succ L j p hp)
      rw [List.length_append] at hsu
      have hle := rowsTo_le L (j + 1)
      have hz : ((rowsTo L (j + 1)).length : Int) = ((rowsTo L j).length : Int) + (p.rows.length : Int) := by omega
      have HZ := Lib.hid hz
      have b1 : ((rowsTo L j).length : Int) + (p.rows.length : Int) ≤ 1000000 := by omega
      clear hA hs hp hsu hle hz
      go_wp2
      go_roundw
      case rel => exact ⟨j + 1, by rw [HZ.out], rfl, by omega, trivial⟩
      case measure => simp only [intOf]; omega
    · have hje : j = L.length := by omega
      subst hje
      have hre := congrArg List.length (rowsTo_end L)
      rw [hre]
      have hgr := grow_any (L.flatMap (·.rows)).length w h0 hn
      generalize hnn : (L.flatMap (·.rows)).length = n at *
      have HNN := Lib.hid hnn
      clear hnn hre
      go_wp2_with fail
      refine hgr.mono ?_
      rintro e w1 ⟨b, c, rfl, hR⟩
      have hc := hR.n
      have hI : ConcatI w w1 b c L 0 (fun _ => undef) := ⟨⟨fun i hi => absurd hi (by rw [rowsTo_zero]; simp), hR.thaw, hR.lt⟩, fun i hi => absurd hi (by rw [rowsTo_zero]; simp), fun i hi => absurd hi (by rw [rowsTo_zero]; simp), hR.spare, hR.b, hR.below⟩
      have HC : Hid ((L.flatMap (·.rows)).length ≤ c) := by show _ ≤ _; rw [HNN.out]; exact hc
      clear hR hgr
      go_wp2
      go_loopw [6, 27] (fun x y wr => ∃ (j : Nat) (T : Nat → Value), x = .slice (some ⟨b, 0, none⟩) (rowsTo L j).length c ∧ y = .int .i64 j ∧ j ≤ L.length ∧ ConcatI w wr b c L j T) (fun _ y _ => (L.length - intOf y).toNat)
      case atStart => exact ⟨0, _, rfl, rfl, by omega, hI⟩
      case round =>
        clear hI
        obtain ⟨j, T, rfl, rfl, hj, hI⟩ := hrel
        by_cases hjl : j < L.length
        · have hji : (j : Int) < (L.length : Int) := by omega
          obtain ⟨p, hp⟩ : ∃ p, L[j]? = some p := ⟨_, List.getElem?_eq_getElem hjl⟩
          obtain ⟨hA, hcl⟩ := HL.out j p hp
          obtain ⟨V, happ, hI2⟩ := hI.step hp hA HC.out
          have hc1 := (hI.below.cell (p := ⟨sb, j, none⟩) (cell_lt hcl)).trans hcl
          generalize p.s = ps at happ hc1
          generalize catS (rowsTo L j).length T p.S = T2 at hI2
          clear hA hcl hp hI hc
          go_wp2_with (at_builtin; refine wpList_app rfl _ _ 86 86 rfl happ ?_)
          go_roundw
          case rel => exact ⟨j + 1, _, rfl, rfl, by omega, hI2⟩
          case measure => simp only [intOf]; omega
        · have hje : j = L.length := by omega
          subst hje
          go_wp2
          go_ret
          exact ⟨b, c, T, by rw [rowsTo_end]; rfl, HC.out, hI⟩

end Go.Proofs.YthofogokpolhdaaGreatDoor.Atoms

namespace Go.Proofs.YthofogokpolhdaaGreatDoor.Atoms
open Go.RowKit Go.Shelf
set_option linter.unusedVariables false
set_option linter.unusedSimpArgs false

set_option maxRecDepth 1000000 in
set_option maxHeartbeats 4000000 in
theorem derived_any (w : World) : Calls Tryz.prog 75 #[] w (RowsEnd w (rowsD.map fillR)) := by
  go_enter Tryz.func75, Tryz.ntmps75
  refine wp_seq (wp_region_list ?_)
  refine wpList_plain rfl fun K hK => hK _ _ ?_
  show Code.wp _ _ _ _ _
  refine wp_seq (wp_region_list ?_)
  refine wpList_run known_to w 101 _ _ 101 103 (.slice (some ⟨w.heap.size + atomsAt rowsD, 0, none⟩) rowsD.length rowsD.length) (layRows w.heap.size rowsD) (by kernel_rfl) ?_
  intro a' hs hN hd
  refine tail_call (g := 98) (s := 101) (d := 102) (T := #[86]) (by kernel_rfl) hs (by rw [hN]; decide) (enters_of Tryz.func98 (by kernel_rfl) rfl) (filled_any _ _ _ _ _ (rows_grid w rowsD) (by decide)) (fun e w' h => ⟨_, h.1⟩) ?_
  intro a2 v' w' hR h0 hd2
  refine wp_ret ?_
  refine bodyPost_ret (v := v') ?_ (hd2.trans hd) (rows_end w rowsD (by decide) rfl hR)
  rw [← h0]
  exact results_tmp rfl _ _ _

set_option maxRecDepth 1000000 in
set_option maxHeartbeats 4000000 in
theorem others_any (w : World) : Calls Tryz.prog 76 #[] w (RowsEnd w (rowsO.map fillR)) := by
  go_enter Tryz.func76, Tryz.ntmps76
  refine wp_seq (wp_region_list ?_)
  refine wpList_plain rfl fun K hK => hK _ _ ?_
  show Code.wp _ _ _ _ _
  refine wp_seq (wp_region_list ?_)
  refine wpList_run known_to w 75 _ _ 75 77 (.slice (some ⟨w.heap.size + atomsAt rowsO, 0, none⟩) rowsO.length rowsO.length) (layRows w.heap.size rowsO) (by kernel_rfl) ?_
  intro a' hs hN hd
  refine tail_call (g := 98) (s := 75) (d := 76) (T := #[86]) (by kernel_rfl) hs (by rw [hN]; decide) (enters_of Tryz.func98 (by kernel_rfl) rfl) (filled_any _ _ _ _ _ (rows_grid w rowsO) (by decide)) (fun e w' h => ⟨_, h.1⟩) ?_
  intro a2 v' w' hR h0 hd2
  refine wp_ret ?_
  refine bodyPost_ret (v := v') ?_ (hd2.trans hd) (rows_end w rowsO (by decide) rfl hR)
  rw [← h0]
  exact results_tmp rfl _ _ _

end Go.Proofs.YthofogokpolhdaaGreatDoor.Atoms

namespace Go.Proofs.YthofogokpolhdaaGreatDoor.Atoms
open Go.RowKit Go.Shelf
set_option linter.unusedVariables false
set_option linter.unusedSimpArgs false

theorem SliceAt.other {w : World} {s : Value} {k n : Nat} {f : Nat → Nat → Value} (h : SliceAt w s k n f) {B : Nat} (ha : Above B s) {b' : Nat} (hb : b' < B) (i : Nat) (u : Value) : SliceAt (w.setCell ⟨b', i, none⟩ u) s k n f := by
  rcases h with h | ⟨b, c, hs, hc, hm, hg⟩
  · exact .inl h
  · have := ha _ _ _ hs
    exact .inr ⟨b, c, hs, hc, hm.set _ _ _, hg.other _ _ _ (by show b' ≠ b; have : B ≤ b := this; omega)⟩
/-- A table in memory. -/
structure TableAt (B : Nat) (w : World) (sa sp : Value) (rows : List Row) (S : Nat → Value) (ps : List Pre) : Prop where
  atoms : AtomsSl w sa rows S
  prefs : PrefsSl w sp ps
  aa : Above B sa
  ap : Above B sp
  at_ : ∀ i, i < rows.length → Above B (S i)
theorem TableAt.go {B : Nat} {w w' : World} {sa sp : Value} {rows : List Row} {S : Nat → Value} {ps : List Pre} (h : TableAt B w sa sp rows S ps) (hb : Below w.heap.size w w') : TableAt B w' sa sp rows S ps :=
  ⟨h.atoms.go hb, SliceAt.go h.prefs hb, h.aa, h.ap, h.at_⟩
/-- How Table ends. -/
def TableEnd (rows : List Row) (ps : List Pre) (w : World) (e : Ending) (w' : World) : Prop := ∃ sa sp S, e = .returned (.agg #[sa, sp]) ∧ TableAt w.heap.size w' sa sp rows S ps ∧ Below w.heap.size w w'
theorem table_is : ([rowsB, rowsD.map fillR, rowsO.map fillR] : List (List Row)).flatten = tableRs := by simp [tableRs]

theorem len_all : (rowsB ++ (rowsD.map fillR ++ (rowsO.map fillR ++ []))).length = 48 := by kernel_rfl

attribute [local irreducible] rowsB rowsD rowsO tableRs tablePs fillR

set_option maxRecDepth 100000 in
set_option maxHeartbeats 4000000 in
theorem table_any (w : World) : Calls Tryz.prog 43 #[] w (TableEnd tableRs tablePs w) := by
  have hu0 : Below w.heap.size w (w.alloc (.cells #[.slice none 0 0, .slice none 0 0] 89)) := by go_grown
  have hr0 : (w.alloc (.cells #[.slice none 0 0, .slice none 0 0] 89)).cell? ⟨w.heap.size, 0, none⟩ = some (.slice none 0 0) := by simp [go_sem]
  have hr1 : (w.alloc (.cells #[.slice none 0 0, .slice none 0 0] 89)).cell? ⟨w.heap.size, 1, none⟩ = some (.slice none 0 0) := by simp [go_sem]
  have hfz : ∀ j, (w.alloc (.cells #[.slice none 0 0, .slice none 0 0] 89)).frozen? ⟨w.heap.size, j, none⟩ = false := fun j => by simp [go_sem]
  have hzz : (w.alloc (.cells #[.slice none 0 0, .slice none 0 0] 89)).heap.size = w.heap.size + 1 := World.size_alloc _ _
  go_enter Tryz.func43, Tryz.ntmps43
  go_wp2_with fail
  generalize w.alloc (.cells #[.slice none 0 0, .slice none 0 0] 89) = w0 at *
  refine (bases_any w0).mono ?_
  rintro e w1 ⟨s1, S1, rfl, hA1, ha1, ht1, hb1⟩
  obtain ⟨o1, n1, c1, rfl⟩ : ∃ o n c, s1 = Value.slice o n c := by obtain ⟨o, c, h⟩ := SliceAt.slice hA1.1; exact ⟨o, _, c, h⟩
  go_wp2_with fail
  refine (derived_any w1).mono ?_
  rintro e w2 ⟨s2, S2, rfl, hA2, ha2, ht2, hb2⟩
  obtain ⟨o2, n2, c2, rfl⟩ : ∃ o n c, s2 = Value.slice o n c := by obtain ⟨o, c, h⟩ := SliceAt.slice hA2.1; exact ⟨o, _, c, h⟩
  go_wp2_with fail
  refine (others_any w2).mono ?_
  rintro e w3 ⟨s3, S3, rfl, hA3, ha3, ht3, hb3⟩
  obtain ⟨o3, n3, c3, rfl⟩ : ∃ o n c, s3 = Value.slice o n c := by obtain ⟨o, c, h⟩ := SliceAt.slice hA3.1; exact ⟨o, _, c, h⟩
  have hz1 := hb1.size
  have hz2 := hb2.size
  have hz3 := hb3.size
  have hu4 : Below w3.heap.size w3 (w3.alloc (.cells #[.slice o1 n1 c1, .slice o2 n2 c2, .slice o3 n3 c3] 86)) := (Below.refl _ _).alloc (Nat.le_refl _) _
  have hcon := concat_any [⟨.slice o1 n1 c1, rowsB, S1⟩, ⟨.slice o2 n2 c2, rowsD.map fillR, S2⟩, ⟨.slice o3 n3 c3, rowsO.map fillR, S3⟩] w3.heap.size 3 (w3.alloc (.cells #[.slice o1 n1 c1, .slice o2 n2 c2, .slice o3 n3 c3] 86)) (by
    intro j p hp
    match j, hp with
    | 0, hp =>
      simp only [List.getElem?_cons_zero, Option.some.injEq] at hp
      subst hp
      exact ⟨(((hA1.go hb2).go hb3).go hu4), by simp [go_sem]⟩
    | 1, hp =>
      simp only [List.getElem?_cons_succ, List.getElem?_cons_zero, Option.some.injEq] at hp
      subst hp
      exact ⟨((hA2.go hb3).go hu4), by simp [go_sem]⟩
    | 2, hp =>
      simp only [List.getElem?_cons_succ, List.getElem?_cons_zero, Option.some.injEq] at hp
      subst hp
      exact ⟨hA3.go hu4, by simp [go_sem]⟩
    | j + 3, hp => simp at hp) (by simp only [List.flatMap_cons, List.flatMap_nil]; rw [len_all]; decide) (by simp only [List.flatMap_cons, List.flatMap_nil]; rw [len_all]; decide) (by simp)
  go_wp2_with fail
  refine hcon.mono ?_
  rintro e w4 ⟨b, c, T, rfl, hc, hI⟩
  generalize hL : ([⟨.slice o1 n1 c1, rowsB, S1⟩, ⟨.slice o2 n2 c2, rowsD.map fillR, S2⟩, ⟨.slice o3 n3 c3, rowsO.map fillR, S3⟩] : List Piece) = L at *
  have hrows : L.flatMap (·.rows) = tableRs := by rw [← hL, ← table_is]; simp
  have hLl : L.length = 3 := by rw [← hL]; rfl
  have hpS : ∀ p ∈ L, ∀ i, i < p.rows.length → Above w0.heap.size (p.S i) := by
    intro p hp i hi
    rw [← hL] at hp
    simp only [List.mem_cons, List.not_mem_nil, or_false] at hp
    rcases hp with rfl | rfl | rfl
    · exact ht1 i hi
    · exact (ht2 i hi).mono (by omega)
    · exact (ht3 i hi).mono (by omega)
  have hb4 := hI.below
  have hsl : AtomsSl w4 (.slice (some ⟨b, 0, none⟩) tableRs.length c) tableRs T := by
    have hg := hI.grid
    have ht := hI.terms.go (hI.below.mono (Nat.le_refl _))
    rw [rowsTo_end, hrows] at hg ht
    rw [hrows] at hc
    exact ⟨.inr ⟨b, c, rfl, hc, hI.spare, hg⟩, ht⟩
  have hTa : ∀ i, i < tableRs.length → Above w0.heap.size (T i) := by
    intro i hi
    have := hI.above
    rw [rowsTo_end, hrows] at this
    obtain ⟨p, hp, i', hi', e⟩ := this i hi
    rw [e]
    exact hpS p hp i' hi'
  have hbw : w0.heap.size ≤ b := by
    have := hI.b
    rw [World.size_alloc] at this
    omega
  rw [hrows]
  have hBA : Below w0.heap.size w0 w4 := ((hb1.trans (hb2.mono hb1.size)).trans ((hb3.mono hz2).mono hz1)).trans (((hu4.trans (hb4.mono hu4.size)).mono hz3).mono (by omega))
  clear hL hpS hI hA1 hA2 hA3 ha1 ha2 ha3 ht1 ht2 ht3 hcon hb1 hb2 hb3 hb4 hu4 hrows hLl
  generalize hn : tableRs.length = n at *
  have HN := Lib.hid hn
  clear hn
  go_wp2_with fail
  refine (prefixes_any w4).mono ?_
  rintro e w5 ⟨sp, rfl, hP, hPa, hb5⟩
  obtain ⟨o6, n6, c6, rfl⟩ : ∃ o n c, sp = Value.slice o n c := by obtain ⟨o, c, h⟩ := SliceAt.slice hP; exact ⟨o, _, c, h⟩
  have hB5 : Below w0.heap.size w0 w5 := hBA.trans (hb5.mono hBA.size)
  have q0 : w5.cell? ⟨w.heap.size, 0, none⟩ = some (.slice none 0 0) := (hB5.cell (p := ⟨w.heap.size, 0, none⟩) (cell_lt hr0)).trans hr0
  have q1 : w5.cell? ⟨w.heap.size, 1, none⟩ = some (.slice none 0 0) := (hB5.cell (p := ⟨w.heap.size, 1, none⟩) (cell_lt hr1)).trans hr1
  have qf : ∀ j, w5.frozen? ⟨w.heap.size, j, none⟩ = false := fun j => (hB5.frozen (p := ⟨w.heap.size, j, none⟩) (cell_lt hr0)).trans (hfz j)
  replace hsl := hsl.go hb5
  replace hPa : Above w0.heap.size (.slice o6 n6 c6) := hPa.mono hBA.size
  clear hb5 hr0 hr1 hfz hBA
  go_wp2
  refine bodyPost_ret (v := .agg #[.slice (some ⟨b, 0, none⟩) n c, .slice o6 n6 c6]) (by simp [results, Tryz.results43, go_sem, q0, q1]) rfl ?_
  have hab : Above w0.heap.size (.slice (some ⟨b, 0, none⟩) n c) := by
    intro a m c' e
    injection e with e1
    injection e1 with e1
    rw [← e1]
    exact hbw
  have hlt : w.heap.size < w0.heap.size := by omega
  have hle : w.heap.size ≤ w0.heap.size := by omega
  have hP0 : PrefsSl w5 (.slice o6 n6 c6) tablePs := hP
  refine ⟨_, _, T, rfl, ⟨⟨?_, ?_⟩, ?_, hab.mono hle, hPa.mono hle, fun i hi => (hTa i (by rw [← HN.out]; exact hi)).mono hle⟩, ?_⟩
  · exact SliceAt.other (SliceAt.other hsl.1 hab hlt _ _) hab hlt _ _
  · intro i hi
    have ha := hTa i (by rw [← HN.out]; exact hi)
    exact SliceAt.other (SliceAt.other (hsl.2 i hi) ha hlt _ _) ha hlt _ _
  · exact SliceAt.other (SliceAt.other hP0 hPa hlt _ _) hPa hlt _ _
  · exact ((hu0.trans (hB5.mono hle)).setCell (p := ⟨w.heap.size, 0, none⟩) (Nat.le_refl _) _).setCell (p := ⟨w.heap.size, 1, none⟩) (Nat.le_refl _) _

end Go.Proofs.YthofogokpolhdaaGreatDoor.Atoms


/-
  Contract of atoms.filled: the numbers that a row leaves out.
-/
import Derived.Test.YtgbhfhdhmkmpcaaAS
namespace Go.Proofs.Ytgbhfhdhmkmpcaa.Atoms
open Go.RowKit
set_option linter.unusedVariables false
set_option linter.unusedSimpArgs false

/-- As far as it is filled: k rows. -/
def fillTo (rows : List Row) (k : Nat) : List Row := (rows.take k).map fillR ++ rows.drop k
theorem fillTo_len (rows : List Row) (k : Nat) : (fillTo rows k).length = rows.length := by
  simp [fillTo]; omega
theorem fillTo_end (rows : List Row) : fillTo rows rows.length = rows.map fillR := by simp [fillTo]
theorem fillTo_get (rows : List Row) (k i : Nat) (hi : i < rows.length) : (fillTo rows k).getD i default = if i < k then fillR (rows.getD i default) else rows.getD i default := by
  unfold fillTo
  rw [List.getD_eq_getElem?_getD, List.getD_eq_getElem?_getD]
  by_cases h : i < k
  · rw [if_pos h, List.getElem?_append_left (by simp; omega)]
    simp [h, List.getElem?_eq_getElem hi]
  · rw [if_neg h]
    by_cases hk : k ≤ rows.length
    · rw [List.getElem?_append_right (by simp; omega)]
      simp only [List.length_map, List.length_take, List.getElem?_drop]
      congr 1
      congr 1
      omega
    · omega
theorem fill_ts (rows : List Row) (k i : Nat) (hi : i < rows.length) : ((fillTo rows k).getD i default).ts = (rows.getD i default).ts := by
  rw [fillTo_get rows k i hi]
  split <;> rfl
/-- Only the block b has turned. -/
structure Only (b : Nat) (w w' : World) : Prop where
  os : w'.os = w.os
  tape : w'.tape = w.tape
  output : w'.output = w.output
  size : w'.heap.size = w.heap.size
  block : ∀ k, k ≠ b → w'.heap[k]? = w.heap[k]?
theorem Only.refl (b : Nat) (w : World) : Only b w w := ⟨rfl, rfl, rfl, rfl, fun _ _ => rfl⟩
theorem Only.set {b : Nat} {w w' : World} (h : Only b w w') (i : Nat) (u : Value) : Only b w (w'.setCell ⟨b, i, none⟩ u) :=
  ⟨h.os, h.tape, h.output, (World.size_setCell _ _ _).trans h.size, fun k hk => (Below.heap_setCell w' ⟨b, i, none⟩ u k hk).trans (h.block k hk)⟩
theorem Only.below {b B : Nat} {w w' : World} (h : Only b w w') (hb : B ≤ b) : Below B w w' := ⟨h.os, h.tape, h.output, Nat.le_of_eq h.size.symm, fun k hk => h.block k (by omega)⟩
theorem Only.grid {b : Nat} {w w' : World} (h : Only b w w') {b' k n : Nat} {f : Nat → Nat → Value} (hg : Grid w b' k n f) (hn : b' ≠ b) : Grid w' b' k n f := hg.block (Nat.le_of_eq h.size.symm) (h.block b' hn)
theorem upd_row (rows : List Row) (S : Nat → Value) (k : Nat) (hk : k < rows.length) (r : Row) (hr : rows.getD k default = r) :
    ∀ i, i < rows.length → ∀ j, j < 12 → upd (upd (upd (cellA (fillTo rows k) S) k 7 (.int .i64 (-1))) k 8 (.int .i64 (max r.num 1))) k 9 (.int .i64 (max r.den 1)) i j = cellA (fillTo rows (k + 1)) S i j := by
  intro i hi j hj
  unfold upd cellA
  rw [fillTo_get rows k i hi, fillTo_get rows (k + 1) i hi]
  by_cases e : i = k
  · subst e
    rw [if_neg (Nat.lt_irrefl _), if_pos (Nat.lt_succ_self _), hr]
    unfold Row.cell Row.cs fillR
    match j, hj with
    | 0, _ => simp
    | 1, _ => simp
    | 2, _ => simp
    | 3, _ => simp
    | 4, _ => simp
    | 5, _ => simp
    | 6, _ => simp
    | 7, _ => simp
    | 8, _ => simp
    | 9, _ => simp
    | 10, _ => simp
    | 11, _ => simp
  · have : (i < k) ↔ (i < k + 1) := by omega
    simp only [e, this, false_and, if_false]
/-- How filled ends. -/
def FilledEnd (w : World) (b c : Nat) (rows : List Row) (S : Nat → Value) (e : Ending) (w' : World) : Prop :=
  e = .returned (.slice (some ⟨b, 0, none⟩) rows.length c) ∧ Grid w' b 12 rows.length (cellA (rows.map fillR) S) ∧ Only b w w'

set_option maxRecDepth 100000 in
set_option maxHeartbeats 4000000 in
theorem filled_any (b c : Nat) (rows : List Row) (S : Nat → Value) (w : World) (hg : Grid w b 12 rows.length (cellA rows S)) (hn : rows.length ≤ 1000000) :
    Calls Try.prog 41 #[.slice (some ⟨b, 0, none⟩) rows.length c] w (FilledEnd w b c rows S) := by
  go_enter Try.func41, Try.ntmps41
  go_wp2
  go_loopw [6] (fun x wr => ∃ k : Nat, x = .int .i64 k ∧ k ≤ rows.length ∧ Grid wr b 12 rows.length (cellA (fillTo rows k) S) ∧ Only b w wr) (fun x _ => (rows.length - intOf x).toNat)
  case atStart => exact ⟨0, rfl, by omega, hg, Only.refl _ _⟩
  case round =>
    clear hg
    obtain ⟨k, rfl, hk, hg, hO⟩ := hrel
    by_cases hkn : k < rows.length
    · have hki : (k : Int) < (rows.length : Int) := by omega
      obtain ⟨r, hr⟩ : ∃ r, rows.getD k default = r := ⟨_, rfl⟩
      have hr' : (fillTo rows k).getD k default = r := by rw [fillTo_get rows k k hkn, if_neg (Nat.lt_irrefl _)]; exact hr
      obtain ⟨d0, d1, d2, d3, d4, d5, d6, d7, d8, d9, d10, d11⟩ := row_cells hg k hkn r hr'
      have f7 := hg.2.1 (k * 12 + 7)
      have f8 := hg.2.1 (k * 12 + 8)
      have f9 := hg.2.1 (k * 12 + 9)
      have hG := (((hg.set k 7 hkn (by omega) (.int .i64 (-1))).set k 8 hkn (by omega) (.int .i64 (max r.num 1))).set k 9 hkn (by omega) (.int .i64 (max r.den 1))).ext (upd_row rows S k hkn r hr)
      have hO3 := ((hO.set (k * 12 + 7) (.int .i64 (-1))).set (k * 12 + 8) (.int .i64 (max r.num 1))).set (k * 12 + 9) (.int .i64 (max r.den 1))
      have HR := Lib.hid hr
      have HR' := Lib.hid hr'
      clear hr hr'
      have HN : Hid ((if r.num < 1 then 1 else r.num) = max r.num 1) := by show _ = _; split <;> omega
      have HD : Hid ((if r.den < 1 then 1 else r.den) = max r.den 1) := by show _ = _; split <;> omega
      have HG := Lib.hid hG
      have HO := Lib.hid hO3
      clear hG hO3
      go_wp2
      rw [HN.out, HD.out]
      refine ⟨⟨k + 1, rfl, by omega, HG.out, HO.out⟩, ?_⟩
      simp only [intOf]; omega
    · have hke : k = rows.length := by omega
      subst hke
      rw [fillTo_end] at hg
      go_wp2
      go_ret
      exact ⟨rfl, hg, hO⟩

end Go.Proofs.Ytgbhfhdhmkmpcaa.Atoms

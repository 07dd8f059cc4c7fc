/-
  Contracts of frac.apart, frac.partsOf, (frac.parts).turned: a number taken apart; the world below stays as it was.
-/
import Derived.Test.YtjklbnakgkffnaaDoorR2
import Derived.Handy
namespace Go.Proofs.YtjklbnakgkffnaaDoor.Frac
open Go.RowKit
open Go.Proofs.YtjklbnakgkffnaaDoor.Whole
set_option linter.unusedVariables false
set_option linter.unusedSimpArgs false

/-- The package-level variable frac.ofTen holds 2 and 5. -/
def OfTen (w : World) : Prop := w.cell? ⟨1, 0, none⟩ = some (.int .i64 2) ∧ w.cell? ⟨1, 1, none⟩ = some (.int .i64 5) ∧ 1 < w.heap.size

theorem OfTen.below {w w' : World} (h : OfTen w) (hb : Below w.heap.size w w') : OfTen w' := by
  obtain ⟨h0, h1, hz⟩ := h
  exact ⟨(hb.cell (p := ⟨1, 0, none⟩) hz).trans h0, (hb.cell (p := ⟨1, 1, none⟩) hz).trans h1, by have := hb.size; omega⟩

/-- Behind a call that only makes memory all old cells, and their marks, read as before. -/
theorem bcell {W w1 : World} (hb : Below W.heap.size W w1) : (∀ b o, b < W.heap.size → w1.cell? ⟨b, o, none⟩ = W.cell? ⟨b, o, none⟩) ∧ (∀ b o, b < W.heap.size → w1.frozen? ⟨b, o, none⟩ = W.frozen? ⟨b, o, none⟩) :=
  ⟨fun b o h => hb.cell (p := ⟨b, o, none⟩) h, fun b o h => hb.frozen (p := ⟨b, o, none⟩) h⟩

theorem idx_l0 (a b : Value) (w : World) : (Instr.index 118 (.agg #[a, b]) (.int .i64 0)).run Tryd.prog w = .ok a w := by kernel_rfl
theorem idx_l1 (a b : Value) (w : World) : (Instr.index 118 (.agg #[a, b]) (.int .i64 1)).run Tryd.prog w = .ok b w := by kernel_rfl
theorem idx_i0 (a b : Value) (w : World) : (Instr.index 35 (.agg #[a, b]) (.int .i64 0)).run Tryd.prog w = .ok a w := by kernel_rfl
theorem idx_i1 (a b : Value) (w : World) : (Instr.index 35 (.agg #[a, b]) (.int .i64 1)).run Tryd.prog w = .ok b w := by kernel_rfl

set_option maxRecDepth 100000 in
set_option maxHeartbeats 1000000 in
theorem apart_yes (n ten : Int) (w : World) (hT : OfTen w) (hn : -9223372036854775807 ≤ n) (hn' : n ≤ 9223372036854775807) (h0 : n ≠ 0) (ht : -2000 ≤ ten) (ht' : ten ≤ 2000) :
    Calls Tryd.prog 61 #[.int .i64 n, .int .i64 ten] w fun e w' => e = .returned (.agg #[.int .i64 (spL (spL n 2) 5), .int .i64 1, .int .i64 (spT n 2 + ten), .int .i64 (spT (spL n 2) 5 + ten)]) ∧ Below w.heap.size w w' := by
  obtain ⟨c0, c1, hz⟩ := hT
  have hz2 : 1 < w.heap.size + 1 := by omega
  have b2 := spT_lt n 2 (by omega) h0 (by omega)
  have hL0 : spL n 2 ≠ 0 := fun h => by have := (sp_spec n 2 (by omega) h0).2; rw [h] at this; simp at this
  have hLb := spL_le n 2 (by omega) h0
  have b5 := spT_lt (spL n 2) 5 (by omega) hL0 (by omega)
  have H0 := Lib.hid h0
  have HL := Lib.hid hL0
  clear h0 hL0
  have i0 := idx_l0
  have i1 := idx_l1
  go_enter Tryd.func61, Tryd.ntmps61
  go_wp2
  refine wp_loop_rounds 3 ?_
  rw [rounds_succ]
  go_wp2_with (go_at_call 84; ((with_reducible refine (split_yes _ _ _ (by omega) (by omega) (by omega) (by omega) H0.out).mono ?_); rintro e w' ⟨rfl, rfl⟩))
  rw [rounds_succ]
  go_wp2_with (go_at_call 84; ((with_reducible refine (split_yes _ _ _ (by omega) (by omega) (by omega) (by omega) HL.out).mono ?_); rintro e w' ⟨rfl, rfl⟩))
  rw [rounds_succ]
  go_wp2
  refine bodyPost_ret (v := .agg #[.int .i64 (spL (spL n 2) 5), .int .i64 1, .int .i64 (spT n 2 + ten), .int .i64 (spT (spL n 2) 5 + ten)]) (by simp [results, Tryd.results61, go_sem]) rfl ⟨rfl, ?_⟩
  go_grown

set_option maxRecDepth 100000 in
set_option maxHeartbeats 1000000 in
theorem apart_zero (ten : Int) (w : World) (hT : OfTen w) (ht : -2000 ≤ ten) (ht' : ten ≤ 2000) :
    Calls Tryd.prog 61 #[.int .i64 0, .int .i64 ten] w fun e w' => e = .returned (.agg #[.int .i64 0, .int .i64 1, .int .i64 ten, .int .i64 ten]) ∧ Below w.heap.size w w' := by
  obtain ⟨c0, c1, hz⟩ := hT
  have hz2 : 1 < w.heap.size + 1 := by omega
  have i0 := idx_l0
  have i1 := idx_l1
  go_enter Tryd.func61, Tryd.ntmps61
  go_wp2
  refine wp_loop_rounds 3 ?_
  rw [rounds_succ]
  go_wp2_with (go_at_call 84; ((with_reducible refine (split_no0 _ _).mono ?_); rintro e w' ⟨rfl, rfl⟩))
  rw [rounds_succ]
  go_wp2_with (go_at_call 84; ((with_reducible refine (split_no0 _ _).mono ?_); rintro e w' ⟨rfl, rfl⟩))
  rw [rounds_succ]
  go_wp2
  refine bodyPost_ret (v := .agg #[.int .i64 0, .int .i64 1, .int .i64 ten, .int .i64 ten]) (by simp [results, Tryd.results61, go_sem]) rfl ⟨rfl, ?_⟩
  go_grown

set_option maxRecDepth 100000 in
set_option maxHeartbeats 1000000 in
theorem turned_neg (n d e2 e5 : Int) (w : World) (hn : -9223372036854775807 ≤ n) (h0 : n < 0) (hd : 0 ≤ d) (hd' : d ≤ 9223372036854775807) (h1 : -1000000 ≤ e2) (h2 : e2 ≤ 1000000) (h3 : -1000000 ≤ e5) (h4 : e5 ≤ 1000000) :
    Calls Tryd.prog 63 #[.agg #[.int .i64 n, .int .i64 d, .int .i64 e2, .int .i64 e5]] w fun e w' => e = .returned (.agg #[.int .i64 (-d), .int .i64 (-n), .int .i64 (-e2), .int .i64 (-e5)]) ∧ Below w.heap.size w w' := by
  have i0 := idx_i0
  have i1 := idx_i1
  go_enter Tryd.func63, Tryd.ntmps63
  go_wp2
  refine wp_loop_rounds 3 ?_
  rw [rounds_succ]
  go_wp2
  rw [rounds_succ]
  go_wp2
  rw [rounds_succ]
  go_wp2
  refine bodyPost_ret (v := .agg #[.int .i64 (-d), .int .i64 (-n), .int .i64 (-e2), .int .i64 (-e5)]) (by simp [results, Tryd.results63, go_sem]) rfl ⟨rfl, ?_⟩
  go_grown

set_option maxRecDepth 100000 in
set_option maxHeartbeats 1000000 in
theorem turned_pos (n d e2 e5 : Int) (w : World) (h0 : 0 ≤ n) (h1 : -1000000 ≤ e2) (h2 : e2 ≤ 1000000) (h3 : -1000000 ≤ e5) (h4 : e5 ≤ 1000000) :
    Calls Tryd.prog 63 #[.agg #[.int .i64 n, .int .i64 d, .int .i64 e2, .int .i64 e5]] w fun e w' => e = .returned (.agg #[.int .i64 d, .int .i64 n, .int .i64 (-e2), .int .i64 (-e5)]) ∧ Below w.heap.size w w' := by
  have i0 := idx_i0
  have i1 := idx_i1
  go_enter Tryd.func63, Tryd.ntmps63
  go_wp2
  refine wp_loop_rounds 3 ?_
  rw [rounds_succ]
  go_wp2
  rw [rounds_succ]
  go_wp2
  rw [rounds_succ]
  go_wp2
  refine bodyPost_ret (v := .agg #[.int .i64 d, .int .i64 n, .int .i64 (-e2), .int .i64 (-e5)]) (by simp [results, Tryd.results63, go_sem]) rfl ⟨rfl, ?_⟩
  go_grown
end Go.Proofs.YtjklbnakgkffnaaDoor.Frac

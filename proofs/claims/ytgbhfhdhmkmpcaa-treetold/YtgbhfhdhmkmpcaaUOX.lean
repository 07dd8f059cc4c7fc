/-
  Contracts of the law's rest and sym, of the document's Loose, In, Next. Contract of Next of the document's Row. Contract of the document's Same of steps.
-/
import Derived.Test.YtgbhfhdhmkmpcaaUJX
import Derived.Test.YtgbhfhdhmkmpcaaUE
import Derived.Test.YtgbhfhdhmkmpcaaUFX
namespace Go.Proofs.Ytgbhfhdhmkmpcaa.Trees
open Go.RowKit Go.Shelf
open Go.Proofs.Ytgbhfhdhmkmpcaa.Style (bs bs_size bs_at getD_at bs_of)
open Go.Proofs.Ytgbhfhdhmkmpcaa.Toks (cell_lt cell_same)
set_option linter.unusedVariables false
set_option linter.unusedSimpArgs false

def restN (x : Int) (n : Nat) : Nat := (x % (n : Int)).toNat
theorem restN_lt (x : Int) (n : Nat) (h : 0 < n) : restN x n < n := by
  have h1 := Int.emod_lt_of_pos x (show (0 : Int) < n by omega)
  have h2 := Int.emod_nonneg x (show (n : Int) ≠ 0 by omega)
  unfold restN; omega
theorem rest_eq (x n : Int) : (x.tmod n + n) % n = x % n := by
  have h := Int.mul_tdiv_add_tmod x n
  rw [Int.add_emod_right]
  calc x.tmod n % n = (x.tmod n + n * x.tdiv n) % n := by rw [Int.add_mul_emod_self_left]
    _ = x % n := by rw [Int.add_comm, h]

set_option maxRecDepth 100000 in
theorem rest_any (x : Int) (n : Nat) (w : World) (h : 1 ≤ n) (hn : n ≤ 1000000) :
    Calls Try.prog 10 #[.int .i64 x, .int .i64 n] w fun e w' => e = .returned (.int .i64 (restN x n)) ∧ w = w' := by
  have hn0 : (0 : Int) < n := by omega
  have hnn : ¬ (n : Int) = 0 := by omega
  have hle : (n : Int) ≤ 1000000 := by omega
  have hl : -(n : Int) < x.tmod n := Int.lt_tmod_of_pos x hn0
  have hr : x.tmod n < n := Int.tmod_lt_of_pos x hn0
  have HE := Lib.hid (rest_eq x n)
  have HN : Hid (((restN x n : Nat) : Int) = x % (n : Int)) := by
    show _ = _
    have := Int.emod_nonneg x hnn
    unfold restN; omega
  go_enter Try.func10, Try.ntmps10
  go_wp2
  go_ret
  exact ⟨by rw [HE.out, HN.out]; rfl, rfl⟩

def symS (a : Int) : Stp := ⟨2, -1, a, 1, 0, []⟩
set_option maxRecDepth 100000 in
theorem lsym_any (a : Int) (w : World) :
    Calls Try.prog 13 #[.int .i64 a] w fun e w' => e = .returned (symS a).v ∧ Below w.heap.size w w' := by
  go_enter Try.func13, Try.ntmps13
  go_wp2
  refine bodyPost_ret (v := (symS a).v) (by simp [results, Try.results13, go_sem, symS, Stp.v]; try rfl) rfl ⟨rfl, by go_grown⟩

end Go.Proofs.Ytgbhfhdhmkmpcaa.Trees

namespace Go.Proofs.Ytgbhfhdhmkmpcaa.Trees
open Go.RowKit Go.Shelf
open Go.Proofs.Ytgbhfhdhmkmpcaa.Style (bs bs_size)
open Go.Proofs.Ytgbhfhdhmkmpcaa.Toks (cell_lt cell_same)
set_option linter.unusedVariables false
set_option linter.unusedSimpArgs false

/-- Numbers that are taken one by one: k are taken. -/
structure RowAt (W : World) (rb : Nat) (l : List Int) (k : Nat) : Prop where
  row : ∃ o c, W.cell? ⟨rb, 0, none⟩ = some (.slice o l.length c) ∧ l.length ≤ c ∧ ∀ i, i < l.length → ∃ b off, o = some ⟨b, off, none⟩ ∧ b < rb ∧ W.cell? ⟨b, off + i, none⟩ = some (.int .i64 (l.getD i 0))
  at_ : W.cell? ⟨rb, 1, none⟩ = some (.int .i64 (k : Int))
  fz : W.frozen? ⟨rb, 1, none⟩ = false
theorem RowAt.go {W W' : World} {rb : Nat} {l : List Int} {k : Nat} (h : RowAt W rb l k) (hb : Below W.heap.size W W') : RowAt W' rb l k := by
  obtain ⟨⟨o, c, h0, hc, hv⟩, h1, h2⟩ := h
  refine ⟨⟨o, c, (hb.cell (p := ⟨rb, 0, none⟩) (cell_lt h0)).trans h0, hc, fun i hi => ?_⟩, (hb.cell (p := ⟨rb, 1, none⟩) (cell_lt h0)).trans h1, (hb.frozen (p := ⟨rb, 1, none⟩) (cell_lt h0)).trans h2⟩
  obtain ⟨b, off, e, hn, hx⟩ := hv i hi
  exact ⟨b, off, e, hn, (hb.cell (p := ⟨b, _, none⟩) (cell_lt hx)).trans hx⟩
theorem RowAt.other {W : World} {rb : Nat} {l : List Int} {k : Nat} (h : RowAt W rb l k) (b j : Nat) (u : Value) (hn : rb < b) : RowAt (W.setCell ⟨b, j, none⟩ u) rb l k := by
  obtain ⟨⟨o, c, h0, hc, hv⟩, h1, h2⟩ := h
  refine ⟨⟨o, c, ?_, hc, fun i hi => ?_⟩, ?_, by rw [World.frozen?_setCell]; exact h2⟩
  · rw [World.cell?_setCell_other _ _ _ _ (by intro hh; injection hh with e1; omega)]; exact h0
  · obtain ⟨b', off, e, hn', hx⟩ := hv i hi
    exact ⟨b', off, e, hn', by rw [World.cell?_setCell_other _ _ _ _ (by intro hh; injection hh with e1; omega)]; exact hx⟩
  · rw [World.cell?_setCell_other _ _ _ _ (by intro hh; injection hh with e1; omega)]; exact h1
/-- What comes next, and how many are taken then. -/
def nextN (l : List Int) (k n : Nat) : Nat := if k < l.length then restN (l.getD k 0) n else 0
def nextK (l : List Int) (k : Nat) : Nat := if k < l.length then k + 1 else k

set_option maxRecDepth 100000 in
set_option maxHeartbeats 2000000 in
theorem next_any (rb : Nat) (l : List Int) (k n : Nat) (w : World) (hR : RowAt w rb l k) (hk : k ≤ l.length) (hl : l.length ≤ 1000) (hn : 1 ≤ n) (hn2 : n ≤ 1000000) (hI : ∀ i, i < l.length → -9223372036854775808 ≤ l.getD i 0 ∧ l.getD i 0 ≤ 9223372036854775807) :
    Calls Try.prog 25 #[.pointer (some ⟨rb, 0, none⟩), .int .i64 (n : Int)] w fun e w' => e = .returned (.int .i64 (nextN l k n : Int)) ∧ RowAt w' rb l (nextK l k) ∧ Toks.Only rb w w' := by
  obtain ⟨⟨o, c, h0, hc, hv⟩, h1, h2⟩ := id hR
  have hli : (l.length : Int) ≤ 1000 := by omega
  unfold nextN nextK
  by_cases hlt : k < l.length
  · rw [if_pos hlt, if_pos hlt]
    obtain ⟨b, off, rfl, hne, hx⟩ := hv k hlt
    have hi := hI k hlt
    have hki : (k : Int) < l.length := by omega
    have hkn : ¬ (l.length : Int) ≤ k := by omega
    generalize l.getD k 0 = x at *
    have hn0 : (0 : Int) < n := by omega
    have hnn : ¬ (n : Int) = 0 := by omega
    have hle : (n : Int) ≤ 1000000 := by omega
    have hl1 : -(n : Int) < x.tmod n := Int.lt_tmod_of_pos x hn0
    have hr1 : x.tmod n < n := Int.tmod_lt_of_pos x hn0
    have HE := Lib.hid (rest_eq x n)
    have HN : Hid (((restN x n : Nat) : Int) = x % (n : Int)) := by
      show _ = _
      have := Int.emod_nonneg x hnn
      unfold restN; omega
    go_enter Try.func25, Try.ntmps25
    go_wp2_with fail
    go_quiet (fail)
    have w0 : (w.drewN nq).cell? ⟨rb, 0, none⟩ = some (.slice (some ⟨b, off, none⟩) l.length c) := h0
    have w1 : (w.drewN nq).cell? ⟨rb, 1, none⟩ = some (.int .i64 (k : Int)) := h1
    have w2 : (w.drewN nq).frozen? ⟨rb, 1, none⟩ = false := h2
    have wx : (w.drewN nq).cell? ⟨b, off + k, none⟩ = some (.int .i64 x) := hx
    have hR1 : RowAt (w.drewN nq) rb l k := hR.go (draws_n w nq)
    have hO1 : Toks.Only rb w (w.drewN nq) := ⟨rfl, rfl, rfl, rfl, fun _ _ => rfl⟩
    generalize w.drewN nq = W at *
    clear h0 h1 h2 hx hR
    have hq0 : ∃ q : Int, (k : Int) + 1 = q := ⟨_, rfl⟩
    have y0 : (W.setCell ⟨rb, 1, none⟩ (.int .i64 ((k : Int) + 1))).cell? ⟨rb, 0, none⟩ = some (.slice (some ⟨b, off, none⟩) l.length c) := by simp [go_sem, w0]
    have y1 : (W.setCell ⟨rb, 1, none⟩ (.int .i64 ((k : Int) + 1))).cell? ⟨rb, 1, none⟩ = some (.int .i64 ((k : Int) + 1)) := World.cell?_setCell_same _ _ _ w1
    have y2 : (W.setCell ⟨rb, 1, none⟩ (.int .i64 ((k : Int) + 1))).frozen? ⟨rb, 1, none⟩ = false := by rw [World.frozen?_setCell]; exact w2
    have yv : ∀ i, i < l.length → ∃ b' off', (some ⟨b, off, none⟩ : Option Addr) = some ⟨b', off', none⟩ ∧ b' < rb ∧ (W.setCell ⟨rb, 1, none⟩ (.int .i64 ((k : Int) + 1))).cell? ⟨b', off' + i, none⟩ = some (.int .i64 (l.getD i 0)) := by
      intro i hi
      obtain ⟨o', c', e0, _, hv2⟩ := hR1.row
      rw [w0] at e0
      injection e0 with e0
      injection e0 with e0 _ _
      obtain ⟨b', off', eo, hne', hx'⟩ := hv2 i hi
      refine ⟨b', off', e0.trans eo, hne', ?_⟩
      rw [World.cell?_setCell_other _ _ _ _ (by intro hh; injection hh with e1; omega)]
      exact hx'
    have yx : (W.setCell ⟨rb, 1, none⟩ (.int .i64 ((k : Int) + 1))).cell? ⟨b, off + k, none⟩ = some (.int .i64 x) := by
      rw [World.cell?_setCell_other _ _ _ _ (by intro hh; injection hh with e1; omega)]
      exact wx
    have hR2 : RowAt (W.setCell ⟨rb, 1, none⟩ (.int .i64 ((k : Int) + 1))) rb l (k + 1) := ⟨⟨_, c, y0, hc, yv⟩, by simpa using y1, y2⟩
    have hO2 := hO1.set 1 (.int .i64 ((k : Int) + 1))
    go_wp2_with fail
    generalize W.setCell ⟨rb, 1, none⟩ (.int .i64 ((k : Int) + 1)) = W2 at *
    have hw1 : IntKind.i64.wrap ((k : Int) + 1 - 1) = (k : Int) := by unfold IntKind.wrap; simp [IntKind.bits, IntKind.signed]; omega
    have hw2 : IntKind.i64.wrap (x.tmod n + n) = x.tmod n + n := by unfold IntKind.wrap; simp [IntKind.bits, IntKind.signed]; omega
    clear w0 w1 w2 wx hR1 hO1 hv yv hI y2 hq0
    go_quiet (fail)
    go_wp2_with fail
    have hO3 : Toks.Only rb w (W2.drewN nq) := ⟨hO2.os, hO2.tape, hO2.output, hO2.size, hO2.block⟩
    have hR3 : RowAt (W2.drewN nq) rb l (k + 1) := hR2.go (draws_n W2 nq)
    go_ret
    exact ⟨by rw [HE.out, HN.out]; rfl, hR3, hO3⟩
  · rw [if_neg hlt, if_neg hlt]
    have hkn : (l.length : Int) ≤ k := by omega
    go_enter Try.func25, Try.ntmps25
    go_wp2_with fail
    go_quiet (fail)
    have hR1 : RowAt (w.drewN nq) rb l k := hR.go (draws_n w nq)
    have hO1 : Toks.Only rb w (w.drewN nq) := ⟨rfl, rfl, rfl, rfl, fun _ _ => rfl⟩
    generalize w.drewN nq = W at *
    go_wp2_with fail
    go_ret
    exact ⟨rfl, hR1, hO1⟩

def textN (m : Nat) : List UInt8 := [[120], [97, 32, 98], [], [49, 45, 50], [35]].getD m []
set_option maxRecDepth 100000 in
set_option maxHeartbeats 2000000 in
theorem text_any (rb : Nat) (l : List Int) (k : Nat) (w : World) (hR : RowAt w rb l k) (hk : k ≤ l.length) (hl : l.length ≤ 1000) (hI : ∀ i, i < l.length → -9223372036854775808 ≤ l.getD i 0 ∧ l.getD i 0 ≤ 9223372036854775807) :
    Calls Try.prog 27 #[.pointer (some ⟨rb, 0, none⟩)] w fun e w' => e = .returned (.string (bs (textN (nextN l k 5)))) ∧ RowAt w' rb l (nextK l k) ∧ ∃ w1, Below w.heap.size w w1 ∧ Toks.Only rb w1 w' := by
  have hN := fun W h => next_any rb l k 5 W h hk hl (by omega) (by omega) hI
  have h5 : nextN l k 5 < 5 := by unfold nextN; split; exact restN_lt _ _ (by omega); omega
  generalize nextN l k 5 = m at *
  obtain ⟨o, c, h0, _⟩ := hR.row
  have hrb := cell_lt h0
  have hu : Below w.heap.size w (w.alloc (.cells #[.string (bs [120]), .string (bs [97, 32, 98]), .string (bs []), .string (bs [49, 45, 50]), .string (bs [35])] 70)) := by go_grown
  have hR1 := hR.go hu
  have t0 : (w.alloc (.cells #[.string (bs [120]), .string (bs [97, 32, 98]), .string (bs []), .string (bs [49, 45, 50]), .string (bs [35])] 70)).cell? ⟨w.heap.size, 0, none⟩ = some (.string (bs [120])) := by simp [go_sem]
  have t1 : (w.alloc (.cells #[.string (bs [120]), .string (bs [97, 32, 98]), .string (bs []), .string (bs [49, 45, 50]), .string (bs [35])] 70)).cell? ⟨w.heap.size, 1, none⟩ = some (.string (bs [97, 32, 98])) := by simp [go_sem]
  have t2 : (w.alloc (.cells #[.string (bs [120]), .string (bs [97, 32, 98]), .string (bs []), .string (bs [49, 45, 50]), .string (bs [35])] 70)).cell? ⟨w.heap.size, 2, none⟩ = some (.string (bs [])) := by simp [go_sem]
  have t3 : (w.alloc (.cells #[.string (bs [120]), .string (bs [97, 32, 98]), .string (bs []), .string (bs [49, 45, 50]), .string (bs [35])] 70)).cell? ⟨w.heap.size, 3, none⟩ = some (.string (bs [49, 45, 50])) := by simp [go_sem]
  have t4 : (w.alloc (.cells #[.string (bs [120]), .string (bs [97, 32, 98]), .string (bs []), .string (bs [49, 45, 50]), .string (bs [35])] 70)).cell? ⟨w.heap.size, 4, none⟩ = some (.string (bs [35])) := by simp [go_sem]
  go_enter Try.func27, Try.ntmps27
  go_wp2_with fail
  change Calls _ _ _ (w.alloc (.cells #[.string (bs [120]), .string (bs [97, 32, 98]), .string (bs []), .string (bs [49, 45, 50]), .string (bs [35])] 70)) _
  generalize w.alloc (.cells #[.string (bs [120]), .string (bs [97, 32, 98]), .string (bs []), .string (bs [49, 45, 50]), .string (bs [35])] 70) = W1 at *
  refine (hN W1 hR1).mono ?_
  rintro e W2 ⟨rfl, hR2, hO⟩
  have hb := hO.block w.heap.size (by omega)
  replace t0 := cell_same t0 hb
  replace t1 := cell_same t1 hb
  replace t2 := cell_same t2 hb
  replace t3 := cell_same t3 hb
  replace t4 := cell_same t4 hb
  clear hN hR hR1 hb hrb h0 hI
  rcases (by omega : m = 0 ∨ m = 1 ∨ m = 2 ∨ m = 3 ∨ m = 4) with rfl | rfl | rfl | rfl | rfl
  all_goals
    go_wp2_with fail
    go_ret
    exact ⟨rfl, hR2, W1, hu, hO⟩

end Go.Proofs.Ytgbhfhdhmkmpcaa.Trees

namespace Go.Proofs.Ytgbhfhdhmkmpcaa.Trees
open Go.RowKit Go.Shelf
open Go.Proofs.Ytgbhfhdhmkmpcaa.Style (bs bs_size)
open Go.Proofs.Ytgbhfhdhmkmpcaa.Toks (cell_lt cell_same)
set_option linter.unusedVariables false
set_option linter.unusedSimpArgs false

theorem same_take {A B : List Stp} {i : Nat} (hA : i < A.length) (hB : i < B.length) (h : A.take i = B.take i) : (A.take (i + 1) = B.take (i + 1)) ↔ A.getD i default = B.getD i default := by
  rw [List.take_succ_eq_append_getElem hA, List.take_succ_eq_append_getElem hB, h, List.getD_eq_getElem?_getD, List.getD_eq_getElem?_getD, List.getElem?_eq_getElem hA, List.getElem?_eq_getElem hB]
  show _ ↔ A[i] = B[i]
  constructor
  · intro e
    have := List.append_cancel_left e
    injection this
  · intro e
    rw [e]

end Go.Proofs.Ytgbhfhdhmkmpcaa.Trees


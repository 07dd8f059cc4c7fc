/-
  Contracts of the law's rest and sym, of the document's Loose, In, Next. Contract of Next of the document's Row. Contract of the document's Same of steps.
-/
import Derived.Test.YthofogokpolhdaaGreatDoorUJX
import Derived.Test.YthofogokpolhdaaGreatDoorUEX
namespace Go.Proofs.YthofogokpolhdaaGreatDoor.Trees
open Go.RowKit Go.Shelf
open Go.Proofs.YthofogokpolhdaaGreatDoor.Style (bs bs_size bs_at getD_at bs_of)
open Go.Proofs.YthofogokpolhdaaGreatDoor.Toks (cell_lt cell_same)
set_option linter.unusedVariables false
set_option linter.unusedSimpArgs false

def restN (x : Int) (n : Nat) : Nat := (x % (n : Int)).toNat
theorem restN_lt (x : Int) (n : Nat) (h : 0 < n) : restN x n < n := by
  have h1 := Int.emod_lt_of_pos x (show (0 : Int) < n by omega)
  have h2 := Int.emod_nonneg x (show (n : Int) ≠ 0 by omega)
  unfold restN; omega
theorem rest_eq (x n : Int) : (x.tmod n + n) % n = x % n := by
  have h := Int.mul_tdiv_add_tmod x n
  rw [Int.add_emod_right]
  calc x.tmod n % n = (x.tmod n + n * x.tdiv n) % n := by rw [Int.add_mul_emod_self_left]
    _ = x % n := by rw [Int.add_comm, h]

/-- Brackets stand around what has that last step, on the right, whatever it is of. -/
def looseZ (op : Int) : Bool := decide (op = 3 ∨ op = 4 ∨ op = 5)
set_option maxRecDepth 100000 in
set_option maxHeartbeats 2000000 in
theorem loose_any (s : Value) (L : List Stp) (w : World) (hV : View w s L) (h0 : 1 ≤ L.length) (hl : L.length ≤ 100000) :
    Calls Tryz.prog 93 #[s] w fun e w' => e = .returned (.bool (looseZ (L.getD (L.length - 1) default).op)) ∧ Below w.heap.size w w' := by
  obtain ⟨o, c, rfl, hlc, hv⟩ := hV
  obtain ⟨n, hn⟩ : ∃ n, L.length = n + 1 := ⟨L.length - 1, by omega⟩
  obtain ⟨b, off, rfl, v0, _⟩ := hv n (by omega)
  rw [show L.length - 1 = n by omega]
  have hni : (n : Int) ≤ 100000 := by omega
  have hnn : ((n + 1 : Nat) : Int) = (n : Int) + 1 := by omega
  clear hv
  rw [hn]
  generalize (L.getD n default).op = op at *
  unfold looseZ
  by_cases h3 : op = 3
  · subst h3; go_enter Tryz.func93, Tryz.ntmps93; go_wp2; go_ret; exact ⟨by first | rfl | simp, by first | exact Below.refl _ _ | go_grown⟩
  by_cases h4 : op = 4
  · subst h4; go_enter Tryz.func93, Tryz.ntmps93; go_wp2; go_ret; exact ⟨by first | rfl | simp, by first | exact Below.refl _ _ | go_grown⟩
  by_cases h5 : op = 5
  · subst h5; go_enter Tryz.func93, Tryz.ntmps93; go_wp2; go_ret; exact ⟨by first | rfl | simp, by first | exact Below.refl _ _ | go_grown⟩
  have e3 : (op == 3) = false := by simpa using h3
  have e4 : (op == 4) = false := by simpa using h4
  have e5 : (op == 5) = false := by simpa using h5
  rw [decide_eq_false (by omega)]
  go_enter Tryz.func93, Tryz.ntmps93
  go_wp2
  go_ret
  exact ⟨by first | rfl | simp, by first | exact Below.refl _ _ | go_grown⟩

end Go.Proofs.YthofogokpolhdaaGreatDoor.Trees

namespace Go.Proofs.YthofogokpolhdaaGreatDoor.Trees
open Go.RowKit Go.Shelf
open Go.Proofs.YthofogokpolhdaaGreatDoor.Style (bs bs_size)
open Go.Proofs.YthofogokpolhdaaGreatDoor.Toks (cell_lt cell_same)
set_option linter.unusedVariables false
set_option linter.unusedSimpArgs false

/-- Numbers that are taken one by one: k are taken. -/
structure RowAt (W : World) (rb : Nat) (l : List Int) (k : Nat) : Prop where
  row : ∃ o c, W.cell? ⟨rb, 0, none⟩ = some (.slice o l.length c) ∧ l.length ≤ c ∧ ∀ i, i < l.length → ∃ b off, o = some ⟨b, off, none⟩ ∧ b < rb ∧ W.cell? ⟨b, off + i, none⟩ = some (.int .i64 (l.getD i 0))
  at_ : W.cell? ⟨rb, 1, none⟩ = some (.int .i64 (k : Int))
  fz : W.frozen? ⟨rb, 1, none⟩ = false
theorem RowAt.go {W W' : World} {rb : Nat} {l : List Int} {k : Nat} (h : RowAt W rb l k) (hb : Below W.heap.size W W') : RowAt W' rb l k := by
  obtain ⟨⟨o, c, h0, hc, hv⟩, h1, h2⟩ := h
  refine ⟨⟨o, c, (hb.cell (p := ⟨rb, 0, none⟩) (cell_lt h0)).trans h0, hc, fun i hi => ?_⟩, (hb.cell (p := ⟨rb, 1, none⟩) (cell_lt h0)).trans h1, (hb.frozen (p := ⟨rb, 1, none⟩) (cell_lt h0)).trans h2⟩
  obtain ⟨b, off, e, hn, hx⟩ := hv i hi
  exact ⟨b, off, e, hn, (hb.cell (p := ⟨b, _, none⟩) (cell_lt hx)).trans hx⟩
theorem RowAt.other {W : World} {rb : Nat} {l : List Int} {k : Nat} (h : RowAt W rb l k) (b j : Nat) (u : Value) (hn : rb < b) : RowAt (W.setCell ⟨b, j, none⟩ u) rb l k := by
  obtain ⟨⟨o, c, h0, hc, hv⟩, h1, h2⟩ := h
  refine ⟨⟨o, c, ?_, hc, fun i hi => ?_⟩, ?_, by rw [World.frozen?_setCell]; exact h2⟩
  · rw [World.cell?_setCell_other _ _ _ _ (by intro hh; injection hh with e1; omega)]; exact h0
  · obtain ⟨b', off, e, hn', hx⟩ := hv i hi
    exact ⟨b', off, e, hn', by rw [World.cell?_setCell_other _ _ _ _ (by intro hh; injection hh with e1; omega)]; exact hx⟩
  · rw [World.cell?_setCell_other _ _ _ _ (by intro hh; injection hh with e1; omega)]; exact h1
/-- What comes next, and how many are taken then. -/
def nextN (l : List Int) (k n : Nat) : Nat := if k < l.length then restN (l.getD k 0) n else 0
def nextK (l : List Int) (k : Nat) : Nat := if k < l.length then k + 1 else k

set_option maxRecDepth 100000 in
set_option maxHeartbeats 2000000 in
theorem next_any (rb : Nat) (l : List Int) (k n : Nat) (w : World) (hR : RowAt w rb l k) (hk : k ≤ l.length) (hl : l.length ≤ 1000) (hn : 1 ≤ n) (hn2 : n ≤ 1000000) (hI : ∀ i, i < l.length → -9223372036854775808 ≤ l.getD i 0 ∧ l.getD i 0 ≤ 9223372036854775807) :
    Calls Tryz.prog 63 #[.pointer (some ⟨rb, 0, none⟩), .int .i64 (n : Int)] w fun e w' => e = .returned (.int .i64 (nextN l k n : Int)) ∧ RowAt w' rb l (nextK l k) ∧ Toks.Only rb w w' := by
  obtain ⟨⟨o, c, h0, hc, hv⟩, h1, h2⟩ := id hR
  have hli : (l.length : Int) ≤ 1000 := by omega
  unfold nextN nextK
  by_cases hlt : k < l.length
  · rw [if_pos hlt, if_pos hlt]
    obtain ⟨b, off, rfl, hne, hx⟩ := hv k hlt
    have hi := hI k hlt
    have hki : (k : Int) < l.length := by omega
    have hkn : ¬ (l.length : Int) ≤ k := by omega
    generalize l.getD k 0 = x at *
    have hn0 : (0 : Int) < n := by omega
    have hnn : ¬ (n : Int) = 0 := by omega
    have hle : (n : Int) ≤ 1000000 := by omega
    have hl1 : -(n : Int) < x.tmod n := Int.lt_tmod_of_pos x hn0
    have hr1 : x.tmod n < n := Int.tmod_lt_of_pos x hn0
    have HE := Lib.hid (rest_eq x n)
    have HN : Hid (((restN x n : Nat) : Int) = x % (n : Int)) := by
      show _ = _
      have := Int.emod_nonneg x hnn
      unfold restN; omega
    go_enter Tryz.func63, Tryz.ntmps63
    go_wp2_with fail
    go_quiet (fail)
    have w0 : (w.drewN nq).cell? ⟨rb, 0, none⟩ = some (.slice (some ⟨b, off, none⟩) l.length c) := h0
    have w1 : (w.drewN nq).cell? ⟨rb, 1, none⟩ = some (.int .i64 (k : Int)) := h1
    have w2 : (w.drewN nq).frozen? ⟨rb, 1, none⟩ = false := h2
    have wx : (w.drewN nq).cell? ⟨b, off + k, none⟩ = some (.int .i64 x) := hx
    have hR1 : RowAt (w.drewN nq) rb l k := hR.go (draws_n w nq)
    have hO1 : Toks.Only rb w (w.drewN nq) := ⟨rfl, rfl, rfl, rfl, fun _ _ => rfl⟩
    generalize w.drewN nq = W at *
    clear h0 h1 h2 hx hR
    have hq0 : ∃ q : Int, (k : Int) + 1 = q := ⟨_, rfl⟩
    have y0 : (W.setCell ⟨rb, 1, none⟩ (.int .i64 ((k : Int) + 1))).cell? ⟨rb, 0, none⟩ = some (.slice (some ⟨b, off, none⟩) l.length c) := by simp [go_sem, w0]
    have y1 : (W.setCell ⟨rb, 1, none⟩ (.int .i64 ((k : Int) + 1))).cell? ⟨rb, 1, none⟩ = some (.int .i64 ((k : Int) + 1)) := World.cell?_setCell_same _ _ _ w1
    have y2 : (W.setCell ⟨rb, 1, none⟩ (.int .i64 ((k : Int) + 1))).frozen? ⟨rb, 1, none⟩ = false := by rw [World.frozen?_setCell]; exact w2
    have yv : ∀ i, i < l.length → ∃ b' off', (some ⟨b, off, none⟩ : Option Addr) = some ⟨b', off', none⟩ ∧ b' < rb ∧ (W.setCell ⟨rb, 1, none⟩ (.int .i64 ((k : Int) + 1))).cell? ⟨b', off' + i, none⟩ = some (.int .i64 (l.getD i 0)) := by
      intro i hi
      obtain ⟨o', c', e0, _, hv2⟩ := hR1.row
      rw [w0] at e0
      injection e0 with e0
      injection e0 with e0 _ _
      obtain ⟨b', off', eo, hne', hx'⟩ := hv2 i hi
      refine ⟨b', off', e0.trans eo, hne', ?_⟩
      rw [World.cell?_setCell_other _ _ _ _ (by intro hh; injection hh with e1; omega)]
      exact hx'
    have yx : (W.setCell ⟨rb, 1, none⟩ (.int .i64 ((k : Int) + 1))).cell? ⟨b, off + k, none⟩ = some (.int .i64 x) := by
      rw [World.cell?_setCell_other _ _ _ _ (by intro hh; injection hh with e1; omega)]
      exact wx
    have hR2 : RowAt (W.setCell ⟨rb, 1, none⟩ (.int .i64 ((k : Int) + 1))) rb l (k + 1) := ⟨⟨_, c, y0, hc, yv⟩, by simpa using y1, y2⟩
    have hO2 := hO1.set 1 (.int .i64 ((k : Int) + 1))
    go_wp2_with fail
    generalize W.setCell ⟨rb, 1, none⟩ (.int .i64 ((k : Int) + 1)) = W2 at *
    have hw1 : IntKind.i64.wrap ((k : Int) + 1 - 1) = (k : Int) := by unfold IntKind.wrap; simp [IntKind.bits, IntKind.signed]; omega
    have hw2 : IntKind.i64.wrap (x.tmod n + n) = x.tmod n + n := by unfold IntKind.wrap; simp [IntKind.bits, IntKind.signed]; omega
    clear w0 w1 w2 wx hR1 hO1 hv yv hI y2 hq0
    go_quiet (fail)
    go_wp2_with fail
    have hO3 : Toks.Only rb w (W2.drewN nq) := ⟨hO2.os, hO2.tape, hO2.output, hO2.size, hO2.block⟩
    have hR3 : RowAt (W2.drewN nq) rb l (k + 1) := hR2.go (draws_n W2 nq)
    go_ret
    exact ⟨by rw [HE.out, HN.out]; rfl, hR3, hO3⟩
  · rw [if_neg hlt, if_neg hlt]
    have hkn : (l.length : Int) ≤ k := by omega
    go_enter Tryz.func63, Tryz.ntmps63
    go_wp2_with fail
    go_quiet (fail)
    have hR1 : RowAt (w.drewN nq) rb l k := hR.go (draws_n w nq)
    have hO1 : Toks.Only rb w (w.drewN nq) := ⟨rfl, rfl, rfl, rfl, fun _ _ => rfl⟩
    generalize w.drewN nq = W at *
    go_wp2_with fail
    go_ret
    exact ⟨rfl, hR1, hO1⟩

def textN (m : Nat) : List UInt8 := [[120], [97, 32, 98], [], [49, 45, 50], [35]].getD m []
set_option maxRecDepth 100000 in
set_option maxHeartbeats 2000000 in
theorem text_any (rb : Nat) (l : List Int) (k : Nat) (w : World) (hR : RowAt w rb l k) (hk : k ≤ l.length) (hl : l.length ≤ 1000) (hI : ∀ i, i < l.length → -9223372036854775808 ≤ l.getD i 0 ∧ l.getD i 0 ≤ 9223372036854775807) :
    Calls Tryz.prog 65 #[.pointer (some ⟨rb, 0, none⟩)] w fun e w' => e = .returned (.string (bs (textN (nextN l k 5)))) ∧ RowAt w' rb l (nextK l k) ∧ ∃ w1, Below w.heap.size w w1 ∧ Toks.Only rb w1 w' := by
  have hN := fun W h => next_any rb l k 5 W h hk hl (by omega) (by omega) hI
  have h5 : nextN l k 5 < 5 := by unfold nextN; split; exact restN_lt _ _ (by omega); omega
  generalize nextN l k 5 = m at *
  obtain ⟨o, c, h0, _⟩ := hR.row
  have hrb := cell_lt h0
  have hu : Below w.heap.size w (w.alloc (.cells #[.string (bs [120]), .string (bs [97, 32, 98]), .string (bs []), .string (bs [49, 45, 50]), .string (bs [35])] 131)) := by go_grown
  have hR1 := hR.go hu
  have t0 : (w.alloc (.cells #[.string (bs [120]), .string (bs [97, 32, 98]), .string (bs []), .string (bs [49, 45, 50]), .string (bs [35])] 131)).cell? ⟨w.heap.size, 0, none⟩ = some (.string (bs [120])) := by simp [go_sem]
  have t1 : (w.alloc (.cells #[.string (bs [120]), .string (bs [97, 32, 98]), .string (bs []), .string (bs [49, 45, 50]), .string (bs [35])] 131)).cell? ⟨w.heap.size, 1, none⟩ = some (.string (bs [97, 32, 98])) := by simp [go_sem]
  have t2 : (w.alloc (.cells #[.string (bs [120]), .string (bs [97, 32, 98]), .string (bs []), .string (bs [49, 45, 50]), .string (bs [35])] 131)).cell? ⟨w.heap.size, 2, none⟩ = some (.string (bs [])) := by simp [go_sem]
  have t3 : (w.alloc (.cells #[.string (bs [120]), .string (bs [97, 32, 98]), .string (bs []), .string (bs [49, 45, 50]), .string (bs [35])] 131)).cell? ⟨w.heap.size, 3, none⟩ = some (.string (bs [49, 45, 50])) := by simp [go_sem]
  have t4 : (w.alloc (.cells #[.string (bs [120]), .string (bs [97, 32, 98]), .string (bs []), .string (bs [49, 45, 50]), .string (bs [35])] 131)).cell? ⟨w.heap.size, 4, none⟩ = some (.string (bs [35])) := by simp [go_sem]
  go_enter Tryz.func65, Tryz.ntmps65
  go_wp2_with fail
  change Calls _ _ _ (w.alloc (.cells #[.string (bs [120]), .string (bs [97, 32, 98]), .string (bs []), .string (bs [49, 45, 50]), .string (bs [35])] 131)) _
  generalize w.alloc (.cells #[.string (bs [120]), .string (bs [97, 32, 98]), .string (bs []), .string (bs [49, 45, 50]), .string (bs [35])] 131) = W1 at *
  refine (hN W1 hR1).mono ?_
  rintro e W2 ⟨rfl, hR2, hO⟩
  have hb := hO.block w.heap.size (by omega)
  replace t0 := cell_same t0 hb
  replace t1 := cell_same t1 hb
  replace t2 := cell_same t2 hb
  replace t3 := cell_same t3 hb
  replace t4 := cell_same t4 hb
  clear hN hR hR1 hb hrb h0 hI
  rcases (by omega : m = 0 ∨ m = 1 ∨ m = 2 ∨ m = 3 ∨ m = 4) with rfl | rfl | rfl | rfl | rfl
  all_goals
    go_wp2_with fail
    go_ret
    exact ⟨rfl, hR2, W1, hu, hO⟩

end Go.Proofs.YthofogokpolhdaaGreatDoor.Trees

namespace Go.Proofs.YthofogokpolhdaaGreatDoor.Trees
open Go.RowKit Go.Shelf
open Go.Proofs.YthofogokpolhdaaGreatDoor.Style (bs bs_size)
open Go.Proofs.YthofogokpolhdaaGreatDoor.Toks (cell_lt cell_same)
set_option linter.unusedVariables false
set_option linter.unusedSimpArgs false

theorem same_take {A B : List Stp} {i : Nat} (hA : i < A.length) (hB : i < B.length) (h : A.take i = B.take i) : (A.take (i + 1) = B.take (i + 1)) ↔ A.getD i default = B.getD i default := by
  rw [List.take_succ_eq_append_getElem hA, List.take_succ_eq_append_getElem hB, h, List.getD_eq_getElem?_getD, List.getD_eq_getElem?_getD, List.getElem?_eq_getElem hA, List.getElem?_eq_getElem hB]
  show _ ↔ A[i] = B[i]
  constructor
  · intro e
    have := List.append_cancel_left e
    injection this
  · intro e
    rw [e]

set_option maxRecDepth 100000 in
set_option maxHeartbeats 2000000 in
theorem same_any (sa sb : Value) (A B : List Stp) (w : World) (hA : View w sa A) (hB : View w sb B) (hl : A.length ≤ 100000) (hl2 : B.length ≤ 100000) :
    Calls Tryz.prog 19 #[sa, sb] w fun e w' => e = .returned (.bool (decide (A = B))) ∧ Below w.heap.size w w' := by
  obtain ⟨oa, ca, rfl, hca⟩ := hA.slice
  obtain ⟨ob, cb, rfl, hcb⟩ := hB.slice
  have hli : (A.length : Int) ≤ 100000 := by omega
  have hli2 : (B.length : Int) ≤ 100000 := by omega
  by_cases hlen : A.length = B.length
  · obtain ⟨R, hR⟩ : ∃ R, decide (A = B) = R := ⟨_, rfl⟩
    rw [hR]
    have HR := Lib.hid hR
    clear hR
    rw [← hlen] at hcb
    have HB2 : Hid (View w (.slice ob A.length cb) B ∧ B.length = A.length) := ⟨by rw [hlen]; exact hB, hlen.symm⟩
    rw [← hlen]
    clear hB hli2 hl2 hlen
    go_enter Tryz.func19, Tryz.ntmps19
    go_wp2_with fail
    go_loopw [5] (fun x wr => ∃ i : Nat, x = .int .i64 (i : Int) ∧ i ≤ A.length ∧ Hid (A.take i = B.take i) ∧ Below w.heap.size w wr) (fun x _ => (A.length - intOf x).toNat)
    case atStart => exact ⟨0, rfl, by omega, by show _ = _; rfl, Below.refl _ _⟩
    case round =>
      obtain ⟨i, rfl, hi, HJ, hW⟩ := hrel
      by_cases hil : i < A.length
      · have hii : (i : Int) < A.length := by omega
        obtain ⟨o1, c1, e1, _, hv1⟩ := hA.go hW
        obtain ⟨b1, f1, eo1, u0, u1, u2, u3, u4, u5⟩ := hv1 i hil
        obtain ⟨o2, c2, e2, _, hv2⟩ := HB2.out.1.go hW
        obtain ⟨b2, f2, eo2, v0, v1, v2, v3, v4, v5⟩ := hv2 i (by rw [HB2.out.2]; exact hil)
        injection e1 with e1 _ e3
        subst e1 e3
        subst eo1
        rw [HB2.out.2] at e2
        injection e2 with e2 _ e4
        subst e2 e4
        subst eo2
        have hst := same_take hil (by rw [HB2.out.2]; exact hil) HJ.out
        clear hv1 hv2
        obtain ⟨x, hx⟩ : ∃ x, A.getD i default = x := ⟨_, rfl⟩
        obtain ⟨y, hy⟩ : ∃ y, B.getD i default = y := ⟨_, rfl⟩
        rw [hx] at u0 u1 u2 u3 u4 u5 hst
        rw [hy] at v0 v1 v2 v3 v4 v5 hst
        have hxy := eqS_iff x y
        unfold eqS at hxy
        obtain ⟨x0, x1, x2, x3, x4, x5⟩ := x
        obtain ⟨y0, y1, y2, y3, y4, y5⟩ := y
        simp only at u0 u1 u2 u3 u4 u5 v0 v1 v2 v3 v4 v5 hxy
        have HST := Lib.hid hst
        clear hst hx hy
        cases e : decide ((⟨x0, x1, x2, x3, x4, x5⟩ : Stp) = ⟨y0, y1, y2, y3, y4, y5⟩) with
        | true =>
          have heq := of_decide_eq_true e
          rw [e] at hxy
          have HJ2 : Hid (A.take (i + 1) = B.take (i + 1)) := HST.out.2 heq
          clear HST HJ e heq
          have hnx : ∀ W : World, (binOp BinOp.neq 47 (.agg #[.int .i64 x0, .int .i64 x1, .int .i64 x2, .int .i64 x3, .int .i64 x4, .string (bs x5)]) (.agg #[.int .i64 y0, .int .i64 y1, .int .i64 y2, .int .i64 y3, .int .i64 y4, .string (bs y5)])).run Tryz.prog W = .ok (.bool false) W := fun W => by rw [nev_step, hxy]; rfl
          clear hxy
          go_wp2_with fail
          go_quiet (fail)
          go_wp2_with fail
          exact ⟨⟨i + 1, by simp, by omega, HJ2, hW.trans ((draws_n _ _).mono hW.size)⟩, by simp only [intOf]; omega⟩
        | false =>
          have hne := of_decide_eq_false e
          rw [e] at hxy
          have HRf : Hid (false = R) := by
            show _ = _
            rw [← HR.out, decide_eq_false]
            intro h
            exact hne (HST.out.1 (by rw [h]))
          clear HST HJ e hne
          have hnx : ∀ W : World, (binOp BinOp.neq 47 (.agg #[.int .i64 x0, .int .i64 x1, .int .i64 x2, .int .i64 x3, .int .i64 x4, .string (bs x5)]) (.agg #[.int .i64 y0, .int .i64 y1, .int .i64 y2, .int .i64 y3, .int .i64 y4, .string (bs y5)])).run Tryz.prog W = .ok (.bool true) W := fun W => by rw [nev_step, hxy]; rfl
          clear hxy
          go_wp2_with fail
          go_quiet (fail)
          go_wp2_with fail
          go_ret
          exact ⟨by rw [← HRf.out]; rfl, hW.trans ((draws_n _ _).mono hW.size)⟩
      · have hii : ¬ (i : Int) < A.length := by omega
        have HRt : Hid (true = R) := by
          show _ = _
          rw [← HR.out, decide_eq_true]
          have := HJ.out
          rw [List.take_of_length_le (by omega), List.take_of_length_le (by rw [HB2.out.2]; omega)] at this
          exact this
        go_wp2_with fail
        go_ret
        exact ⟨by rw [← HRt.out]; rfl, hW⟩
  · have hne : ((A.length : Int) == (B.length : Int)) = false := by simp; omega
    have hd : decide (A = B) = false := decide_eq_false (fun h => hlen (by rw [h]))
    rw [hd]
    have hlen2 : ¬ (A.length : Int) = B.length := by omega
    clear hA hB
    go_enter Tryz.func19, Tryz.ntmps19
    go_wp2_with fail
    go_ret
    exact ⟨rfl, Below.refl _ _⟩

end Go.Proofs.YthofogokpolhdaaGreatDoor.Trees


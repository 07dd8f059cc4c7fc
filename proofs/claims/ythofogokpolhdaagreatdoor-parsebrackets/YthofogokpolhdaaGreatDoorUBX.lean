/-
  Contracts of tree.takes, bracketed, isPlain, isSymbol, and of the document's Takes. Contracts of tree.isSymbol, mayBe. Equality of steps; contract of tree.mayBe.
-/
import Derived.Test.YthofogokpolhdaaGreatDoorXG
import Derived.Test.YthofogokpolhdaaGreatDoorPAX
import Derived.Test.YthofogokpolhdaaGreatDoorAFX
import Derived.BigQuiet
import Derived.Deep.QuietTactic
import Derived.Deep.RegionHeld3
import Derived.Test.YthofogokpolhdaaGreatDoorA9X
namespace Go.Proofs.YthofogokpolhdaaGreatDoor.Trees
open Go.RowKit Go.Shelf
open Go.Proofs.YthofogokpolhdaaGreatDoor.Style (bs bs_size bs_at getD_at bs_of)
open Go.Proofs.YthofogokpolhdaaGreatDoor.Toks (Grid SliceAt Spare Above cell_lt cell_same)
set_option linter.unusedVariables false
set_option linter.unusedSimpArgs false

theorem takes_any (op : Int) (w : World) : Calls Tryz.prog 42 #[.int .i64 op] w fun e w' => e = .returned (.int .i64 (takesZ op : Int)) ∧ w = w' := by
  unfold takesZ
  by_cases h3 : op = 3
  · subst h3; go_enter Tryz.func42, Tryz.ntmps42; go_wp2; go_ret; exact ⟨rfl, rfl⟩
  by_cases h4 : op = 4
  · subst h4; go_enter Tryz.func42, Tryz.ntmps42; go_wp2; go_ret; exact ⟨rfl, rfl⟩
  by_cases h5 : op = 5
  · subst h5; go_enter Tryz.func42, Tryz.ntmps42; go_wp2; go_ret; exact ⟨rfl, rfl⟩
  by_cases h6 : op = 6
  · subst h6; go_enter Tryz.func42, Tryz.ntmps42; go_wp2; go_ret; exact ⟨rfl, rfl⟩
  rw [if_neg (by omega), if_neg (by omega)]
  go_enter Tryz.func42, Tryz.ntmps42
  go_wp2
  go_ret
  exact ⟨rfl, rfl⟩

theorem rtakes_any (op : Int) (w : World) : Calls Tryz.prog 54 #[.int .i64 op] w fun e w' => e = .returned (.int .i64 (takesZ op : Int)) ∧ w = w' := by
  unfold takesZ
  by_cases h3 : op = 3
  · subst h3; go_enter Tryz.func54, Tryz.ntmps54; go_wp2; go_ret; exact ⟨rfl, rfl⟩
  by_cases h4 : op = 4
  · subst h4; go_enter Tryz.func54, Tryz.ntmps54; go_wp2; go_ret; exact ⟨rfl, rfl⟩
  by_cases h5 : op = 5
  · subst h5; go_enter Tryz.func54, Tryz.ntmps54; go_wp2; go_ret; exact ⟨rfl, rfl⟩
  by_cases h6 : op = 6
  · subst h6; go_enter Tryz.func54, Tryz.ntmps54; go_wp2; go_ret; exact ⟨rfl, rfl⟩
  rw [if_neg (by omega), if_neg (by omega)]
  go_enter Tryz.func54, Tryz.ntmps54
  go_wp2
  go_ret
  exact ⟨rfl, rfl⟩

theorem brk_any (over op : Int) (w : World) : Calls Tryz.prog 80 #[.int .i64 over, .int .i64 op] w fun e w' => e = .returned (.bool (brkZ over op)) ∧ w = w' := by
  unfold brkZ
  by_cases h3 : op = 3
  · subst h3; go_enter Tryz.func80, Tryz.ntmps80; go_wp2; go_ret; exact ⟨by simp, rfl⟩
  by_cases h4 : op = 4
  · subst h4; go_enter Tryz.func80, Tryz.ntmps80; go_wp2; go_ret; exact ⟨by simp, rfl⟩
  by_cases h5 : op = 5
  · subst h5; go_enter Tryz.func80, Tryz.ntmps80; go_wp2; go_ret; exact ⟨by simp, rfl⟩
  have e0 : decide (op = 3 ∨ op = 4 ∨ op = 5) = false := decide_eq_false (by omega)
  rw [e0, Bool.false_or]
  by_cases h6 : op = 6
  · subst h6; go_enter Tryz.func80, Tryz.ntmps80; go_wp2; go_ret; refine ⟨?_, rfl⟩; congr 2; by_cases h : over = 6 <;> simp [h]
  by_cases h7 : op = 7
  · subst h7; go_enter Tryz.func80, Tryz.ntmps80; go_wp2; go_ret; refine ⟨?_, rfl⟩; congr 2; by_cases h : over = 6 <;> simp [h]
  have e1 : decide (op = 6 ∨ op = 7) = false := decide_eq_false (by omega)
  rw [e1, Bool.and_false]
  go_enter Tryz.func80, Tryz.ntmps80
  go_wp2
  go_ret
  exact ⟨rfl, rfl⟩

theorem fine_at (t : List UInt8) (k : Nat) (hk : k < t.length) (h : fineT (t.take k) = true) : fineT (t.take (k + 1)) = decide (32 ≤ ((t.getD k 0).toNat : Int) ∧ ((t.getD k 0).toNat : Int) ≤ 126) := by
  unfold fineT at h ⊢
  rw [getD_at t k hk, List.take_succ_eq_append_getElem hk, List.all_append, h]
  simp
theorem fine_no (t : List UInt8) (k : Nat) (hk : k < t.length) (h : ¬ (32 ≤ ((t.getD k 0).toNat : Int) ∧ ((t.getD k 0).toNat : Int) ≤ 126)) : fineT t = false := by
  unfold fineT
  rw [getD_at t k hk] at h
  cases e : t.all fun c => decide (32 ≤ (c.toNat : Int) ∧ (c.toNat : Int) ≤ 126) with
  | false => rfl
  | true =>
    have := List.all_eq_true.1 e t[k] (List.getElem_mem _)
    exact absurd (of_decide_eq_true this) h

set_option maxRecDepth 100000 in
set_option maxHeartbeats 2000000 in
theorem plain_any (t : List UInt8) (w : World) (hl : t.length ≤ 9223372036854775807) : Calls Tryz.prog 79 #[.string (bs t)] w fun e w' => e = .returned (.bool (fineT t)) ∧ w = w' := by
  have hzi : ((bs t).size : Int) = (t.length : Int) := by rw [bs_size]
  have hli : (t.length : Int) ≤ 9223372036854775807 := by omega
  go_enter Tryz.func79, Tryz.ntmps79
  go_wp2_with fail
  go_loopw [3, 6] (fun x y wr => ∃ i : Nat, y = .int .i64 (i : Int) ∧ i ≤ t.length ∧ Hid (fineT (t.take i) = true) ∧ w = wr) (fun _ y _ => (t.length - intOf y).toNat)
  case atStart => exact ⟨0, rfl, by omega, by show _ = _; simp [fineT], rfl⟩
  case round =>
    obtain ⟨i, rfl, hi, HJ, rfl⟩ := hrel
    by_cases hil : i < t.length
    · have hii : (i : Int) < t.length := by omega
      have hib : i < (bs t).size := by rw [bs_size]; exact hil
      have h1 := fine_at t i hil HJ.out
      have h2 := fine_no t i hil
      obtain ⟨c, hc⟩ : ∃ c, t.getD i 0 = c := ⟨_, rfl⟩
      have hcb : (bs t)[i] = c := (bs_at t i hib).trans hc
      rw [hc] at h1 h2
      have H1 := Lib.hid h1
      have H2 := Lib.hid h2
      clear h1 h2 hc
      by_cases a1 : (c.toNat : Int) < 32
      · have HE : Hid (fineT t = false) := H2.out (by omega)
        go_wp2
        go_ret
        exact ⟨by rw [HE.out]; rfl, rfl⟩
      by_cases a2 : 126 < (c.toNat : Int)
      · have HE : Hid (fineT t = false) := H2.out (by omega)
        go_wp2
        go_ret
        exact ⟨by rw [HE.out]; rfl, rfl⟩
      have HE : Hid (fineT (t.take (i + 1)) = true) := H1.out.trans (decide_eq_true (by omega))
      go_wp2
      exact ⟨⟨i + 1, by simp, by omega, HE, trivial⟩, by simp only [intOf]; omega⟩
    · have hii : ¬ (i : Int) < t.length := by omega
      have HE : Hid (fineT t = true) := by
        have := HJ.out
        rw [List.take_of_length_le (by omega)] at this
        exact this
      go_wp2
      go_ret
      exact ⟨by rw [HE.out]; rfl, rfl⟩

end Go.Proofs.YthofogokpolhdaaGreatDoor.Trees

namespace Go.Proofs.YthofogokpolhdaaGreatDoor.Trees
open Go.RowKit Go.Shelf
open Go.Proofs.YthofogokpolhdaaGreatDoor.Style (bs bs_size bs_at getD_at bs_of)
open Go.Proofs.YthofogokpolhdaaGreatDoor.Toks (cell_lt cell_same)
open Go.Proofs.YthofogokpolhdaaGreatDoor.Atoms (TableAt Row Pre tableRs tablePs row_cells)
set_option linter.unusedVariables false
set_option linter.unusedSimpArgs false

theorem draws_n (w : World) (m : Nat) : Below w.heap.size w (w.drewN m) := ⟨rfl, rfl, rfl, Nat.le_refl _, fun _ _ => rfl⟩
/-- Which prefix and atom may stand together. -/
def symZ (rows : List Row) (np : Nat) (pf atom : Int) : Bool :=
  decide (0 ≤ atom ∧ atom < rows.length) && (decide (pf = -1) || (decide (0 ≤ pf ∧ pf < np) && (rows.getD atom.toNat default).m))

/-- What of a table is looked at: how many atoms and prefixes there are, and which atoms are metric. -/
def TabAt (w : World) (oa : Option Addr) (ca : Nat) (rows : List Row) : Prop :=
  ∀ i, i < rows.length → ∃ b, oa = some ⟨b, 0, none⟩ ∧ w.cell? ⟨b, i * 12 + 5, none⟩ = some (.bool (rows.getD i default).m)

set_option maxRecDepth 100000 in
set_option maxHeartbeats 2000000 in
theorem sym_any (oa op : Option Addr) (ca cp : Nat) (rows : List Row) (np : Nat) (pf atom : Int) (w : World) (hl : rows.length ≤ 1000) (hc : rows.length ≤ ca) (hnp : np ≤ 1000) (hT : TabAt w oa ca rows) :
    Calls Tryz.prog 78 #[.agg #[.slice oa rows.length ca, .slice op np cp], .int .i64 pf, .int .i64 atom] w fun e w' => e = .returned (.bool (symZ rows np pf atom)) ∧ Below w.heap.size w w' := by
  unfold symZ
  have hli : (rows.length : Int) ≤ 1000 := by omega
  have hnpi : (np : Int) ≤ 1000 := by omega
  have hu : Below w.heap.size w (w.alloc (.cells #[.slice oa rows.length ca, .slice op np cp] 89)) := by go_grown
  have t0 : (w.alloc (.cells #[.slice oa rows.length ca, .slice op np cp] 89)).cell? ⟨w.heap.size, 0, none⟩ = some (.slice oa rows.length ca) := by simp [go_sem]
  have t1 : (w.alloc (.cells #[.slice oa rows.length ca, .slice op np cp] 89)).cell? ⟨w.heap.size, 1, none⟩ = some (.slice op np cp) := by simp [go_sem]
  by_cases h0 : atom < 0
  · have e1 : decide (0 ≤ atom ∧ atom < rows.length) = false := decide_eq_false (by omega)
    have d0 : decide (atom < 0) = true := decide_eq_true h0
    rw [e1]
    go_enter Tryz.func78, Tryz.ntmps78
    go_wp2
    go_ret
    exact ⟨by first | rfl | simp, hu⟩
  have d0 : decide (atom < 0) = false := decide_eq_false h0
  by_cases h1 : atom < rows.length
  · have e1 : decide (0 ≤ atom ∧ atom < rows.length) = true := decide_eq_true (by omega)
    rw [e1, Bool.true_and]
    have h1' : ¬ (rows.length : Int) ≤ atom := by omega
    by_cases h2 : pf = -1
    · subst h2
      clear e1
      go_enter Tryz.func78, Tryz.ntmps78
      go_wp2
      go_ret
      exact ⟨by simp, hu⟩
    rw [decide_eq_false h2, Bool.false_or]
    have h2' : (pf == -1) = false := by simpa using h2
    clear e1
    by_cases h3 : pf < 0
    · rw [decide_eq_false (by omega), Bool.false_and]
      have d3 : decide (0 ≤ pf) = false := decide_eq_false (by omega)
      go_enter Tryz.func78, Tryz.ntmps78
      go_wp2
      go_ret
      exact ⟨rfl, hu⟩
    by_cases h4 : pf < np
    · rw [decide_eq_true (by omega : 0 ≤ pf ∧ pf < np), Bool.true_and]
      have d3 : decide (0 ≤ pf) = true := decide_eq_true (by omega)
      have d4 : decide (pf < (np : Int)) = true := decide_eq_true h4
      obtain ⟨a, rfl⟩ : ∃ a : Nat, atom = (a : Int) := ⟨atom.toNat, by omega⟩
      obtain ⟨b, rfl, hm⟩ := hT a (by omega)
      rw [Int.toNat_natCast]
      have hm2 := (hu.cell (p := ⟨b, a * 12 + 5, none⟩) (cell_lt hm)).trans hm
      generalize (rows.getD a default).m = mt at *
      go_enter Tryz.func78, Tryz.ntmps78
      go_wp2
      go_ret
      exact ⟨rfl, hu⟩
    · rw [decide_eq_false (by omega : ¬ (0 ≤ pf ∧ pf < np)), Bool.false_and]
      have d3 : decide (0 ≤ pf) = true := decide_eq_true (by omega)
      have d4 : decide (pf < (np : Int)) = false := decide_eq_false h4
      go_enter Tryz.func78, Tryz.ntmps78
      go_wp2
      go_ret
      exact ⟨rfl, hu⟩
  · have e1 : decide (0 ≤ atom ∧ atom < rows.length) = false := decide_eq_false (by omega)
    have h1' : (rows.length : Int) ≤ atom := by omega
    rw [e1]
    go_enter Tryz.func78, Tryz.ntmps78
    go_wp2
    go_ret
    exact ⟨by first | rfl | simp, hu⟩

end Go.Proofs.YthofogokpolhdaaGreatDoor.Trees

namespace Go.Proofs.YthofogokpolhdaaGreatDoor.Trees
open Go.RowKit Go.Shelf
open Go.Proofs.YthofogokpolhdaaGreatDoor.Style (bs bs_size bs_at getD_at bs_of)
open Go.Proofs.YthofogokpolhdaaGreatDoor.Toks (cell_lt cell_same)
open Go.Proofs.YthofogokpolhdaaGreatDoor.Atoms (Row Pre)
set_option linter.unusedVariables false
set_option linter.unusedSimpArgs false

def Stp.cs (x : Stp) : Array Value := #[.int .i64 x.op, .int .i64 x.pf, .int .i64 x.atom, .int .i64 x.n, .int .i64 x.num, .string (bs x.text)]
def Stp.v (x : Stp) : Value := .agg #[.int .i64 x.op, .int .i64 x.pf, .int .i64 x.atom, .int .i64 x.n, .int .i64 x.num, .string (bs x.text)]
def eqS (x y : Stp) : Bool := x.op == y.op && (x.pf == y.pf && (x.atom == y.atom && (x.n == y.n && (x.num == y.num && (bs x.text).toList == (bs y.text).toList))))
theorem bs_list (l : List UInt8) : (bs l).toList = l := by
  rw [ByteArray.toList_eq]; rfl
theorem eqS_iff (x y : Stp) : eqS x y = decide (x = y) := by
  obtain ⟨a, b, c, d, e, f⟩ := x
  obtain ⟨a', b', c', d', e', f'⟩ := y
  unfold eqS
  rw [bs_list, bs_list, Bool.eq_iff_iff]
  simp

theorem six {α β : Type} {f : α → β} {l : List α} {x y z u v w : β} (h : l.map f = [x, y, z, u, v, w]) : ∃ a b c d e g, l = [a, b, c, d, e, g] ∧ f a = x ∧ f b = y ∧ f c = z ∧ f d = u ∧ f e = v ∧ f g = w := by
  obtain ⟨a, l1, rfl, ha, h1⟩ := List.map_eq_cons_iff.1 h
  obtain ⟨b, l2, rfl, hb, h2⟩ := List.map_eq_cons_iff.1 h1
  obtain ⟨c, l3, rfl, hc, h3⟩ := List.map_eq_cons_iff.1 h2
  obtain ⟨d, l4, rfl, hd, h4⟩ := List.map_eq_cons_iff.1 h3
  obtain ⟨e, l5, rfl, he, h5⟩ := List.map_eq_cons_iff.1 h4
  obtain ⟨g, l6, rfl, hg, h6⟩ := List.map_eq_cons_iff.1 h5
  rw [List.map_eq_nil_iff] at h6
  subst h6
  exact ⟨a, b, c, d, e, g, rfl, ha, hb, hc, hd, he, hg⟩
theorem pE0 (a b c d e f : Value) (w : World) : (Go.part 3 #[a, b, c, d, e, f] 0).run Tryz.prog w = .ok a w := by kernel_rfl
theorem pE1 (a b c d e f : Value) (w : World) : (Go.part 3 #[a, b, c, d, e, f] 1).run Tryz.prog w = .ok b w := by kernel_rfl
theorem pE2 (a b c d e f : Value) (w : World) : (Go.part 3 #[a, b, c, d, e, f] 2).run Tryz.prog w = .ok c w := by kernel_rfl
theorem pE3 (a b c d e f : Value) (w : World) : (Go.part 3 #[a, b, c, d, e, f] 3).run Tryz.prog w = .ok d w := by kernel_rfl
theorem pE4 (a b c d e f : Value) (w : World) : (Go.part 2 #[a, b, c, d, e, f] 4).run Tryz.prog w = .ok e w := by kernel_rfl
theorem pE5 (a b c d e f : Value) (w : World) : (Go.part 9 #[a, b, c, d, e, f] 5).run Tryz.prog w = .ok f w := by kernel_rfl

theorem eq_step (a b c d e : Int) (t : ByteArray) (a' b' c' d' e' : Int) (t' : ByteArray) (k : Nat) (w : World) : (Op.equalIn (k + 2) 47 (.agg #[.int .i64 a, .int .i64 b, .int .i64 c, .int .i64 d, .int .i64 e, .string t]) (.agg #[.int .i64 a', .int .i64 b', .int .i64 c', .int .i64 d', .int .i64 e', .string t'])).run Tryz.prog w = .ok (a == a' && (b == b' && (c == c' && (d == d' && (e == e' && t.toList == t'.toList))))) w := by
  have hu : Tryz.prog.underlying 47 = some (.struct (Tryz.prog.fieldsOf 47)) := by kernel_rfl
  have hp : Tryz.prog.stoodInHeld 47 = false := by kernel_rfl
  have hF : (Tryz.prog.fieldsOf 47).toList.map (fun f => (f.name, f.type, f.offset)) = [("Op", 3, 0), ("Prefix", 3, 1), ("Atom", 3, 2), ("N", 3, 3), ("Num", 2, 4), ("Text", 9, 5)] := by kernel_rfl
  have e1 : ∀ x y : Int, (Op.equalIn (k + 1) 2 (.int .i64 x) (.int .i64 y)).run Tryz.prog w = .ok (x == y) w := fun x y => run_equalIn_int w k 2 .i64 .i64 x y Tryz.underlying2
  have e2 : ∀ x y : Int, (Op.equalIn (k + 1) 3 (.int .i64 x) (.int .i64 y)).run Tryz.prog w = .ok (x == y) w := fun x y => run_equalIn_int w k 3 .i64 .i64 x y Tryz.underlying3
  have e0 : (Op.equalIn (k + 1) 9 (.string t) (.string t')).run Tryz.prog w = .ok (t.toList == t'.toList) w := run_equalIn_string w k 9 t t' Tryz.underlying9
  rw [show k + 2 = (k + 1) + 1 from rfl, run_equalIn_struct w (k + 1) _ _ _ hu hp]
  obtain ⟨f0, f1, f2, f3, f4, f5, hl, q0, q1, q2, q3, q4, q5⟩ := six hF
  simp only [Prod.mk.injEq] at q0 q1 q2 q3 q4 q5
  obtain ⟨q00, q01, q02⟩ := q0
  obtain ⟨q10, q11, q12⟩ := q1
  obtain ⟨q20, q21, q22⟩ := q2
  obtain ⟨q30, q31, q32⟩ := q3
  obtain ⟨q40, q41, q42⟩ := q4
  obtain ⟨q50, q51, q52⟩ := q5
  rw [hl, Op.eqFields.eq_2, Op.eqFields.eq_2, Op.eqFields.eq_2, Op.eqFields.eq_2, Op.eqFields.eq_2, Op.eqFields.eq_2, Op.eqFields.eq_1, q00, q01, q02, q10, q11, q12, q20, q21, q22, q30, q31, q32, q40, q41, q42, q50, q51, q52]
  generalize (t.toList == t'.toList) = bt at *
  simp only [ne_eq, String.reduceEq, not_false_eq_true, if_true, Sem.run_bind, pE0, pE1, pE2, pE3, pE4, pE5, e0, e1, e2, Result.andThen_ok]
  cases a == a' <;> simp only [Bool.not_true, Bool.not_false, Bool.false_eq_true, if_true, if_false, Bool.true_and, Bool.false_and, Sem.run_pure, Sem.run_bind, pE0, pE1, pE2, pE3, pE4, pE5, e0, e1, e2, Result.andThen_ok]
  cases b == b' <;> simp only [Bool.not_true, Bool.not_false, Bool.false_eq_true, if_true, if_false, Bool.true_and, Bool.false_and, Sem.run_pure, Sem.run_bind, pE0, pE1, pE2, pE3, pE4, pE5, e0, e1, e2, Result.andThen_ok]
  cases c == c' <;> simp only [Bool.not_true, Bool.not_false, Bool.false_eq_true, if_true, if_false, Bool.true_and, Bool.false_and, Sem.run_pure, Sem.run_bind, pE0, pE1, pE2, pE3, pE4, pE5, e0, e1, e2, Result.andThen_ok]
  cases d == d' <;> simp only [Bool.not_true, Bool.not_false, Bool.false_eq_true, if_true, if_false, Bool.true_and, Bool.false_and, Sem.run_pure, Sem.run_bind, pE0, pE1, pE2, pE3, pE4, pE5, e0, e1, e2, Result.andThen_ok]
  cases e == e' <;> simp only [Bool.not_true, Bool.not_false, Bool.false_eq_true, if_true, if_false, Bool.true_and, Bool.false_and, Sem.run_pure, Sem.run_bind, pE0, pE1, pE2, pE3, pE4, pE5, e0, e1, e2, Result.andThen_ok]
  cases bt <;> rfl
theorem eqv_step (a b c d e : Int) (t : ByteArray) (a' b' c' d' e' : Int) (t' : ByteArray) (w : World) : (binOp BinOp.eql 47 (.agg #[.int .i64 a, .int .i64 b, .int .i64 c, .int .i64 d, .int .i64 e, .string t]) (.agg #[.int .i64 a', .int .i64 b', .int .i64 c', .int .i64 d', .int .i64 e', .string t'])).run Tryz.prog w = .ok (.bool (a == a' && (b == b' && (c == c' && (d == d' && (e == e' && t.toList == t'.toList)))))) w := by
  have h := fun k => eq_step a b c d e t a' b' c' d' e' t' k w
  simp [go_sem, h]
theorem nev_step (a b c d e : Int) (t : ByteArray) (a' b' c' d' e' : Int) (t' : ByteArray) (w : World) : (binOp BinOp.neq 47 (.agg #[.int .i64 a, .int .i64 b, .int .i64 c, .int .i64 d, .int .i64 e, .string t]) (.agg #[.int .i64 a', .int .i64 b', .int .i64 c', .int .i64 d', .int .i64 e', .string t'])).run Tryz.prog w = .ok (.bool (!(a == a' && (b == b' && (c == c' && (d == d' && (e == e' && t.toList == t'.toList))))))) w := by
  have h := fun k => eq_step a b c d e t a' b' c' d' e' t' k w
  simp [go_sem, h]

end Go.Proofs.YthofogokpolhdaaGreatDoor.Trees


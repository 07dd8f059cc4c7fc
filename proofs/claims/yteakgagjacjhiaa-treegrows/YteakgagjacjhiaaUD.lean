/-
  Equality of steps; contract of tree.mayBe.
-/
import Derived.Test.YteakgagjacjhiaaUC
namespace Go.Proofs.Yteakgagjacjhiaa.Trees
open Go.RowKit Go.Shelf
open Go.Proofs.Yteakgagjacjhiaa.Style (bs bs_size bs_at getD_at bs_of)
open Go.Proofs.Yteakgagjacjhiaa.Toks (cell_lt cell_same)
open Go.Proofs.Yteakgagjacjhiaa.Atoms (Row Pre)
set_option linter.unusedVariables false
set_option linter.unusedSimpArgs false

def Stp.cs (x : Stp) : Array Value := #[.int .i64 x.op, .int .i64 x.pf, .int .i64 x.atom, .int .i64 x.n, .int .i64 x.num, .string (bs x.text)]
def Stp.v (x : Stp) : Value := .agg #[.int .i64 x.op, .int .i64 x.pf, .int .i64 x.atom, .int .i64 x.n, .int .i64 x.num, .string (bs x.text)]
def eqS (x y : Stp) : Bool := x.op == y.op && (x.pf == y.pf && (x.atom == y.atom && (x.n == y.n && (x.num == y.num && (bs x.text).toList == (bs y.text).toList))))
theorem bs_list (l : List UInt8) : (bs l).toList = l := by
  rw [ByteArray.toList_eq]; rfl
theorem eqS_iff (x y : Stp) : eqS x y = decide (x = y) := by
  obtain ⟨a, b, c, d, e, f⟩ := x
  obtain ⟨a', b', c', d', e', f'⟩ := y
  unfold eqS
  rw [bs_list, bs_list, Bool.eq_iff_iff]
  simp

theorem six {α β : Type} {f : α → β} {l : List α} {x y z u v w : β} (h : l.map f = [x, y, z, u, v, w]) : ∃ a b c d e g, l = [a, b, c, d, e, g] ∧ f a = x ∧ f b = y ∧ f c = z ∧ f d = u ∧ f e = v ∧ f g = w := by
  obtain ⟨a, l1, rfl, ha, h1⟩ := List.map_eq_cons_iff.1 h
  obtain ⟨b, l2, rfl, hb, h2⟩ := List.map_eq_cons_iff.1 h1
  obtain ⟨c, l3, rfl, hc, h3⟩ := List.map_eq_cons_iff.1 h2
  obtain ⟨d, l4, rfl, hd, h4⟩ := List.map_eq_cons_iff.1 h3
  obtain ⟨e, l5, rfl, he, h5⟩ := List.map_eq_cons_iff.1 h4
  obtain ⟨g, l6, rfl, hg, h6⟩ := List.map_eq_cons_iff.1 h5
  rw [List.map_eq_nil_iff] at h6
  subst h6
  exact ⟨a, b, c, d, e, g, rfl, ha, hb, hc, hd, he, hg⟩
theorem pE0 (a b c d e f : Value) (w : World) : (Go.part 3 #[a, b, c, d, e, f] 0).run Try.prog w = .ok a w := by kernel_rfl
theorem pE1 (a b c d e f : Value) (w : World) : (Go.part 3 #[a, b, c, d, e, f] 1).run Try.prog w = .ok b w := by kernel_rfl
theorem pE2 (a b c d e f : Value) (w : World) : (Go.part 3 #[a, b, c, d, e, f] 2).run Try.prog w = .ok c w := by kernel_rfl
theorem pE3 (a b c d e f : Value) (w : World) : (Go.part 3 #[a, b, c, d, e, f] 3).run Try.prog w = .ok d w := by kernel_rfl
theorem pE4 (a b c d e f : Value) (w : World) : (Go.part 2 #[a, b, c, d, e, f] 4).run Try.prog w = .ok e w := by kernel_rfl
theorem pE5 (a b c d e f : Value) (w : World) : (Go.part 9 #[a, b, c, d, e, f] 5).run Try.prog w = .ok f w := by kernel_rfl

theorem eq_step (a b c d e : Int) (t : ByteArray) (a' b' c' d' e' : Int) (t' : ByteArray) (k : Nat) (w : World) : (Op.equalIn (k + 2) 35 (.agg #[.int .i64 a, .int .i64 b, .int .i64 c, .int .i64 d, .int .i64 e, .string t]) (.agg #[.int .i64 a', .int .i64 b', .int .i64 c', .int .i64 d', .int .i64 e', .string t'])).run Try.prog w = .ok (a == a' && (b == b' && (c == c' && (d == d' && (e == e' && t.toList == t'.toList))))) w := by
  have hu : Try.prog.underlying 35 = some (.struct (Try.prog.fieldsOf 35)) := by kernel_rfl
  have hp : Try.prog.stoodInHeld 35 = false := by kernel_rfl
  have hF : (Try.prog.fieldsOf 35).toList.map (fun f => (f.name, f.type, f.offset)) = [("Op", 3, 0), ("Prefix", 3, 1), ("Atom", 3, 2), ("N", 3, 3), ("Num", 2, 4), ("Text", 9, 5)] := by kernel_rfl
  have e1 : ∀ x y : Int, (Op.equalIn (k + 1) 2 (.int .i64 x) (.int .i64 y)).run Try.prog w = .ok (x == y) w := fun x y => run_equalIn_int w k 2 .i64 .i64 x y Try.underlying2
  have e2 : ∀ x y : Int, (Op.equalIn (k + 1) 3 (.int .i64 x) (.int .i64 y)).run Try.prog w = .ok (x == y) w := fun x y => run_equalIn_int w k 3 .i64 .i64 x y Try.underlying3
  have e0 : (Op.equalIn (k + 1) 9 (.string t) (.string t')).run Try.prog w = .ok (t.toList == t'.toList) w := run_equalIn_string w k 9 t t' Try.underlying9
  rw [show k + 2 = (k + 1) + 1 from rfl, run_equalIn_struct w (k + 1) _ _ _ hu hp]
  obtain ⟨f0, f1, f2, f3, f4, f5, hl, q0, q1, q2, q3, q4, q5⟩ := six hF
  simp only [Prod.mk.injEq] at q0 q1 q2 q3 q4 q5
  obtain ⟨q00, q01, q02⟩ := q0
  obtain ⟨q10, q11, q12⟩ := q1
  obtain ⟨q20, q21, q22⟩ := q2
  obtain ⟨q30, q31, q32⟩ := q3
  obtain ⟨q40, q41, q42⟩ := q4
  obtain ⟨q50, q51, q52⟩ := q5
  rw [hl, Op.eqFields.eq_2, Op.eqFields.eq_2, Op.eqFields.eq_2, Op.eqFields.eq_2, Op.eqFields.eq_2, Op.eqFields.eq_2, Op.eqFields.eq_1, q00, q01, q02, q10, q11, q12, q20, q21, q22, q30, q31, q32, q40, q41, q42, q50, q51, q52]
  generalize (t.toList == t'.toList) = bt at *
  simp only [ne_eq, String.reduceEq, not_false_eq_true, if_true, Sem.run_bind, pE0, pE1, pE2, pE3, pE4, pE5, e0, e1, e2, Result.andThen_ok]
  cases a == a' <;> simp only [Bool.not_true, Bool.not_false, Bool.false_eq_true, if_true, if_false, Bool.true_and, Bool.false_and, Sem.run_pure, Sem.run_bind, pE0, pE1, pE2, pE3, pE4, pE5, e0, e1, e2, Result.andThen_ok]
  cases b == b' <;> simp only [Bool.not_true, Bool.not_false, Bool.false_eq_true, if_true, if_false, Bool.true_and, Bool.false_and, Sem.run_pure, Sem.run_bind, pE0, pE1, pE2, pE3, pE4, pE5, e0, e1, e2, Result.andThen_ok]
  cases c == c' <;> simp only [Bool.not_true, Bool.not_false, Bool.false_eq_true, if_true, if_false, Bool.true_and, Bool.false_and, Sem.run_pure, Sem.run_bind, pE0, pE1, pE2, pE3, pE4, pE5, e0, e1, e2, Result.andThen_ok]
  cases d == d' <;> simp only [Bool.not_true, Bool.not_false, Bool.false_eq_true, if_true, if_false, Bool.true_and, Bool.false_and, Sem.run_pure, Sem.run_bind, pE0, pE1, pE2, pE3, pE4, pE5, e0, e1, e2, Result.andThen_ok]
  cases e == e' <;> simp only [Bool.not_true, Bool.not_false, Bool.false_eq_true, if_true, if_false, Bool.true_and, Bool.false_and, Sem.run_pure, Sem.run_bind, pE0, pE1, pE2, pE3, pE4, pE5, e0, e1, e2, Result.andThen_ok]
  cases bt <;> rfl
theorem eqv_step (a b c d e : Int) (t : ByteArray) (a' b' c' d' e' : Int) (t' : ByteArray) (w : World) : (binOp BinOp.eql 35 (.agg #[.int .i64 a, .int .i64 b, .int .i64 c, .int .i64 d, .int .i64 e, .string t]) (.agg #[.int .i64 a', .int .i64 b', .int .i64 c', .int .i64 d', .int .i64 e', .string t'])).run Try.prog w = .ok (.bool (a == a' && (b == b' && (c == c' && (d == d' && (e == e' && t.toList == t'.toList)))))) w := by
  have h := fun k => eq_step a b c d e t a' b' c' d' e' t' k w
  simp [go_sem, h]
theorem nev_step (a b c d e : Int) (t : ByteArray) (a' b' c' d' e' : Int) (t' : ByteArray) (w : World) : (binOp BinOp.neq 35 (.agg #[.int .i64 a, .int .i64 b, .int .i64 c, .int .i64 d, .int .i64 e, .string t]) (.agg #[.int .i64 a', .int .i64 b', .int .i64 c', .int .i64 d', .int .i64 e', .string t'])).run Try.prog w = .ok (.bool (!(a == a' && (b == b' && (c == c' && (d == d' && (e == e' && t.toList == t'.toList))))))) w := by
  have h := fun k => eq_step a b c d e t a' b' c' d' e' t' k w
  simp [go_sem, h]

end Go.Proofs.Yteakgagjacjhiaa.Trees

/-
  Contract of drachmref08.Same, at rows of the same tokens.
-/
import Derived.Test.YthofogokpolhdaaGreatDoorX3Z
import Derived.Deep.RegionHeld3
namespace Go.Proofs.YthofogokpolhdaaGreatDoor.Toks
open Go.RowKit
open Go.Proofs.YthofogokpolhdaaGreatDoor.Style
set_option linter.unusedVariables false
set_option linter.unusedSimpArgs false

theorem four {α β : Type} {f : α → β} {l : List α} {x y z u : β} (h : l.map f = [x, y, z, u]) : ∃ a b c d, l = [a, b, c, d] ∧ f a = x ∧ f b = y ∧ f c = z ∧ f d = u := by
  obtain ⟨a, l1, rfl, ha, h1⟩ := List.map_eq_cons_iff.1 h
  obtain ⟨b, l2, rfl, hb, h2⟩ := List.map_eq_cons_iff.1 h1
  obtain ⟨c, l3, rfl, hc, h3⟩ := List.map_eq_cons_iff.1 h2
  obtain ⟨d, l4, rfl, hd, h4⟩ := List.map_eq_cons_iff.1 h3
  rw [List.map_eq_nil_iff] at h4
  subst h4
  exact ⟨a, b, c, d, rfl, ha, hb, hc, hd⟩
theorem pT0 (a b c d : Value) (w : World) : (Go.part 3 #[a, b, c, d] 0).run Tryz.prog w = .ok a w := by kernel_rfl
theorem pT1 (a b c d : Value) (w : World) : (Go.part 3 #[a, b, c, d] 1).run Tryz.prog w = .ok b w := by kernel_rfl
theorem pT2 (a b c d : Value) (w : World) : (Go.part 9 #[a, b, c, d] 2).run Tryz.prog w = .ok c w := by kernel_rfl
theorem pT3 (a b c d : Value) (w : World) : (Go.part 2 #[a, b, c, d] 3).run Tryz.prog w = .ok d w := by kernel_rfl

/-- A token is the same as itself. -/
theorem eq_tok (k p v : Int) (t : ByteArray) (j : Nat) (w : World) : (Op.equalIn (j + 2) 71 (.agg #[.int .i64 k, .int .i64 p, .string t, .int .i64 v]) (.agg #[.int .i64 k, .int .i64 p, .string t, .int .i64 v])).run Tryz.prog w = .ok true w := by
  have hu : Tryz.prog.underlying 71 = some (.struct (Tryz.prog.fieldsOf 71)) := by kernel_rfl
  have hp : Tryz.prog.stoodInHeld 71 = false := by kernel_rfl
  have hF : (Tryz.prog.fieldsOf 71).toList.map (fun f => (f.name, f.type, f.offset)) = [("Kind", 3, 0), ("At", 3, 1), ("Text", 9, 2), ("N", 2, 3)] := by kernel_rfl
  have e1 : ∀ x : Int, (Op.equalIn (j + 1) 3 (.int .i64 x) (.int .i64 x)).run Tryz.prog w = .ok true w := fun x => by
    rw [run_equalIn_int w j 3 .i64 .i64 x x Tryz.underlying3]; simp
  have e2 : ∀ x : Int, (Op.equalIn (j + 1) 2 (.int .i64 x) (.int .i64 x)).run Tryz.prog w = .ok true w := fun x => by
    rw [run_equalIn_int w j 2 .i64 .i64 x x Tryz.underlying2]; simp
  have e0 : (Op.equalIn (j + 1) 9 (.string t) (.string t)).run Tryz.prog w = .ok true w := by
    rw [run_equalIn_string w j 9 t t Tryz.underlying9]; simp
  rw [show j + 2 = (j + 1) + 1 from rfl, run_equalIn_struct w (j + 1) _ _ _ hu hp]
  obtain ⟨f0, f1, f2, f3, hl, q0, q1, q2, q3⟩ := four hF
  simp only [Prod.mk.injEq] at q0 q1 q2 q3
  obtain ⟨q00, q01, q02⟩ := q0
  obtain ⟨q10, q11, q12⟩ := q1
  obtain ⟨q20, q21, q22⟩ := q2
  obtain ⟨q30, q31, q32⟩ := q3
  rw [hl, Op.eqFields.eq_2, Op.eqFields.eq_2, Op.eqFields.eq_2, Op.eqFields.eq_2, Op.eqFields.eq_1, q00, q01, q02, q10, q11, q12, q20, q21, q22, q30, q31, q32]
  simp only [ne_eq, String.reduceEq, not_false_eq_true, if_true, Sem.run_bind, pT0, pT1, pT2, pT3, e0, e1, e2, Result.andThen_ok, Bool.not_true, Bool.false_eq_true, if_false, Sem.run_pure]
theorem net (k p v : Int) (t : ByteArray) (w : World) : (binOp BinOp.neq 71 (.agg #[.int .i64 k, .int .i64 p, .string t, .int .i64 v]) (.agg #[.int .i64 k, .int .i64 p, .string t, .int .i64 v])).run Tryz.prog w = .ok (.bool false) w := by
  have h := fun j => eq_tok k p v t j w
  simp [go_sem, h]

theorem drawsN {B : Nat} {w X : World} (h : Below B w X) (m : Nat) : Below B w (X.drewN m) := ⟨h.os, h.tape, h.output, h.size, h.block⟩
theorem grid_at {W : World} {o : Option Addr} {m c : Nat} {L : List Tok} (h : ToksAt W (.slice o m c) L) (hl : 0 < L.length) : ∃ b, o = some ⟨b, 0, none⟩ ∧ Grid W b 4 L.length (cellK L) := by
  rcases h with ⟨h0, _⟩ | ⟨b, c', hs, _, _, hg⟩
  · omega
  · injection hs with e1 e2 e3
    exact ⟨b, e1, hg⟩

end Go.Proofs.YthofogokpolhdaaGreatDoor.Toks

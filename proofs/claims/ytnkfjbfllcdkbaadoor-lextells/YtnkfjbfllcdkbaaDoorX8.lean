/-
  Contract of drachmref08.Same, at rows of the same tokens.
-/
import Derived.Test.YtnkfjbfllcdkbaaDoorX7
import Derived.Deep.RegionHeld3
namespace Go.Proofs.YtnkfjbfllcdkbaaDoor.Toks
open Go.RowKit
open Go.Proofs.YtnkfjbfllcdkbaaDoor.Style
set_option linter.unusedVariables false
set_option linter.unusedSimpArgs false

theorem four {α β : Type} {f : α → β} {l : List α} {x y z u : β} (h : l.map f = [x, y, z, u]) : ∃ a b c d, l = [a, b, c, d] ∧ f a = x ∧ f b = y ∧ f c = z ∧ f d = u := by
  obtain ⟨a, l1, rfl, ha, h1⟩ := List.map_eq_cons_iff.1 h
  obtain ⟨b, l2, rfl, hb, h2⟩ := List.map_eq_cons_iff.1 h1
  obtain ⟨c, l3, rfl, hc, h3⟩ := List.map_eq_cons_iff.1 h2
  obtain ⟨d, l4, rfl, hd, h4⟩ := List.map_eq_cons_iff.1 h3
  rw [List.map_eq_nil_iff] at h4
  subst h4
  exact ⟨a, b, c, d, rfl, ha, hb, hc, hd⟩
theorem pT0 (a b c d : Value) (w : World) : (Go.part 3 #[a, b, c, d] 0).run Tryd.prog w = .ok a w := by kernel_rfl
theorem pT1 (a b c d : Value) (w : World) : (Go.part 3 #[a, b, c, d] 1).run Tryd.prog w = .ok b w := by kernel_rfl
theorem pT2 (a b c d : Value) (w : World) : (Go.part 9 #[a, b, c, d] 2).run Tryd.prog w = .ok c w := by kernel_rfl
theorem pT3 (a b c d : Value) (w : World) : (Go.part 2 #[a, b, c, d] 3).run Tryd.prog w = .ok d w := by kernel_rfl

/-- A token is the same as itself. -/
theorem eq_tok (k p v : Int) (t : ByteArray) (j : Nat) (w : World) : (Op.equalIn (j + 2) 33 (.agg #[.int .i64 k, .int .i64 p, .string t, .int .i64 v]) (.agg #[.int .i64 k, .int .i64 p, .string t, .int .i64 v])).run Tryd.prog w = .ok true w := by
  have hu : Tryd.prog.underlying 33 = some (.struct (Tryd.prog.fieldsOf 33)) := by kernel_rfl
  have hp : Tryd.prog.stoodInHeld 33 = false := by kernel_rfl
  have hF : (Tryd.prog.fieldsOf 33).toList.map (fun f => (f.name, f.type, f.offset)) = [("Kind", 3, 0), ("At", 3, 1), ("Text", 9, 2), ("N", 2, 3)] := by kernel_rfl
  have e1 : ∀ x : Int, (Op.equalIn (j + 1) 3 (.int .i64 x) (.int .i64 x)).run Tryd.prog w = .ok true w := fun x => by
    rw [run_equalIn_int w j 3 .i64 .i64 x x Tryd.underlying3]; simp
  have e2 : ∀ x : Int, (Op.equalIn (j + 1) 2 (.int .i64 x) (.int .i64 x)).run Tryd.prog w = .ok true w := fun x => by
    rw [run_equalIn_int w j 2 .i64 .i64 x x Tryd.underlying2]; simp
  have e0 : (Op.equalIn (j + 1) 9 (.string t) (.string t)).run Tryd.prog w = .ok true w := by
    rw [run_equalIn_string w j 9 t t Tryd.underlying9]; simp
  rw [show j + 2 = (j + 1) + 1 from rfl, run_equalIn_struct w (j + 1) _ _ _ hu hp]
  obtain ⟨f0, f1, f2, f3, hl, q0, q1, q2, q3⟩ := four hF
  simp only [Prod.mk.injEq] at q0 q1 q2 q3
  obtain ⟨q00, q01, q02⟩ := q0
  obtain ⟨q10, q11, q12⟩ := q1
  obtain ⟨q20, q21, q22⟩ := q2
  obtain ⟨q30, q31, q32⟩ := q3
  rw [hl, Op.eqFields.eq_2, Op.eqFields.eq_2, Op.eqFields.eq_2, Op.eqFields.eq_2, Op.eqFields.eq_1, q00, q01, q02, q10, q11, q12, q20, q21, q22, q30, q31, q32]
  simp only [ne_eq, String.reduceEq, not_false_eq_true, if_true, Sem.run_bind, pT0, pT1, pT2, pT3, e0, e1, e2, Result.andThen_ok, Bool.not_true, Bool.false_eq_true, if_false, Sem.run_pure]
theorem net (k p v : Int) (t : ByteArray) (w : World) : (binOp BinOp.neq 33 (.agg #[.int .i64 k, .int .i64 p, .string t, .int .i64 v]) (.agg #[.int .i64 k, .int .i64 p, .string t, .int .i64 v])).run Tryd.prog w = .ok (.bool false) w := by
  have h := fun j => eq_tok k p v t j w
  simp [go_sem, h]

theorem drawsN {B : Nat} {w X : World} (h : Below B w X) (m : Nat) : Below B w (X.drewN m) := ⟨h.os, h.tape, h.output, h.size, h.block⟩
theorem grid_at {W : World} {o : Option Addr} {m c : Nat} {L : List Tok} (h : ToksAt W (.slice o m c) L) (hl : 0 < L.length) : ∃ b, o = some ⟨b, 0, none⟩ ∧ Grid W b 4 L.length (cellK L) := by
  rcases h with ⟨h0, _⟩ | ⟨b, c', hs, _, _, hg⟩
  · omega
  · injection hs with e1 e2 e3
    exact ⟨b, e1, hg⟩

set_option maxRecDepth 100000 in
set_option maxHeartbeats 2000000 in
theorem same_yes (L : List Tok) (o1 o2 : Option Addr) (c1 c2 : Nat) (w : World) (h1 : ToksAt w (.slice o1 L.length c1) L) (h2 : ToksAt w (.slice o2 L.length c2) L) (hl : L.length ≤ 1000) :
    Calls Tryd.prog 10 #[.slice o1 L.length c1, .slice o2 L.length c2] w fun e w' => e = .returned (.bool true) ∧ Below w.heap.size w w' := by
  have hli : (L.length : Int) ≤ 1000 := by omega
  have hne := net
  go_enter Tryd.func10, Tryd.ntmps10
  go_wp2
  go_loopw [5] (fun x wr => ∃ i : Nat, x = .int .i64 i ∧ i ≤ L.length ∧ ToksAt wr (.slice o1 L.length c1) L ∧ ToksAt wr (.slice o2 L.length c2) L ∧ Below w.heap.size w wr) (fun x _ => (L.length - intOf x).toNat)
  case atStart => exact ⟨0, rfl, by omega, h1, h2, Below.refl _ _⟩
  case round =>
    obtain ⟨i, rfl, hi, g1, g2, hB⟩ := hrel
    by_cases hil : i < L.length
    · have hii : (i : Int) < L.length := by omega
      obtain ⟨b1, rfl, k1⟩ := grid_at g1 (by omega)
      obtain ⟨b2, rfl, k2⟩ := grid_at g2 (by omega)
      obtain ⟨x0, x1, x2, x3⟩ := tok_cells k1 i hil _ rfl
      obtain ⟨y0, y1, y2, y3⟩ := tok_cells k2 i hil _ rfl
      generalize L.getD i default = x at *
      obtain ⟨xk, xp, xt, xn⟩ := x
      simp only at x0 x1 x2 x3 y0 y1 y2 y3
      go_wp2
      go_quiet (fail)
      go_wp2
      go_roundw
      case rel => exact ⟨i + 1, rfl, by omega, g1.go (drawsN (Below.refl _ _) _), g2.go (drawsN (Below.refl _ _) _), drawsN hB _⟩
      case measure => simp only [intOf]; omega
    · have hii : ¬ (i : Int) < L.length := by omega
      go_wp2
      go_ret
      exact ⟨rfl, hB⟩

end Go.Proofs.YtnkfjbfllcdkbaaDoor.Toks

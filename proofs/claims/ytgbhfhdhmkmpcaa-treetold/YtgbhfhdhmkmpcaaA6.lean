/-
  Contracts of slices.Clone of terms, and of atoms.
-/
import Derived.Test.YtgbhfhdhmkmpcaaA5
import Derived.Deep.AppendSrc
namespace Go.Proofs.Ytgbhfhdhmkmpcaa.Atoms
open Go.RowKit
set_option linter.unusedVariables false
set_option linter.unusedSimpArgs false

/-- An append whose run is known. -/
theorem wpList_app {P : Program} {w : World} {ops : Array Oper} {rest : List Oper} {o : Oper} {a : Act} {Q : Exit → Act → World → Prop} (hg : o.guard = none) (s x : Operand) (t tx : TypeId)
    (ho : o.op = .call { callee := .builtin .append, args := #[s, x], argTypes := #[t, tx] }) {v : Value} {V : World} (hr : ∀ ty, (Builtin.append_ #[t, tx] ty #[a.eval s, a.eval x]).run P w = .ok v V)
    (h : wpList P ops Q rest (a.put o.dst v) V) : wpList P ops Q (o :: rest) a w := by
  refine wpList_plain hg fun K hK => ?_
  unfold Oper.wp execOp
  simp only [ho, resolve, invoke, builtin, Sem.run_bind, Sem.run_pure, Result.andThen_ok, List.map_toArray, List.map_cons, List.map_nil, hr]
  exact hK _ _ h
/-- How a copy is told. -/
def Cloned (w : World) (k n : Nat) (f : Nat → Nat → Value) (e : Ending) (w' : World) : Prop := ∃ s', e = .returned s' ∧ SliceAt w' s' k n f ∧ Above w.heap.size s' ∧ Below w.heap.size w w'
theorem u_ct : Try.prog.underlying 71 = some (.slice 85) := by kernel_rfl
theorem u_ca : Try.prog.underlying 54 = some (.slice 73) := by kernel_rfl
theorem info_of {t : TypeId} {k b z : Nat} (h : (Try.prog.info? t).map (fun i => (i.size, i.bytes, i.zero.map (·.cells.size))) = some (k, b, some z)) :
    ∃ i, Try.prog.info? t = some i ∧ i.size = k ∧ i.bytes = b ∧ ∃ v, i.zero = some v ∧ v.cells.size = z := by
  cases hi : Try.prog.info? t with
  | none => rw [hi] at h; cases h
  | some i =>
    rw [hi] at h
    simp only [Option.map_some, Option.some.injEq, Prod.mk.injEq] at h
    obtain ⟨h1, h2, h3⟩ := h
    cases hz : i.zero with
    | none => rw [hz] at h3; cases h3
    | some v =>
      rw [hz] at h3
      exact ⟨i, rfl, h1, h2, v, hz, by simpa using h3⟩
theorem nil_ct (V : World) : (binOp BinOp.eql 71 (.slice none 0 0) (.slice none 0 0)).run Try.prog V = .ok (.bool true) V := by kernel_rfl
theorem not_ct (a : Addr) (n c : Nat) (V : World) : (binOp BinOp.eql 71 (.slice (some a) n c) (.slice none 0 0)).run Try.prog V = .ok (.bool false) V := by kernel_rfl
theorem info_ct : ∃ i, Try.prog.info? 85 = some i ∧ i.size = 2 ∧ i.bytes = 16 ∧ ∃ v, i.zero = some v ∧ v.cells.size = 2 := info_of (by kernel_rfl)
theorem nil_ca (V : World) : (binOp BinOp.eql 54 (.slice none 0 0) (.slice none 0 0)).run Try.prog V = .ok (.bool true) V := by kernel_rfl
theorem not_ca (a : Addr) (n c : Nat) (V : World) : (binOp BinOp.eql 54 (.slice (some a) n c) (.slice none 0 0)).run Try.prog V = .ok (.bool false) V := by kernel_rfl
theorem info_ca : ∃ i, Try.prog.info? 73 = some i ∧ i.size = 12 ∧ i.bytes = 152 ∧ ∃ v, i.zero = some v ∧ v.cells.size = 12 := info_of (by kernel_rfl)

end Go.Proofs.Ytgbhfhdhmkmpcaa.Atoms

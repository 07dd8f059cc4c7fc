/-
  A row of operations that read no memory: what they give, and which blocks they lay, is reckoned by one function, which the kernel runs.
-/
import Derived.Test.YteakgagjacjhiaaWA
namespace Go.Proofs.Yteakgagjacjhiaa.Atoms
open Go.RowKit
set_option linter.unusedVariables false
set_option linter.unusedSimpArgs false

/-- The world with some blocks more. -/
def laid (w : World) (os : List Obj) : World := { w with heap := w.heap ++ os.toArray }
theorem laid_nil (w : World) : laid w [] = w := by simp [laid]
theorem laid_size (w : World) (os : List Obj) : (laid w os).heap.size = w.heap.size + os.length := by simp [laid]
theorem laid_push (w : World) (os : List Obj) (o : Obj) : { laid w os with heap := (laid w os).heap.push o } = laid w (os ++ [o]) := by
  simp only [laid]
  congr 1
  apply Array.ext'
  simp
theorem laid_alloc (w : World) (os : List Obj) (o : Obj) : (laid w os).alloc o = laid w (os ++ [o]) := laid_push w os o
theorem laid_laid (w : World) (os os' : List Obj) : laid (laid w os) os' = laid w (os ++ os') := by
  simp only [laid]
  congr 1
  apply Array.ext'
  simp
theorem laid_get (w : World) (os : List Obj) (i : Nat) : (laid w os).heap[w.heap.size + i]? = os[i]? := by
  simp only [laid]
  rw [Array.getElem?_append_right (by omega)]
  simp
theorem laid_alloc' (w : World) (o : Obj) : w.alloc o = laid w [o] := by
  have h := laid_alloc w [] o
  rwa [laid_nil] at h
theorem laid_cons (w : World) (o : Obj) (os : List Obj) : laid w (o :: os) = laid (w.alloc o) os := by
  have h := laid_laid w [o] os
  rw [← laid_alloc'] at h
  exact h.symm
theorem laid_below (w : World) (os : List Obj) : Below w.heap.size w (laid w os) := by
  induction os generalizing w with
  | nil => rw [laid_nil]; exact Below.refl _ _
  | cons o os ih =>
    rw [laid_cons]
    have h1 : Below w.heap.size w (w.alloc o) := (Below.refl _ _).alloc (Nat.le_refl _) o
    exact h1.trans ((ih (w.alloc o)).mono h1.size)

/-- What an operation gives that reads no memory; n: how many blocks there were. -/
def ev {α : Type} (P : Program) (n : Nat) : Sem α → List Obj → Option (α × List Obj)
  | .pure a, os => some (a, os)
  | .new o k, os => ev P n (k (n + os.length)) (os ++ [o])
  | .program k, os => ev P n (k P) os
  | _, _ => none
theorem ev_run {α : Type} {P : Program} (w : World) (s : Sem α) : ∀ (os : List Obj) (a : α) (os' : List Obj), ev P w.heap.size s os = some (a, os') → s.run P (laid w os) = .ok a (laid w os') := by
  induction s with
  | pure a => intro os a' os' h; simp only [ev, Option.some.injEq, Prod.mk.injEq] at h; obtain ⟨rfl, rfl⟩ := h; rfl
  | new o k ih =>
    intro os a' os' h
    simp only [ev] at h
    simp only [Sem.run]
    rw [laid_push, laid_size]
    exact ih _ _ _ _ h
  | program k ih =>
    intro os a' os' h
    simp only [ev] at h
    simp only [Sem.run]
    exact ih _ _ _ _ h
  | _ => intro os a' os' h; simp [ev] at h

/-- A row of operations; K: the calls whose answers are known. -/
def evOps (P : Program) (K : FuncId → Array Value → Option (Value × List Obj)) (n : Nat) : List Oper → Act → List Obj → Option (Act × List Obj)
  | [], a, os => some (a, os)
  | o :: r, a, os =>
    match o.guard with
    | some _ => none
    | none =>
      match ev P n (execOp a.eval o) os with
      | some (.value v, os') => evOps P K n r (a.put o.dst v) os'
      | some (.enter f args, os') =>
        match K f args with
        | some (v, os'') => evOps P K n r (a.put o.dst v) (os' ++ os'')
        | none => none
      | _ => none
/-- The calls whose answers are known answer so. -/
def Known (P : Program) (K : FuncId → Array Value → Option (Value × List Obj)) : Prop :=
  ∀ f args v os, K f args = some (v, os) → ∀ w, Calls P f args w fun e w' => e = .returned v ∧ w' = laid w os
theorem wpList_ev {P : Program} {K : FuncId → Array Value → Option (Value × List Obj)} (hK : Known P K) {ops : Array Oper} {Q : Exit → Act → World → Prop} (w : World) (rest : List Oper) :
    ∀ (pre : List Oper) (a : Act) (os : List Obj) (a' : Act) (os' : List Obj), evOps P K w.heap.size pre a os = some (a', os') → wpList P ops Q rest a' (laid w os') → wpList P ops Q (pre ++ rest) a (laid w os) := by
  intro pre
  induction pre with
  | nil =>
    intro a os a' os' h hr
    simp only [evOps, Option.some.injEq, Prod.mk.injEq] at h
    obtain ⟨rfl, rfl⟩ := h
    exact hr
  | cons o r ih =>
    intro a os a' os' h hr
    unfold evOps at h
    split at h
    · cases h
    · rename_i hg
      refine wpList_plain hg fun C hC => ?_
      unfold Oper.wp
      split at h
      · rename_i v os1 he
        rw [ev_run w _ _ _ _ he]
        exact hC _ _ (ih _ _ _ _ h hr)
      · rename_i f args os1 he
        rw [ev_run w _ _ _ _ he]
        split at h
        · rename_i v os2 hk
          refine (hK _ _ _ _ hk _).mono ?_
          rintro e w' ⟨rfl, rfl⟩
          rw [laid_laid]
          exact hC _ _ (ih _ _ _ _ h hr)
        · cases h
      · cases h

end Go.Proofs.Yteakgagjacjhiaa.Atoms

/-
  A row of operations that read no memory: what they give, and which blocks they lay, is reckoned by one function, which the kernel runs. Rows of cells in memory; the table's rows; what is right about them, as plain functions. What is right about a table, as plain functions. Contracts of atoms.within, letter, codeOf. Contract of atoms.codeOf: a text as a key, and whether it is a code. Maps whose keys are codes: looked up, filled, cleared. Contract of (atoms.seen).add. Contract of (atoms.seen).add: the codes of one more row; all but the map stays as it was. Contracts of atoms.rightTerm, rightWorth. Contracts of slices.Clone of terms, and of atoms. Contract of atoms.Each: the function that it hands back has a copy of all atoms.
-/
import Derived.Test.YthofogokpolhdaaGreatDoorWRX
import Derived.Test.YthofogokpolhdaaGreatDoorFA
import Derived.Deep.Cut
import Derived.RangeFuncWrites
import Derived.Deep.AppendSrc
import Derived.Deep.RegionHeld3
namespace Go.Proofs.YthofogokpolhdaaGreatDoor.Atoms
open Go.RowKit
set_option linter.unusedVariables false
set_option linter.unusedSimpArgs false

/-- The world with some blocks more. -/
def laid (w : World) (os : List Obj) : World := { w with heap := w.heap ++ os.toArray }
theorem laid_nil (w : World) : laid w [] = w := by simp [laid]
theorem laid_size (w : World) (os : List Obj) : (laid w os).heap.size = w.heap.size + os.length := by simp [laid]
theorem laid_push (w : World) (os : List Obj) (o : Obj) : { laid w os with heap := (laid w os).heap.push o } = laid w (os ++ [o]) := by
  simp only [laid]
  congr 1
  apply Array.ext'
  simp
theorem laid_alloc (w : World) (os : List Obj) (o : Obj) : (laid w os).alloc o = laid w (os ++ [o]) := laid_push w os o
theorem laid_laid (w : World) (os os' : List Obj) : laid (laid w os) os' = laid w (os ++ os') := by
  simp only [laid]
  congr 1
  apply Array.ext'
  simp
theorem laid_get (w : World) (os : List Obj) (i : Nat) : (laid w os).heap[w.heap.size + i]? = os[i]? := by
  simp only [laid]
  rw [Array.getElem?_append_right (by omega)]
  simp
theorem laid_alloc' (w : World) (o : Obj) : w.alloc o = laid w [o] := by
  have h := laid_alloc w [] o
  rwa [laid_nil] at h
theorem laid_cons (w : World) (o : Obj) (os : List Obj) : laid w (o :: os) = laid (w.alloc o) os := by
  have h := laid_laid w [o] os
  rw [← laid_alloc'] at h
  exact h.symm
theorem laid_below (w : World) (os : List Obj) : Below w.heap.size w (laid w os) := by
  induction os generalizing w with
  | nil => rw [laid_nil]; exact Below.refl _ _
  | cons o os ih =>
    rw [laid_cons]
    have h1 : Below w.heap.size w (w.alloc o) := (Below.refl _ _).alloc (Nat.le_refl _) o
    exact h1.trans ((ih (w.alloc o)).mono h1.size)

/-- What an operation gives that reads no memory; n: how many blocks there were. -/
def ev {α : Type} (P : Program) (n : Nat) : Sem α → List Obj → Option (α × List Obj)
  | .pure a, os => some (a, os)
  | .new o k, os => ev P n (k (n + os.length)) (os ++ [o])
  | .program k, os => ev P n (k P) os
  | _, _ => none
theorem ev_run {α : Type} {P : Program} (w : World) (s : Sem α) : ∀ (os : List Obj) (a : α) (os' : List Obj), ev P w.heap.size s os = some (a, os') → s.run P (laid w os) = .ok a (laid w os') := by
  induction s with
  | pure a => intro os a' os' h; simp only [ev, Option.some.injEq, Prod.mk.injEq] at h; obtain ⟨rfl, rfl⟩ := h; rfl
  | new o k ih =>
    intro os a' os' h
    simp only [ev] at h
    simp only [Sem.run]
    rw [laid_push, laid_size]
    exact ih _ _ _ _ h
  | program k ih =>
    intro os a' os' h
    simp only [ev] at h
    simp only [Sem.run]
    exact ih _ _ _ _ h
  | _ => intro os a' os' h; simp [ev] at h

/-- A row of operations; K: the calls whose answers are known. -/
def evOps (P : Program) (K : FuncId → Array Value → Option (Value × List Obj)) (n : Nat) : List Oper → Act → List Obj → Option (Act × List Obj)
  | [], a, os => some (a, os)
  | o :: r, a, os =>
    match o.guard with
    | some _ => none
    | none =>
      match ev P n (execOp a.eval o) os with
      | some (.value v, os') => evOps P K n r (a.put o.dst v) os'
      | some (.enter f args, os') =>
        match K f args with
        | some (v, os'') => evOps P K n r (a.put o.dst v) (os' ++ os'')
        | none => none
      | _ => none
/-- The calls whose answers are known answer so. -/
def Known (P : Program) (K : FuncId → Array Value → Option (Value × List Obj)) : Prop :=
  ∀ f args v os, K f args = some (v, os) → ∀ w, Calls P f args w fun e w' => e = .returned v ∧ w' = laid w os
theorem wpList_ev {P : Program} {K : FuncId → Array Value → Option (Value × List Obj)} (hK : Known P K) {ops : Array Oper} {Q : Exit → Act → World → Prop} (w : World) (rest : List Oper) :
    ∀ (pre : List Oper) (a : Act) (os : List Obj) (a' : Act) (os' : List Obj), evOps P K w.heap.size pre a os = some (a', os') → wpList P ops Q rest a' (laid w os') → wpList P ops Q (pre ++ rest) a (laid w os) := by
  intro pre
  induction pre with
  | nil =>
    intro a os a' os' h hr
    simp only [evOps, Option.some.injEq, Prod.mk.injEq] at h
    obtain ⟨rfl, rfl⟩ := h
    exact hr
  | cons o r ih =>
    intro a os a' os' h hr
    unfold evOps at h
    split at h
    · cases h
    · rename_i hg
      refine wpList_plain hg fun C hC => ?_
      unfold Oper.wp
      split at h
      · rename_i v os1 he
        rw [ev_run w _ _ _ _ he]
        exact hC _ _ (ih _ _ _ _ h hr)
      · rename_i f args os1 he
        rw [ev_run w _ _ _ _ he]
        split at h
        · rename_i v os2 hk
          refine (hK _ _ _ _ hk _).mono ?_
          rintro e w' ⟨rfl, rfl⟩
          rw [laid_laid]
          exact hC _ _ (ih _ _ _ _ h hr)
        · cases h
      · cases h

end Go.Proofs.YthofogokpolhdaaGreatDoor.Atoms

namespace Go.Proofs.YthofogokpolhdaaGreatDoor.Atoms
open Go.RowKit
set_option linter.unusedVariables false
set_option linter.unusedSimpArgs false

/-! ### Rows of cells -/

/-- In the world w the block b begins with n rows of k cells: f i j is the cell j of row i. -/
def Grid (w : World) (b k n : Nat) (f : Nat → Nat → Value) : Prop :=
  (∀ i, i < n → ∀ j, j < k → w.cell? ⟨b, i * k + j, none⟩ = some (f i j)) ∧ (∀ j, w.frozen? ⟨b, j, none⟩ = false) ∧ b < w.heap.size
theorem frozen_of_block {w w' : World} {b : Nat} (h : w'.heap[b]? = w.heap[b]?) (j : Nat) : w'.frozen? ⟨b, j, none⟩ = w.frozen? ⟨b, j, none⟩ := by
  simp only [World.frozen?, h]
theorem Grid.block {w w' : World} {b k n : Nat} {f : Nat → Nat → Value} (h : Grid w b k n f) (hs : w.heap.size ≤ w'.heap.size) (hb : w'.heap[b]? = w.heap[b]?) : Grid w' b k n f :=
  ⟨fun i hi j hj => (World.cell?_of_block (a := ⟨b, i * k + j, none⟩) hb).trans (h.1 i hi j hj), fun j => (frozen_of_block hb j).trans (h.2.1 j), by have := h.2.2; omega⟩
theorem Grid.go {w w' : World} {b k n : Nat} {f : Nat → Nat → Value} (h : Grid w b k n f) (hb : Below w.heap.size w w') : Grid w' b k n f := h.block hb.size (hb.block b h.2.2)
theorem Grid.alloc {w : World} {b k n : Nat} {f : Nat → Nat → Value} (h : Grid w b k n f) (o : Obj) : Grid (w.alloc o) b k n f := h.go ((Below.refl _ _).alloc (Nat.le_refl _) o)
theorem Grid.drew {w : World} {b k n : Nat} {f : Nat → Nat → Value} (h : Grid w b k n f) : Grid w.drew b k n f := h
theorem Grid.other {w : World} {b k n : Nat} {f : Nat → Nat → Value} (h : Grid w b k n f) (b' i : Nat) (u : Value) (hn : b' ≠ b) : Grid (w.setCell ⟨b', i, none⟩ u) b k n f :=
  h.block (by rw [World.size_setCell]; exact Nat.le_refl _) (Below.heap_setCell w ⟨b', i, none⟩ u b (fun e => hn e.symm))
/-- With one cell another one. -/
def upd (f : Nat → Nat → Value) (i j : Nat) (u : Value) : Nat → Nat → Value := fun i' j' => if i' = i ∧ j' = j then u else f i' j'
theorem place_inj {k i j i' j' : Nat} (hj : j < k) (hj' : j' < k) (h : i * k + j = i' * k + j') : i = i' ∧ j = j' := by
  have hk : 0 < k := by omega
  have h1 : (i * k + j) / k = i := by rw [Nat.add_comm, Nat.add_mul_div_right _ _ hk, Nat.div_eq_of_lt hj]; omega
  have h2 : (i' * k + j') / k = i' := by rw [Nat.add_comm, Nat.add_mul_div_right _ _ hk, Nat.div_eq_of_lt hj']; omega
  rw [h] at h1
  have e : i = i' := h1.symm.trans h2
  subst e
  exact ⟨rfl, by omega⟩
theorem Grid.set {w : World} {b k n : Nat} {f : Nat → Nat → Value} (h : Grid w b k n f) (i j : Nat) (hi : i < n) (hj : j < k) (u : Value) : Grid (w.setCell ⟨b, i * k + j, none⟩ u) b k n (upd f i j u) := by
  have hc := h.1 i hi j hj
  refine ⟨fun i' hi' j' hj' => ?_, fun j' => ?_, ?_⟩
  · unfold upd
    by_cases e : i' = i ∧ j' = j
    · rw [if_pos e]
      obtain ⟨rfl, rfl⟩ := e
      exact World.cell?_setCell_same _ _ _ hc
    · rw [if_neg e, World.cell?_setCell_other _ _ _ _ (by intro hh; injection hh with e1 e2; exact e (place_inj hj' hj e2.symm)), h.1 i' hi' j' hj']
  · rw [World.frozen?_setCell]; exact h.2.1 j'
  · rw [World.size_setCell]; exact h.2.2
theorem Grid.ext {w : World} {b k n : Nat} {f g : Nat → Nat → Value} (h : Grid w b k n f) (e : ∀ i, i < n → ∀ j, j < k → f i j = g i j) : Grid w b k n g :=
  ⟨fun i hi j hj => (h.1 i hi j hj).trans (by rw [e i hi j hj]), h.2⟩
theorem Grid.short {w : World} {b k n : Nat} {f : Nat → Nat → Value} (h : Grid w b k n f) {m : Nat} (hm : m ≤ n) : Grid w b k m f :=
  ⟨fun i hi j hj => h.1 i (by omega) j hj, h.2⟩
/-- All its cells, one behind the other. -/
def flat (k n : Nat) (f : Nat → Nat → Value) : List Value := (List.range (n * k)).map fun t => f (t / k) (t % k)
theorem flat_length (k n : Nat) (f : Nat → Nat → Value) : (flat k n f).length = n * k := by simp [flat]
theorem flat_get {k n : Nat} {f : Nat → Nat → Value} {t : Nat} (h : t < n * k) : (flat k n f)[t]? = some (f (t / k) (t % k)) := by simp [flat, h]
theorem flat_at {k n : Nat} {f : Nat → Nat → Value} {i j : Nat} (hi : i < n) (hj : j < k) : (flat k n f)[i * k + j]? = some (f i j) := by
  have hk : 0 < k := by omega
  have hlt : i * k + j < n * k := by
    have : (i + 1) * k ≤ n * k := Nat.mul_le_mul_right k hi
    rw [Nat.add_mul] at this; omega
  rw [flat_get hlt, Nat.add_comm (i * k) j, Nat.add_mul_div_right _ _ hk, Nat.div_eq_of_lt hj, Nat.add_mul_mod_self_right, Nat.mod_eq_of_lt hj]
  simp
theorem Grid.flat {w : World} {b k n : Nat} {f : Nat → Nat → Value} (h : Grid w b k n f) (hk : 0 < k) (t : Nat) (u : Value) (ht : (Atoms.flat k n f)[t]? = some u) : w.cell? ⟨b, t, none⟩ = some u := by
  have hlt : t < n * k := by
    have := (List.getElem?_eq_some_iff.1 ht).1
    rwa [flat_length] at this
  rw [flat_get hlt] at ht
  have := h.1 (t / k) ((Nat.div_lt_iff_lt_mul hk).2 hlt) (t % k) (Nat.mod_lt _ hk)
  rw [Nat.mul_comm, Nat.div_add_mod] at this
  rw [this, ht]
/-- A new block. -/
theorem Grid.new (w : World) (t : TypeId) (k n : Nat) (f : Nat → Nat → Value) (cs : Array Value) (h : ∀ i, i < n → ∀ j, j < k → cs[i * k + j]? = some (f i j)) : Grid (w.alloc (.cells cs t)) w.heap.size k n f := by
  refine ⟨fun i hi j hj => ?_, fun j => ?_, ?_⟩
  · rw [← h i hi j hj]
    simp [go_sem]
  all_goals simp [go_sem]
theorem Grid.old {w : World} {b k n : Nat} {f : Nat → Nat → Value} {cs : Array Value} {t : TypeId} (hb : w.heap[b]? = some (.cells cs t)) (h : ∀ i, i < n → ∀ j, j < k → cs[i * k + j]? = some (f i j)) : Grid w b k n f := by
  refine ⟨fun i hi j hj => ?_, fun j => ?_, (Array.getElem?_eq_some_iff.1 hb).1⟩
  · rw [← h i hi j hj]
    simp [World.cell?, hb]
  · simp [World.frozen?, hb]

/-! ### The table's rows -/

/-- A text of these letters. -/
def bs (l : List UInt8) : ByteArray := ⟨l.toArray⟩
theorem bs_size (l : List UInt8) : (bs l).size = l.length := List.size_toArray
theorem bs_of (s : ByteArray) : bs s.data.toList = s := by
  cases s
  simp [bs]

/-- An atom. -/
structure Row where
  c0 : List UInt8
  c1 : List UInt8
  c2 : List UInt8
  c3 : List UInt8
  c4 : List UInt8
  m : Bool
  tag : Int
  base : Int
  num : Int
  den : Int
  ten : Int
  ts : List (Int × Int)
  deriving Inhabited
/-- A prefix. -/
structure Pre where
  c0 : List UInt8
  c1 : List UInt8
  c2 : List UInt8
  c3 : List UInt8
  c4 : List UInt8
  ten : Int
  deriving Inhabited
/-- An atom's cells; s: the slice of its terms. -/
def Row.cs (r : Row) (s : Value) : Array Value := #[.string (bs r.c0), .string (bs r.c1), .string (bs r.c2), .string (bs r.c3), .string (bs r.c4), .bool r.m, .int .i64 r.tag, .int .i64 r.base, .int .i64 r.num, .int .i64 r.den, .int .i64 r.ten, s]
def Pre.cs (r : Pre) : Array Value := #[.string (bs r.c0), .string (bs r.c1), .string (bs r.c2), .string (bs r.c3), .string (bs r.c4), .int .i64 r.ten]
/-- The cell j of an atom. -/
def Row.cell (r : Row) (s : Value) (j : Nat) : Value := (r.cs s)[j]?.getD undef
def Pre.cell (r : Pre) (j : Nat) : Value := r.cs[j]?.getD undef
def termCell (t : Int × Int) (j : Nat) : Value := if j = 0 then .int .i64 t.1 else .int .i64 t.2
def cellA (rows : List Row) (S : Nat → Value) (i j : Nat) : Value := (rows.getD i default).cell (S i) j
def cellP (ps : List Pre) (i j : Nat) : Value := (ps.getD i default).cell j
def cellT (ts : List (Int × Int)) (i j : Nat) : Value := termCell (ts.getD i default) j

/-- The block b has m cells, or more. -/
def Spare (w : World) (b m : Nat) : Prop := ∀ j, j < m → (w.cell? ⟨b, j, none⟩).isSome = true
theorem Spare.block {w w' : World} {b m : Nat} (h : Spare w b m) (hb : w'.heap[b]? = w.heap[b]?) : Spare w' b m := fun j hj => by
  rw [World.cell?_of_block (a := ⟨b, j, none⟩) hb]
  exact h j hj
theorem Spare.set {w : World} {b m : Nat} (h : Spare w b m) (b' i : Nat) (u : Value) : Spare (w.setCell ⟨b', i, none⟩ u) b m := fun j hj => by
  have := h j hj
  by_cases e : (⟨b', i, none⟩ : Addr) = ⟨b, j, none⟩
  · obtain ⟨x, hx⟩ := Option.isSome_iff_exists.1 this
    rw [e, World.cell?_setCell_same _ _ _ hx]; rfl
  · rw [World.cell?_setCell_other _ _ _ _ e]
    exact this
theorem Spare.of_cells {w : World} {b : Nat} {cs : Array Value} {t : TypeId} (hb : w.heap[b]? = some (.cells cs t)) : Spare w b cs.size := fun j hj => by
  simp [World.cell?, hb, hj]
/-- The slice s holds n rows of k cells. -/
def SliceAt (w : World) (s : Value) (k n : Nat) (f : Nat → Nat → Value) : Prop :=
  (n = 0 ∧ s = .slice none 0 0) ∨ ∃ b c, s = .slice (some ⟨b, 0, none⟩) n c ∧ n ≤ c ∧ Spare w b (c * k) ∧ Grid w b k n f
theorem SliceAt.go {w w' : World} {s : Value} {k n : Nat} {f : Nat → Nat → Value} (h : SliceAt w s k n f) (hb : Below w.heap.size w w') : SliceAt w' s k n f := by
  rcases h with h | ⟨b, c, hs, hc, hm, hg⟩
  · exact .inl h
  · exact .inr ⟨b, c, hs, hc, hm.block (hb.block b hg.2.2), hg.go hb⟩
theorem SliceAt.slice {w : World} {s : Value} {k n : Nat} {f : Nat → Nat → Value} (h : SliceAt w s k n f) : ∃ o c, s = .slice o n c := by
  rcases h with ⟨rfl, hs⟩ | ⟨b, c, hs, hc, hm, hg⟩
  · exact ⟨_, _, hs⟩
  · exact ⟨_, _, hs⟩
theorem SliceAt.ext {w : World} {s : Value} {k n : Nat} {f g : Nat → Nat → Value} (h : SliceAt w s k n f) (e : ∀ i, i < n → ∀ j, j < k → f i j = g i j) : SliceAt w s k n g := by
  rcases h with h | ⟨b, c, hs, hc, hm, hg⟩
  · exact .inl h
  · exact .inr ⟨b, c, hs, hc, hm, hg.ext e⟩
/-- The slice lies in a block from B on, or is nil. -/
def Above (B : Nat) (s : Value) : Prop := ∀ a n c, s = .slice (some a) n c → B ≤ a.block
theorem Above.mono {B B' : Nat} {s : Value} (h : Above B s) (hB : B' ≤ B) : Above B' s := fun a n c e => Nat.le_trans hB (h a n c e)
/-- The slice s holds these terms. -/
def TermsAt (w : World) (s : Value) (ts : List (Int × Int)) : Prop := SliceAt w s 2 ts.length (cellT ts)
theorem TermsAt.go {w w' : World} {s : Value} {ts : List (Int × Int)} (h : TermsAt w s ts) (hb : Below w.heap.size w w') : TermsAt w' s ts := SliceAt.go h hb
/-- The block b holds these atoms. -/
def AtomsAt (w : World) (b : Nat) (rows : List Row) (S : Nat → Value) : Prop :=
  Grid w b 12 rows.length (cellA rows S) ∧ ∀ i, i < rows.length → TermsAt w (S i) (rows.getD i default).ts
theorem AtomsAt.go {w w' : World} {b : Nat} {rows : List Row} {S : Nat → Value} (h : AtomsAt w b rows S) (hb : Below w.heap.size w w') : AtomsAt w' b rows S :=
  ⟨h.1.go hb, fun i hi => (h.2 i hi).go hb⟩
/-- Terms, wherever a cell is written whose block begins with a text. -/
theorem TermsAt.text {w : World} {s : Value} {ts : List (Int × Int)} (h : TermsAt w s ts) {b : Nat} {x : ByteArray} (hx : w.cell? ⟨b, 0, none⟩ = some (.string x)) (i : Nat) (u : Value) : TermsAt (w.setCell ⟨b, i, none⟩ u) s ts := by
  rcases h with h | ⟨b', c, hs, hc, hm, hg⟩
  · exact .inl h
  · refine .inr ⟨b', c, hs, hc, hm.set _ _ _, ?_⟩
    by_cases h0 : ts.length = 0
    · rw [h0] at hg ⊢
      refine ⟨fun i hi => absurd hi (by omega), fun j => ?_, ?_⟩
      · rw [World.frozen?_setCell]; exact hg.2.1 j
      · rw [World.size_setCell]; exact hg.2.2
    · refine hg.other b i u fun e => ?_
      subst e
      have := hg.1 0 (by omega) 0 (by omega)
      simp only [Nat.zero_mul, Nat.add_zero] at this
      rw [hx] at this
      simp [cellT, termCell] at this

end Go.Proofs.YthofogokpolhdaaGreatDoor.Atoms

namespace Go.Proofs.YthofogokpolhdaaGreatDoor.Atoms
open Go.RowKit
set_option linter.unusedVariables false
set_option linter.unusedSimpArgs false

/-- A letter of codes that may stand in those of a notation. -/
def letterZ (n b : Int) : Bool :=
  if 97 ≤ b ∧ b ≤ 122 then decide (n ≠ 2 ∧ n ≠ 4) else if 65 ≤ b ∧ b ≤ 90 then true else decide (b = 37 ∨ b = 39 ∨ b = 95 ∨ b = 91 ∨ b = 93)
/-- The letter at a place, 0 behind the end. -/
def at0 (s : List UInt8) (i : Nat) : Int := ((s.getD i 0).toNat : Int)
def lettersB (n : Int) (s : List UInt8) : Bool := s.all fun c => letterZ n (c.toNat : Int)
/-- A code of a notation. -/
def codeB (n : Int) (s : List UInt8) : Bool := decide (1 ≤ s.length) && (decide (s.length ≤ 8) && lettersB n s)
/-- A code as a key. -/
def keyOf (n : Int) (s : List UInt8) : List Int := [n, at0 s 0, at0 s 1, at0 s 2, at0 s 3, at0 s 4, at0 s 5, at0 s 6, at0 s 7]
def keyV (k : List Int) : Value := .agg (k.map (Value.int .u8)).toArray
def noKey : List Int := [0, 0, 0, 0, 0, 0, 0, 0, 0]
/-- As far as it is made: k letters. -/
def upto (s : List UInt8) (k i : Nat) : Int := if i < k then at0 s i else 0

/-- One more row's codes: those from notation n on. -/
def addFrom (K : List (List Int)) : Int → List (List UInt8) → Option (List (List Int))
  | _, [] => some K
  | n, s :: r =>
    if s = [] then addFrom K (n + 1) r
    else if codeB n s = true ∧ keyOf n s ∉ K then addFrom (K ++ [keyOf n s]) (n + 1) r else none
def addP (K : List (List Int)) (l : List (List UInt8)) : Option (List (List Int)) := if l.headD [] = [] then none else addFrom K 1 l
def Row.codes (r : Row) : List (List UInt8) := [r.c0, r.c1, r.c2, r.c3, r.c4]
def Pre.codes (r : Pre) : List (List UInt8) := [r.c0, r.c1, r.c2, r.c3, r.c4]

/-- All of an atom is right but its codes, and what its terms are. -/
def worthB (r : Row) : Bool :=
  if r.tag < 0 ∨ 99 < r.tag then false
  else if 0 ≤ r.base ∧ r.base < 7 then decide (r.num = 1 ∧ r.den = 1 ∧ r.ten = 0 ∧ r.tag = 0 ∧ r.ts.length = 0)
  else if r.base ≠ -1 ∨ 9 < r.ts.length then false
  else decide ((Frac.makeG r.num r.den r.ten).e = 0 ∧ (Frac.makeG r.num r.den r.ten).n ≠ 0)
/-- A term is a power of one of the plain atoms ahead. -/
def termB (rows : List Row) (i : Nat) (t : Int × Int) : Bool :=
  if t.1 < 0 ∨ (i : Int) ≤ t.1 ∨ (rows.getD t.1.toNat default).tag ≠ 0 then false else decide (t.2 ≠ 0 ∧ -9 ≤ t.2 ∧ t.2 ≤ 9)
def rowB (rows : List Row) (i : Nat) : Bool := worthB (rows.getD i default) && (rows.getD i default).ts.all (termB rows i)
/-- The first atom that is not right, from place i on, with m left; and the codes that were there. -/
def wrongA (rows : List Row) : Nat → Nat → List (List Int) → Int
  | 0, _, _ => -1
  | m + 1, i, K =>
    match addP K (rows.getD i default).codes with
    | none => i
    | some K' => if rowB rows i then wrongA rows m (i + 1) K' else i
def wrongP (ps : List Pre) : Nat → Nat → List (List Int) → Int
  | 0, _, _ => -1
  | m + 1, i, K =>
    match addP K (ps.getD i default).codes with
    | none => i
    | some K' => if -30 ≤ (ps.getD i default).ten ∧ (ps.getD i default).ten ≤ 30 then wrongP ps m (i + 1) K' else i
/-- P5.2. -/
def checkT (rows : List Row) (ps : List Pre) : Int :=
  if 100 < rows.length ∨ 30 < ps.length then (rows.length + ps.length : Nat)
  else if wrongA rows rows.length 0 [] ≠ -1 then wrongA rows rows.length 0 []
  else if wrongP ps ps.length 0 [] ≠ -1 then (rows.length : Int) + wrongP ps ps.length 0 []
  else -1

end Go.Proofs.YthofogokpolhdaaGreatDoor.Atoms

namespace Go.Proofs.YthofogokpolhdaaGreatDoor.Atoms
open Go.RowKit
set_option linter.unusedVariables false
set_option linter.unusedSimpArgs false

end Go.Proofs.YthofogokpolhdaaGreatDoor.Atoms

namespace Go.Proofs.YthofogokpolhdaaGreatDoor.Atoms
open Go.RowKit
set_option linter.unusedVariables false
set_option linter.unusedSimpArgs false

/-- A key as far as it is made. -/
def keyPart (n : Int) (s : List UInt8) (k i : Nat) : Int := if i = 0 then n else upto s k (i - 1)
def KeyAt (w : World) (b : Nat) (n : Int) (s : List UInt8) (k : Nat) : Prop := Grid w b 1 9 (fun i _ => .int .u8 (keyPart n s k i))
theorem KeyAt.cells {w : World} {b : Nat} {n : Int} {s : List UInt8} {k : Nat} (h : KeyAt w b n s k) :
    w.cell? ⟨b, 0, none⟩ = some (.int .u8 n) ∧ w.cell? ⟨b, 1, none⟩ = some (.int .u8 (upto s k 0)) ∧ w.cell? ⟨b, 2, none⟩ = some (.int .u8 (upto s k 1)) ∧ w.cell? ⟨b, 3, none⟩ = some (.int .u8 (upto s k 2))
    ∧ w.cell? ⟨b, 4, none⟩ = some (.int .u8 (upto s k 3)) ∧ w.cell? ⟨b, 5, none⟩ = some (.int .u8 (upto s k 4)) ∧ w.cell? ⟨b, 6, none⟩ = some (.int .u8 (upto s k 5)) ∧ w.cell? ⟨b, 7, none⟩ = some (.int .u8 (upto s k 6)) ∧ w.cell? ⟨b, 8, none⟩ = some (.int .u8 (upto s k 7)) :=
  ⟨h.1 0 (by omega) 0 (by omega), h.1 1 (by omega) 0 (by omega), h.1 2 (by omega) 0 (by omega), h.1 3 (by omega) 0 (by omega), h.1 4 (by omega) 0 (by omega), h.1 5 (by omega) 0 (by omega), h.1 6 (by omega) 0 (by omega), h.1 7 (by omega) 0 (by omega), h.1 8 (by omega) 0 (by omega)⟩
theorem KeyAt.set {w : World} {b : Nat} {n : Int} {s : List UInt8} {k : Nat} (h : KeyAt w b n s k) (hk : k < 8) : KeyAt (w.setCell ⟨b, 1 + k, none⟩ (.int .u8 (at0 s k))) b n s (k + 1) := by
  have := Grid.set h (1 + k) 0 (by omega) (by omega) (.int .u8 (at0 s k))
  rw [Nat.mul_one, Nat.add_zero] at this
  refine Grid.ext this fun i hi j hj => ?_
  unfold upd keyPart upto
  by_cases e : i = 1 + k ∧ j = 0
  · rw [if_pos e, if_neg (by omega), if_pos (by omega)]
    congr 2; omega
  · rw [if_neg e]
    show Value.int .u8 (if i = 0 then n else if i - 1 < k then at0 s (i - 1) else 0) = _
    by_cases h0 : i = 0
    · rw [if_pos h0, if_pos h0]
    · rw [if_neg h0, if_neg h0]
      by_cases h1 : i - 1 < k
      · rw [if_pos h1, if_pos (by omega)]
      · rw [if_neg h1, if_neg (by omega)]
theorem upto_end (s : List UInt8) (i : Nat) : upto s s.length i = at0 s i := by
  unfold upto
  split
  · rfl
  · unfold at0
    rw [List.getD_eq_getElem?_getD, List.getElem?_eq_none (by omega)]
    rfl
theorem upto_zero (s : List UInt8) (i : Nat) : upto s 0 i = 0 := by unfold upto; rw [if_neg (by omega)]
theorem at0_in (s : List UInt8) (i : Nat) : 0 ≤ at0 s i ∧ at0 s i ≤ 255 := by
  have : (s.getD i 0).toNat < 256 := UInt8.toNat_lt _
  unfold at0; omega
theorem letters_succ (n : Int) (s : List UInt8) (k : Nat) (hk : k < s.length) : lettersB n (s.take (k + 1)) = (lettersB n (s.take k) && letterZ n (at0 s k)) := by
  unfold lettersB at0
  rw [List.take_succ_eq_append_getElem hk, List.all_append]
  simp [List.getElem?_eq_getElem hk]
theorem letters_stop (n : Int) (s : List UInt8) (k : Nat) (hk : k < s.length) (h : letterZ n (at0 s k) = false) : lettersB n s = false := by
  unfold lettersB
  rw [List.all_eq_false]
  refine ⟨s[k], List.getElem_mem hk, ?_⟩
  unfold at0 at h
  rw [List.getD_eq_getElem?_getD, List.getElem?_eq_getElem hk] at h
  simpa using h
theorem str_at (s : List UInt8) (k : Nat) (hk : k < s.length) (w : World) : (Instr.index 9 (.string (bs s)) (.int .i64 (k : Nat))).run Tryz.prog w = .ok (.int .u8 (at0 s k)) w := by
  have h2 : k < (bs s).size := by rw [bs_size]; exact hk
  rw [run_index_string w _ (bs s) .i64 k Tryz.underlying9, dif_pos (by omega)]
  simp only [Int.toNat_natCast]
  unfold at0
  rw [List.getD_eq_getElem?_getD, List.getElem?_eq_getElem hk]
  rfl
/-- What codeOf answers. -/
def codeV (n : Int) (s : List UInt8) : Value := .tuple #[keyV (if codeB n s then keyOf n s else noKey), .bool (codeB n s)]

theorem key_end (n : Int) (s : List UInt8) : keyV (keyOf n s) = .agg #[.int .u8 n, .int .u8 (upto s s.length 0), .int .u8 (upto s s.length 1), .int .u8 (upto s s.length 2), .int .u8 (upto s s.length 3), .int .u8 (upto s s.length 4), .int .u8 (upto s s.length 5), .int .u8 (upto s s.length 6), .int .u8 (upto s s.length 7)] := by
  simp only [upto_end]
  rfl

end Go.Proofs.YthofogokpolhdaaGreatDoor.Atoms

namespace Go.Proofs.YthofogokpolhdaaGreatDoor.Atoms
open Go.RowKit
set_option linter.unusedVariables false
set_option linter.unusedSimpArgs false

end Go.Proofs.YthofogokpolhdaaGreatDoor.Atoms

namespace Go.Proofs.YthofogokpolhdaaGreatDoor.Atoms
open Go.RowKit
set_option linter.unusedVariables false
set_option linter.unusedSimpArgs false

/-- All but the block M is as it was. -/
structure But (M : Nat) (w w' : World) : Prop where
  os : w'.os = w.os
  tape : w'.tape = w.tape
  output : w'.output = w.output
  size : w.heap.size ≤ w'.heap.size
  block : ∀ k, k < w.heap.size → k ≠ M → w'.heap[k]? = w.heap[k]?
theorem But.refl (M : Nat) (w : World) : But M w w := ⟨rfl, rfl, rfl, Nat.le_refl _, fun _ _ _ => rfl⟩
theorem But.trans {M : Nat} {a b c : World} (h : But M a b) (k : But M b c) : But M a c :=
  ⟨k.os.trans h.os, k.tape.trans h.tape, k.output.trans h.output, Nat.le_trans h.size k.size, fun i hi hM => (k.block i (by have := h.size; omega) hM).trans (h.block i hi hM)⟩
theorem But.of {M : Nat} {w w' : World} (h : Below w.heap.size w w') : But M w w' := ⟨h.os, h.tape, h.output, h.size, fun k hk _ => h.block k hk⟩
theorem But.put (M : Nat) (w : World) (o : Obj) : But M w (w.putObj M o) := ⟨rfl, rfl, rfl, by simp [World.putObj], fun k _ hM => World.putObj_heap_other hM⟩
theorem But.alloc {M : Nat} {w w' : World} (h : But M w w') (o : Obj) : But M w (w'.alloc o) := h.trans (But.of ((Below.refl _ _).alloc (Nat.le_refl _) o))
theorem But.below {M B : Nat} {w w' : World} (h : But M w w') (hB : B ≤ w.heap.size) (hM : B ≤ M) : Below B w w' := ⟨h.os, h.tape, h.output, h.size, fun k hk => h.block k (by omega) (by omega)⟩
theorem But.grid {M : Nat} {w w' : World} (h : But M w w') {b k n : Nat} {f : Nat → Nat → Value} (hg : Grid w b k n f) (hb : b ≠ M) : Grid w' b k n f := hg.block h.size (h.block b hg.2.2 hb)

/-- The five codes. -/
structure C5 where
  c0 : List UInt8
  c1 : List UInt8
  c2 : List UInt8
  c3 : List UInt8
  c4 : List UInt8
def C5.l (c : C5) : List (List UInt8) := [c.c0, c.c1, c.c2, c.c3, c.c4]
def C5.get (c : C5) (i : Nat) : List UInt8 := c.l.getD i []
def C5.cs (c : C5) : Array Value := #[.string (bs c.c0), .string (bs c.c1), .string (bs c.c2), .string (bs c.c3), .string (bs c.c4)]
/-- No text is longer than may be. -/
def C5.Fine (c : C5) : Prop := ∀ i, (c.get i).length ≤ 9223372036854775807
theorem five {p : Nat → Prop} (h0 : p 0) (h1 : p 1) (h2 : p 2) (h3 : p 3) (h4 : p 4) : ∀ i, i < 5 → p i := by
  intro i hi
  match i, hi with
  | 0, _ => exact h0
  | 1, _ => exact h1
  | 2, _ => exact h2
  | 3, _ => exact h3
  | 4, _ => exact h4
theorem s0 (a b c d e : Value) (w : World) : (Instr.index 131 (.agg #[a, b, c, d, e]) (.int .i64 0)).run Tryz.prog w = .ok a w := by kernel_rfl
theorem s1 (a b c d e : Value) (w : World) : (Instr.index 131 (.agg #[a, b, c, d, e]) (.int .i64 1)).run Tryz.prog w = .ok b w := by kernel_rfl
theorem s2 (a b c d e : Value) (w : World) : (Instr.index 131 (.agg #[a, b, c, d, e]) (.int .i64 2)).run Tryz.prog w = .ok c w := by kernel_rfl
theorem s3 (a b c d e : Value) (w : World) : (Instr.index 131 (.agg #[a, b, c, d, e]) (.int .i64 3)).run Tryz.prog w = .ok d w := by kernel_rfl
theorem s4 (a b c d e : Value) (w : World) : (Instr.index 131 (.agg #[a, b, c, d, e]) (.int .i64 4)).run Tryz.prog w = .ok e w := by kernel_rfl
theorem code_at (c : C5) (w : World) : ∀ i, i < 5 → (Instr.index 131 (.agg #[.string (bs c.c0), .string (bs c.c1), .string (bs c.c2), .string (bs c.c3), .string (bs c.c4)]) (.int .i64 (i : Nat))).run Tryz.prog w = .ok (.string (bs (c.get i))) w :=
  five (s0 _ _ _ _ _ _) (s1 _ _ _ _ _ _) (s2 _ _ _ _ _ _) (s3 _ _ _ _ _ _) (s4 _ _ _ _ _ _)
theorem drop5 (c : C5) : ∀ i, i < 5 → c.l.drop i = c.get i :: c.l.drop (i + 1) := five rfl rfl rfl rfl rfl
theorem add_skip (K : List (List Int)) (c : C5) (i : Nat) (hi : i < 5) (h : c.get i = []) : addFrom K ((i : Int) + 1) (c.l.drop i) = addFrom K (((i + 1 : Nat) : Int) + 1) (c.l.drop (i + 1)) := by
  rw [drop5 c i hi]
  show (if c.get i = [] then _ else _) = _
  rw [if_pos h]
  congr 1
theorem add_one (K : List (List Int)) (c : C5) (i : Nat) (hi : i < 5) (h : c.get i ≠ []) (hc : codeB ((i : Int) + 1) (c.get i) = true) (hm : keyOf ((i : Int) + 1) (c.get i) ∉ K) :
    addFrom K ((i : Int) + 1) (c.l.drop i) = addFrom (K ++ [keyOf ((i : Int) + 1) (c.get i)]) (((i + 1 : Nat) : Int) + 1) (c.l.drop (i + 1)) := by
  rw [drop5 c i hi]
  show (if c.get i = [] then _ else _) = _
  rw [if_neg h, if_pos ⟨hc, hm⟩]
  congr 1
theorem add_none (K : List (List Int)) (c : C5) (i : Nat) (hi : i < 5) (h : c.get i ≠ []) (hc : codeB ((i : Int) + 1) (c.get i) = false ∨ keyOf ((i : Int) + 1) (c.get i) ∈ K) : addFrom K ((i : Int) + 1) (c.l.drop i) = none := by
  rw [drop5 c i hi]
  show (if c.get i = [] then _ else _) = _
  rw [if_neg h, if_neg]
  rintro ⟨h1, h2⟩
  rcases hc with hc | hc
  · rw [hc] at h1; cases h1
  · exact h2 hc
theorem key_len (n : Int) (s : List UInt8) : (keyOf n s).length = 9 := rfl

theorem bs_toList (l : List UInt8) : (bs l).toList = l := by rw [ByteArray.toList_eq]; rfl
theorem bs_none : (bs []).toList.isEmpty = true := by rw [bs_toList]; rfl
theorem bs_some {l : List UInt8} (h : l ≠ []) : (bs l).toList.isEmpty = false := by
  rw [bs_toList]
  cases l with
  | nil => exact absurd rfl h
  | cons a l => rfl

end Go.Proofs.YthofogokpolhdaaGreatDoor.Atoms

namespace Go.Proofs.YthofogokpolhdaaGreatDoor.Atoms
open Go.RowKit
set_option linter.unusedVariables false
set_option linter.unusedSimpArgs false

def Row.c5 (r : Row) : C5 := ⟨r.c0, r.c1, r.c2, r.c3, r.c4⟩
def Pre.c5 (r : Pre) : C5 := ⟨r.c0, r.c1, r.c2, r.c3, r.c4⟩
/-- Numbers and texts that there are. -/
structure Row.Fine (r : Row) : Prop where
  codes : r.c5.Fine
  num : r.num ≤ 9223372036854775807
  den : r.den ≤ 9223372036854775807
  ts : r.ts.length ≤ 9223372036854775807

theorem worth_base {r : Row} (h : 0 ≤ r.tag ∧ r.tag ≤ 99) (hb : 0 ≤ r.base ∧ r.base < 7) : worthB r = decide (r.num = 1 ∧ r.den = 1 ∧ r.ten = 0 ∧ r.tag = 0 ∧ r.ts.length = 0) := by
  unfold worthB
  rw [if_neg (by omega), if_pos hb]

end Go.Proofs.YthofogokpolhdaaGreatDoor.Atoms

namespace Go.Proofs.YthofogokpolhdaaGreatDoor.Atoms
open Go.RowKit
set_option linter.unusedVariables false
set_option linter.unusedSimpArgs false

/-- An append whose run is known. -/
theorem wpList_app {P : Program} {w : World} {ops : Array Oper} {rest : List Oper} {o : Oper} {a : Act} {Q : Exit → Act → World → Prop} (hg : o.guard = none) (s x : Operand) (t tx : TypeId)
    (ho : o.op = .call { callee := .builtin .append, args := #[s, x], argTypes := #[t, tx] }) {v : Value} {V : World} (hr : ∀ ty, (Builtin.append_ #[t, tx] ty #[a.eval s, a.eval x]).run P w = .ok v V)
    (h : wpList P ops Q rest (a.put o.dst v) V) : wpList P ops Q (o :: rest) a w := by
  refine wpList_plain hg fun K hK => ?_
  unfold Oper.wp execOp
  simp only [ho, resolve, invoke, builtin, Sem.run_bind, Sem.run_pure, Result.andThen_ok, List.map_toArray, List.map_cons, List.map_nil, hr]
  exact hK _ _ h
/-- How a copy is told. -/
def Cloned (w : World) (k n : Nat) (f : Nat → Nat → Value) (e : Ending) (w' : World) : Prop := ∃ s', e = .returned s' ∧ SliceAt w' s' k n f ∧ Above w.heap.size s' ∧ Below w.heap.size w w'
theorem u_ct : Tryz.prog.underlying 132 = some (.slice 147) := by kernel_rfl
theorem u_ca : Tryz.prog.underlying 86 = some (.slice 134) := by kernel_rfl
theorem info_of {t : TypeId} {k b z : Nat} (h : (Tryz.prog.info? t).map (fun i => (i.size, i.bytes, i.zero.map (·.cells.size))) = some (k, b, some z)) :
    ∃ i, Tryz.prog.info? t = some i ∧ i.size = k ∧ i.bytes = b ∧ ∃ v, i.zero = some v ∧ v.cells.size = z := by
  cases hi : Tryz.prog.info? t with
  | none => rw [hi] at h; cases h
  | some i =>
    rw [hi] at h
    simp only [Option.map_some, Option.some.injEq, Prod.mk.injEq] at h
    obtain ⟨h1, h2, h3⟩ := h
    cases hz : i.zero with
    | none => rw [hz] at h3; cases h3
    | some v =>
      rw [hz] at h3
      exact ⟨i, rfl, h1, h2, v, hz, by simpa using h3⟩
theorem nil_ct (V : World) : (binOp BinOp.eql 132 (.slice none 0 0) (.slice none 0 0)).run Tryz.prog V = .ok (.bool true) V := by kernel_rfl
theorem not_ct (a : Addr) (n c : Nat) (V : World) : (binOp BinOp.eql 132 (.slice (some a) n c) (.slice none 0 0)).run Tryz.prog V = .ok (.bool false) V := by kernel_rfl
theorem info_ct : ∃ i, Tryz.prog.info? 147 = some i ∧ i.size = 2 ∧ i.bytes = 16 ∧ ∃ v, i.zero = some v ∧ v.cells.size = 2 := info_of (by kernel_rfl)
theorem nil_ca (V : World) : (binOp BinOp.eql 86 (.slice none 0 0) (.slice none 0 0)).run Tryz.prog V = .ok (.bool true) V := by kernel_rfl
theorem not_ca (a : Addr) (n c : Nat) (V : World) : (binOp BinOp.eql 86 (.slice (some a) n c) (.slice none 0 0)).run Tryz.prog V = .ok (.bool false) V := by kernel_rfl
theorem info_ca : ∃ i, Tryz.prog.info? 134 = some i ∧ i.size = 12 ∧ i.bytes = 152 ∧ ∃ v, i.zero = some v ∧ v.cells.size = 12 := info_of (by kernel_rfl)

end Go.Proofs.YthofogokpolhdaaGreatDoor.Atoms

namespace Go.Proofs.YthofogokpolhdaaGreatDoor.Atoms
open Go.RowKit
set_option linter.unusedVariables false
set_option linter.unusedSimpArgs false

/-- Each place has a slice of its terms. -/
def TermsAll (w : World) (rows : List Row) (S : Nat → Value) : Prop := ∀ i, i < rows.length → TermsAt w (S i) (rows.getD i default).ts
theorem TermsAll.go {w w' : World} {rows : List Row} {S : Nat → Value} (h : TermsAll w rows S) (hb : Below w.heap.size w w') : TermsAll w' rows S := fun i hi => (h i hi).go hb
/-- The slice s holds these atoms. -/
def AtomsSl (w : World) (s : Value) (rows : List Row) (S : Nat → Value) : Prop := SliceAt w s 12 rows.length (cellA rows S) ∧ TermsAll w rows S
theorem AtomsSl.go {w w' : World} {s : Value} {rows : List Row} {S : Nat → Value} (h : AtomsSl w s rows S) (hb : Below w.heap.size w w') : AtomsSl w' s rows S := ⟨SliceAt.go h.1 hb, h.2.go hb⟩
/-- Rows as many, and as great, as a memory bears. -/
structure Fits (rows : List Row) : Prop where
  len : rows.length ≤ 1000000
  ts : ∀ i, (rows.getD i default).ts.length ≤ 1000000
  fine : ∀ i, (rows.getD i default).Fine
theorem cell_one {w : World} {rows : List Row} {S : Nat → Value} (h : TermsAll w rows S) : ∀ i, i < rows.length → ∀ j, j < 12 → (cellA rows S i j).oneCell' = true := by
  intro i hi j hj
  obtain ⟨o, c, hs⟩ := SliceAt.slice (h i hi)
  unfold cellA Row.cell Row.cs
  rw [hs]
  match j, hj with
  | 0, _ => rfl
  | 1, _ => rfl
  | 2, _ => rfl
  | 3, _ => rfl
  | 4, _ => rfl
  | 5, _ => rfl
  | 6, _ => rfl
  | 7, _ => rfl
  | 8, _ => rfl
  | 9, _ => rfl
  | 10, _ => rfl
  | 11, _ => rfl
theorem term_one (ts : List (Int × Int)) : ∀ i, i < ts.length → ∀ j, j < 2 → (cellT ts i j).oneCell' = true := by
  intro i hi j hj
  unfold cellT termCell
  split <;> rfl
/-- With one slice another one. -/
def putS (S : Nat → Value) (k : Nat) (s : Value) : Nat → Value := fun i => if i = k then s else S i
theorem upd_slice (rows : List Row) (S : Nat → Value) (k : Nat) (s : Value) : ∀ i, i < rows.length → ∀ j, j < 12 → upd (cellA rows S) k 11 s i j = cellA rows (putS S k s) i j := by
  intro i hi j hj
  unfold upd
  by_cases e : i = k ∧ j = 11
  · rw [if_pos e]
    obtain ⟨rfl, rfl⟩ := e
    simp [cellA, Row.cell, Row.cs, putS]
  · rw [if_neg e]
    unfold cellA putS
    by_cases e2 : i = k
    · rw [if_pos e2]
      have hj11 : j ≠ 11 := fun h => e ⟨e2, h⟩
      unfold Row.cell Row.cs
      match j, hj, hj11 with
      | 0, _, _ => rfl
      | 1, _, _ => rfl
      | 2, _, _ => rfl
      | 3, _, _ => rfl
      | 4, _, _ => rfl
      | 5, _, _ => rfl
      | 6, _, _ => rfl
      | 7, _, _ => rfl
      | 8, _, _ => rfl
      | 9, _, _ => rfl
      | 10, _, _ => rfl
      | 11, _, h => exact absurd rfl h
    · rw [if_neg e2]
/-- How the world stands in Each: the box of the copy at ob, the copy, what was copied of its terms. -/
structure EachI (w v : World) (ob : Nat) (s : Value) (rows : List Row) (T : Nat → Value) (k : Nat) : Prop where
  at_ : AtomsSl v s rows T
  above : Above w.heap.size s
  made : ∀ i, i < k → Above w.heap.size (T i)
  box : v.cell? ⟨ob, 0, none⟩ = some s
  ob : w.heap.size ≤ ob ∧ ob < v.heap.size
  below : Below w.heap.size w v
theorem EachI.go {w v v' : World} {ob : Nat} {s : Value} {rows : List Row} {T : Nat → Value} {k : Nat} (h : EachI w v ob s rows T k) (hb : Below v.heap.size v v') : EachI w v' ob s rows T k :=
  ⟨h.at_.go hb, h.above, h.made, (hb.cell (p := ⟨ob, 0, none⟩) h.ob.2).trans h.box, ⟨h.ob.1, by have := h.ob.2; have := hb.size; omega⟩, h.below.trans (hb.mono h.below.size)⟩
theorem EachI.drew {w v : World} {ob : Nat} {s : Value} {rows : List Row} {T : Nat → Value} {k : Nat} (h : EachI w v ob s rows T k) : EachI w v.drew ob s rows T k :=
  h.go (Below.refl _ _).drew
/-- A round's store. -/
theorem EachI.put {w v : World} {ob b c : Nat} {rows : List Row} {T : Nat → Value} {k : Nat} (h : EachI w v ob (.slice (some ⟨b, 0, none⟩) rows.length c) rows T k) (hk : k < rows.length) {s' : Value} (hs : TermsAt v s' (rows.getD k default).ts) (ha : Above w.heap.size s') :
    EachI w (v.setCell ⟨b, k * 12 + 11, none⟩ s') ob (.slice (some ⟨b, 0, none⟩) rows.length c) rows (putS T k s') (k + 1) := by
  obtain ⟨⟨hsl, hts⟩, hab, hm, hbx, hob, hB⟩ := h
  rcases hsl with ⟨h0, _⟩ | ⟨b', c', he, hc, hsp, hg⟩
  · omega
  injection he with e1 e2 e3
  injection e1 with e1
  injection e1 with e1
  subst e1 e3
  have hbw : w.heap.size ≤ b := hab _ _ _ rfl
  have hx : v.cell? ⟨b, 0, none⟩ = some (.string (bs (rows.getD 0 default).c0)) := by
    have := hg.1 0 (by omega) 0 (by omega)
    rw [Nat.zero_mul] at this
    exact this
  have hne : ob ≠ b := by
    intro e
    subst e
    rw [hbx] at hx
    cases hx
  refine ⟨⟨.inr ⟨b, c, rfl, hc, hsp.set _ _ _, ?_⟩, ?_⟩, hab, ?_, ?_, ?_, ?_⟩
  · exact (hg.set k 11 hk (by omega) s').ext (upd_slice rows T k s')
  · intro i hi
    unfold putS
    by_cases e : i = k
    · rw [if_pos e, e]
      exact hs.text hx _ _
    · rw [if_neg e]
      exact (hts i hi).text hx _ _
  · intro i hi
    unfold putS
    by_cases e : i = k
    · rw [if_pos e]; exact ha
    · rw [if_neg e]; exact hm i (by omega)
  · rw [World.cell?_setCell_other _ _ _ _ (by intro hh; injection hh with e1 e2; exact hne e1.symm)]
    exact hbx
  · rw [World.size_setCell]; exact hob
  · exact hB.setCell hbw _

theorem EachI.cells {w v : World} {ob b c : Nat} {rows : List Row} {T : Nat → Value} {k : Nat} (h : EachI w v ob (.slice (some ⟨b, 0, none⟩) rows.length c) rows T k) (hk : k < rows.length) :
    v.cell? ⟨ob, 0, none⟩ = some (.slice (some ⟨b, 0, none⟩) rows.length c) ∧ v.cell? ⟨b, k * 12 + 11, none⟩ = some (T k) := by
  refine ⟨h.box, ?_⟩
  rcases h.at_.1 with ⟨h0, _⟩ | ⟨b', c', he, hc, hsp, hg⟩
  · omega
  injection he with e1 e2 e3
  injection e1 with e1
  injection e1 with e1
  subst e1
  exact hg.1 k hk 11 (by omega)
theorem EachI.thaw {w v : World} {ob b c : Nat} {rows : List Row} {T : Nat → Value} {k : Nat} (h : EachI w v ob (.slice (some ⟨b, 0, none⟩) rows.length c) rows T k) (hk : k < rows.length) (j : Nat) : v.frozen? ⟨b, j, none⟩ = false := by
  rcases h.at_.1 with ⟨h0, _⟩ | ⟨b', c', he, hc, hsp, hg⟩
  · omega
  injection he with e1 e2 e3
  injection e1 with e1
  injection e1 with e1
  subst e1
  exact hg.2.1 j

end Go.Proofs.YthofogokpolhdaaGreatDoor.Atoms


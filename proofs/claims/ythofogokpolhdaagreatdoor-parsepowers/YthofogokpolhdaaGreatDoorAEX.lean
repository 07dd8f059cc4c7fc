/-
  A row of operations that read no memory: what they give, and which blocks they lay, is reckoned by one function, which the kernel runs. Rows of cells in memory; the table's rows; what is right about them, as plain functions. What is right about a table, as plain functions.
-/
import Derived.Test.YthofogokpolhdaaGreatDoorWRX
import Derived.Test.YthofogokpolhdaaGreatDoorFA
namespace Go.Proofs.YthofogokpolhdaaGreatDoor.Atoms
open Go.RowKit
set_option linter.unusedVariables false
set_option linter.unusedSimpArgs false

/-- The world with some blocks more. -/
def laid (w : World) (os : List Obj) : World := { w with heap := w.heap ++ os.toArray }
theorem laid_nil (w : World) : laid w [] = w := by simp [laid]
theorem laid_size (w : World) (os : List Obj) : (laid w os).heap.size = w.heap.size + os.length := by simp [laid]
theorem laid_push (w : World) (os : List Obj) (o : Obj) : { laid w os with heap := (laid w os).heap.push o } = laid w (os ++ [o]) := by
  simp only [laid]
  congr 1
  apply Array.ext'
  simp
theorem laid_alloc (w : World) (os : List Obj) (o : Obj) : (laid w os).alloc o = laid w (os ++ [o]) := laid_push w os o
theorem laid_laid (w : World) (os os' : List Obj) : laid (laid w os) os' = laid w (os ++ os') := by
  simp only [laid]
  congr 1
  apply Array.ext'
  simp
theorem laid_get (w : World) (os : List Obj) (i : Nat) : (laid w os).heap[w.heap.size + i]? = os[i]? := by
  simp only [laid]
  rw [Array.getElem?_append_right (by omega)]
  simp
theorem laid_alloc' (w : World) (o : Obj) : w.alloc o = laid w [o] := by
  have h := laid_alloc w [] o
  rwa [laid_nil] at h
theorem laid_cons (w : World) (o : Obj) (os : List Obj) : laid w (o :: os) = laid (w.alloc o) os := by
  have h := laid_laid w [o] os
  rw [← laid_alloc'] at h
  exact h.symm
theorem laid_below (w : World) (os : List Obj) : Below w.heap.size w (laid w os) := by
  induction os generalizing w with
  | nil => rw [laid_nil]; exact Below.refl _ _
  | cons o os ih =>
    rw [laid_cons]
    have h1 : Below w.heap.size w (w.alloc o) := (Below.refl _ _).alloc (Nat.le_refl _) o
    exact h1.trans ((ih (w.alloc o)).mono h1.size)

/-- What an operation gives that reads no memory; n: how many blocks there were. -/
def ev {α : Type} (P : Program) (n : Nat) : Sem α → List Obj → Option (α × List Obj)
  | .pure a, os => some (a, os)
  | .new o k, os => ev P n (k (n + os.length)) (os ++ [o])
  | .program k, os => ev P n (k P) os
  | _, _ => none
theorem ev_run {α : Type} {P : Program} (w : World) (s : Sem α) : ∀ (os : List Obj) (a : α) (os' : List Obj), ev P w.heap.size s os = some (a, os') → s.run P (laid w os) = .ok a (laid w os') := by
  induction s with
  | pure a => intro os a' os' h; simp only [ev, Option.some.injEq, Prod.mk.injEq] at h; obtain ⟨rfl, rfl⟩ := h; rfl
  | new o k ih =>
    intro os a' os' h
    simp only [ev] at h
    simp only [Sem.run]
    rw [laid_push, laid_size]
    exact ih _ _ _ _ h
  | program k ih =>
    intro os a' os' h
    simp only [ev] at h
    simp only [Sem.run]
    exact ih _ _ _ _ h
  | _ => intro os a' os' h; simp [ev] at h

/-- A row of operations; K: the calls whose answers are known. -/
def evOps (P : Program) (K : FuncId → Array Value → Option (Value × List Obj)) (n : Nat) : List Oper → Act → List Obj → Option (Act × List Obj)
  | [], a, os => some (a, os)
  | o :: r, a, os =>
    match o.guard with
    | some _ => none
    | none =>
      match ev P n (execOp a.eval o) os with
      | some (.value v, os') => evOps P K n r (a.put o.dst v) os'
      | some (.enter f args, os') =>
        match K f args with
        | some (v, os'') => evOps P K n r (a.put o.dst v) (os' ++ os'')
        | none => none
      | _ => none
/-- The calls whose answers are known answer so. -/
def Known (P : Program) (K : FuncId → Array Value → Option (Value × List Obj)) : Prop :=
  ∀ f args v os, K f args = some (v, os) → ∀ w, Calls P f args w fun e w' => e = .returned v ∧ w' = laid w os
theorem wpList_ev {P : Program} {K : FuncId → Array Value → Option (Value × List Obj)} (hK : Known P K) {ops : Array Oper} {Q : Exit → Act → World → Prop} (w : World) (rest : List Oper) :
    ∀ (pre : List Oper) (a : Act) (os : List Obj) (a' : Act) (os' : List Obj), evOps P K w.heap.size pre a os = some (a', os') → wpList P ops Q rest a' (laid w os') → wpList P ops Q (pre ++ rest) a (laid w os) := by
  intro pre
  induction pre with
  | nil =>
    intro a os a' os' h hr
    simp only [evOps, Option.some.injEq, Prod.mk.injEq] at h
    obtain ⟨rfl, rfl⟩ := h
    exact hr
  | cons o r ih =>
    intro a os a' os' h hr
    unfold evOps at h
    split at h
    · cases h
    · rename_i hg
      refine wpList_plain hg fun C hC => ?_
      unfold Oper.wp
      split at h
      · rename_i v os1 he
        rw [ev_run w _ _ _ _ he]
        exact hC _ _ (ih _ _ _ _ h hr)
      · rename_i f args os1 he
        rw [ev_run w _ _ _ _ he]
        split at h
        · rename_i v os2 hk
          refine (hK _ _ _ _ hk _).mono ?_
          rintro e w' ⟨rfl, rfl⟩
          rw [laid_laid]
          exact hC _ _ (ih _ _ _ _ h hr)
        · cases h
      · cases h

end Go.Proofs.YthofogokpolhdaaGreatDoor.Atoms

namespace Go.Proofs.YthofogokpolhdaaGreatDoor.Atoms
open Go.RowKit
set_option linter.unusedVariables false
set_option linter.unusedSimpArgs false

/-! ### Rows of cells -/

/-- In the world w the block b begins with n rows of k cells: f i j is the cell j of row i. -/
def Grid (w : World) (b k n : Nat) (f : Nat → Nat → Value) : Prop :=
  (∀ i, i < n → ∀ j, j < k → w.cell? ⟨b, i * k + j, none⟩ = some (f i j)) ∧ (∀ j, w.frozen? ⟨b, j, none⟩ = false) ∧ b < w.heap.size
theorem frozen_of_block {w w' : World} {b : Nat} (h : w'.heap[b]? = w.heap[b]?) (j : Nat) : w'.frozen? ⟨b, j, none⟩ = w.frozen? ⟨b, j, none⟩ := by
  simp only [World.frozen?, h]
theorem Grid.block {w w' : World} {b k n : Nat} {f : Nat → Nat → Value} (h : Grid w b k n f) (hs : w.heap.size ≤ w'.heap.size) (hb : w'.heap[b]? = w.heap[b]?) : Grid w' b k n f :=
  ⟨fun i hi j hj => (World.cell?_of_block (a := ⟨b, i * k + j, none⟩) hb).trans (h.1 i hi j hj), fun j => (frozen_of_block hb j).trans (h.2.1 j), by have := h.2.2; omega⟩
theorem Grid.go {w w' : World} {b k n : Nat} {f : Nat → Nat → Value} (h : Grid w b k n f) (hb : Below w.heap.size w w') : Grid w' b k n f := h.block hb.size (hb.block b h.2.2)
theorem Grid.alloc {w : World} {b k n : Nat} {f : Nat → Nat → Value} (h : Grid w b k n f) (o : Obj) : Grid (w.alloc o) b k n f := h.go ((Below.refl _ _).alloc (Nat.le_refl _) o)
theorem Grid.drew {w : World} {b k n : Nat} {f : Nat → Nat → Value} (h : Grid w b k n f) : Grid w.drew b k n f := h
theorem Grid.other {w : World} {b k n : Nat} {f : Nat → Nat → Value} (h : Grid w b k n f) (b' i : Nat) (u : Value) (hn : b' ≠ b) : Grid (w.setCell ⟨b', i, none⟩ u) b k n f :=
  h.block (by rw [World.size_setCell]; exact Nat.le_refl _) (Below.heap_setCell w ⟨b', i, none⟩ u b (fun e => hn e.symm))
/-- With one cell another one. -/
def upd (f : Nat → Nat → Value) (i j : Nat) (u : Value) : Nat → Nat → Value := fun i' j' => if i' = i ∧ j' = j then u else f i' j'
theorem place_inj {k i j i' j' : Nat} (hj : j < k) (hj' : j' < k) (h : i * k + j = i' * k + j') : i = i' ∧ j = j' := by
  have hk : 0 < k := by omega
  have h1 : (i * k + j) / k = i := by rw [Nat.add_comm, Nat.add_mul_div_right _ _ hk, Nat.div_eq_of_lt hj]; omega
  have h2 : (i' * k + j') / k = i' := by rw [Nat.add_comm, Nat.add_mul_div_right _ _ hk, Nat.div_eq_of_lt hj']; omega
  rw [h] at h1
  have e : i = i' := h1.symm.trans h2
  subst e
  exact ⟨rfl, by omega⟩
theorem Grid.set {w : World} {b k n : Nat} {f : Nat → Nat → Value} (h : Grid w b k n f) (i j : Nat) (hi : i < n) (hj : j < k) (u : Value) : Grid (w.setCell ⟨b, i * k + j, none⟩ u) b k n (upd f i j u) := by
  have hc := h.1 i hi j hj
  refine ⟨fun i' hi' j' hj' => ?_, fun j' => ?_, ?_⟩
  · unfold upd
    by_cases e : i' = i ∧ j' = j
    · rw [if_pos e]
      obtain ⟨rfl, rfl⟩ := e
      exact World.cell?_setCell_same _ _ _ hc
    · rw [if_neg e, World.cell?_setCell_other _ _ _ _ (by intro hh; injection hh with e1 e2; exact e (place_inj hj' hj e2.symm)), h.1 i' hi' j' hj']
  · rw [World.frozen?_setCell]; exact h.2.1 j'
  · rw [World.size_setCell]; exact h.2.2
theorem Grid.ext {w : World} {b k n : Nat} {f g : Nat → Nat → Value} (h : Grid w b k n f) (e : ∀ i, i < n → ∀ j, j < k → f i j = g i j) : Grid w b k n g :=
  ⟨fun i hi j hj => (h.1 i hi j hj).trans (by rw [e i hi j hj]), h.2⟩
theorem Grid.short {w : World} {b k n : Nat} {f : Nat → Nat → Value} (h : Grid w b k n f) {m : Nat} (hm : m ≤ n) : Grid w b k m f :=
  ⟨fun i hi j hj => h.1 i (by omega) j hj, h.2⟩
/-- All its cells, one behind the other. -/
def flat (k n : Nat) (f : Nat → Nat → Value) : List Value := (List.range (n * k)).map fun t => f (t / k) (t % k)
theorem flat_length (k n : Nat) (f : Nat → Nat → Value) : (flat k n f).length = n * k := by simp [flat]
theorem flat_get {k n : Nat} {f : Nat → Nat → Value} {t : Nat} (h : t < n * k) : (flat k n f)[t]? = some (f (t / k) (t % k)) := by simp [flat, h]
theorem flat_at {k n : Nat} {f : Nat → Nat → Value} {i j : Nat} (hi : i < n) (hj : j < k) : (flat k n f)[i * k + j]? = some (f i j) := by
  have hk : 0 < k := by omega
  have hlt : i * k + j < n * k := by
    have : (i + 1) * k ≤ n * k := Nat.mul_le_mul_right k hi
    rw [Nat.add_mul] at this; omega
  rw [flat_get hlt, Nat.add_comm (i * k) j, Nat.add_mul_div_right _ _ hk, Nat.div_eq_of_lt hj, Nat.add_mul_mod_self_right, Nat.mod_eq_of_lt hj]
  simp
theorem Grid.flat {w : World} {b k n : Nat} {f : Nat → Nat → Value} (h : Grid w b k n f) (hk : 0 < k) (t : Nat) (u : Value) (ht : (Atoms.flat k n f)[t]? = some u) : w.cell? ⟨b, t, none⟩ = some u := by
  have hlt : t < n * k := by
    have := (List.getElem?_eq_some_iff.1 ht).1
    rwa [flat_length] at this
  rw [flat_get hlt] at ht
  have := h.1 (t / k) ((Nat.div_lt_iff_lt_mul hk).2 hlt) (t % k) (Nat.mod_lt _ hk)
  rw [Nat.mul_comm, Nat.div_add_mod] at this
  rw [this, ht]
/-- A new block. -/
theorem Grid.new (w : World) (t : TypeId) (k n : Nat) (f : Nat → Nat → Value) (cs : Array Value) (h : ∀ i, i < n → ∀ j, j < k → cs[i * k + j]? = some (f i j)) : Grid (w.alloc (.cells cs t)) w.heap.size k n f := by
  refine ⟨fun i hi j hj => ?_, fun j => ?_, ?_⟩
  · rw [← h i hi j hj]
    simp [go_sem]
  all_goals simp [go_sem]
theorem Grid.old {w : World} {b k n : Nat} {f : Nat → Nat → Value} {cs : Array Value} {t : TypeId} (hb : w.heap[b]? = some (.cells cs t)) (h : ∀ i, i < n → ∀ j, j < k → cs[i * k + j]? = some (f i j)) : Grid w b k n f := by
  refine ⟨fun i hi j hj => ?_, fun j => ?_, (Array.getElem?_eq_some_iff.1 hb).1⟩
  · rw [← h i hi j hj]
    simp [World.cell?, hb]
  · simp [World.frozen?, hb]

/-! ### The table's rows -/

/-- A text of these letters. -/
def bs (l : List UInt8) : ByteArray := ⟨l.toArray⟩
theorem bs_size (l : List UInt8) : (bs l).size = l.length := List.size_toArray
theorem bs_of (s : ByteArray) : bs s.data.toList = s := by
  cases s
  simp [bs]

/-- An atom. -/
structure Row where
  c0 : List UInt8
  c1 : List UInt8
  c2 : List UInt8
  c3 : List UInt8
  c4 : List UInt8
  m : Bool
  tag : Int
  base : Int
  num : Int
  den : Int
  ten : Int
  ts : List (Int × Int)
  deriving Inhabited
/-- A prefix. -/
structure Pre where
  c0 : List UInt8
  c1 : List UInt8
  c2 : List UInt8
  c3 : List UInt8
  c4 : List UInt8
  ten : Int
  deriving Inhabited
/-- An atom's cells; s: the slice of its terms. -/
def Row.cs (r : Row) (s : Value) : Array Value := #[.string (bs r.c0), .string (bs r.c1), .string (bs r.c2), .string (bs r.c3), .string (bs r.c4), .bool r.m, .int .i64 r.tag, .int .i64 r.base, .int .i64 r.num, .int .i64 r.den, .int .i64 r.ten, s]
def Pre.cs (r : Pre) : Array Value := #[.string (bs r.c0), .string (bs r.c1), .string (bs r.c2), .string (bs r.c3), .string (bs r.c4), .int .i64 r.ten]
/-- The cell j of an atom. -/
def Row.cell (r : Row) (s : Value) (j : Nat) : Value := (r.cs s)[j]?.getD undef
def Pre.cell (r : Pre) (j : Nat) : Value := r.cs[j]?.getD undef
def termCell (t : Int × Int) (j : Nat) : Value := if j = 0 then .int .i64 t.1 else .int .i64 t.2
def cellA (rows : List Row) (S : Nat → Value) (i j : Nat) : Value := (rows.getD i default).cell (S i) j
def cellP (ps : List Pre) (i j : Nat) : Value := (ps.getD i default).cell j
def cellT (ts : List (Int × Int)) (i j : Nat) : Value := termCell (ts.getD i default) j

/-- The block b has m cells, or more. -/
def Spare (w : World) (b m : Nat) : Prop := ∀ j, j < m → (w.cell? ⟨b, j, none⟩).isSome = true
theorem Spare.block {w w' : World} {b m : Nat} (h : Spare w b m) (hb : w'.heap[b]? = w.heap[b]?) : Spare w' b m := fun j hj => by
  rw [World.cell?_of_block (a := ⟨b, j, none⟩) hb]
  exact h j hj
theorem Spare.set {w : World} {b m : Nat} (h : Spare w b m) (b' i : Nat) (u : Value) : Spare (w.setCell ⟨b', i, none⟩ u) b m := fun j hj => by
  have := h j hj
  by_cases e : (⟨b', i, none⟩ : Addr) = ⟨b, j, none⟩
  · obtain ⟨x, hx⟩ := Option.isSome_iff_exists.1 this
    rw [e, World.cell?_setCell_same _ _ _ hx]; rfl
  · rw [World.cell?_setCell_other _ _ _ _ e]
    exact this
theorem Spare.of_cells {w : World} {b : Nat} {cs : Array Value} {t : TypeId} (hb : w.heap[b]? = some (.cells cs t)) : Spare w b cs.size := fun j hj => by
  simp [World.cell?, hb, hj]
/-- The slice s holds n rows of k cells. -/
def SliceAt (w : World) (s : Value) (k n : Nat) (f : Nat → Nat → Value) : Prop :=
  (n = 0 ∧ s = .slice none 0 0) ∨ ∃ b c, s = .slice (some ⟨b, 0, none⟩) n c ∧ n ≤ c ∧ Spare w b (c * k) ∧ Grid w b k n f
theorem SliceAt.go {w w' : World} {s : Value} {k n : Nat} {f : Nat → Nat → Value} (h : SliceAt w s k n f) (hb : Below w.heap.size w w') : SliceAt w' s k n f := by
  rcases h with h | ⟨b, c, hs, hc, hm, hg⟩
  · exact .inl h
  · exact .inr ⟨b, c, hs, hc, hm.block (hb.block b hg.2.2), hg.go hb⟩
theorem SliceAt.slice {w : World} {s : Value} {k n : Nat} {f : Nat → Nat → Value} (h : SliceAt w s k n f) : ∃ o c, s = .slice o n c := by
  rcases h with ⟨rfl, hs⟩ | ⟨b, c, hs, hc, hm, hg⟩
  · exact ⟨_, _, hs⟩
  · exact ⟨_, _, hs⟩
theorem SliceAt.ext {w : World} {s : Value} {k n : Nat} {f g : Nat → Nat → Value} (h : SliceAt w s k n f) (e : ∀ i, i < n → ∀ j, j < k → f i j = g i j) : SliceAt w s k n g := by
  rcases h with h | ⟨b, c, hs, hc, hm, hg⟩
  · exact .inl h
  · exact .inr ⟨b, c, hs, hc, hm, hg.ext e⟩
/-- The slice lies in a block from B on, or is nil. -/
def Above (B : Nat) (s : Value) : Prop := ∀ a n c, s = .slice (some a) n c → B ≤ a.block
theorem Above.mono {B B' : Nat} {s : Value} (h : Above B s) (hB : B' ≤ B) : Above B' s := fun a n c e => Nat.le_trans hB (h a n c e)
/-- The slice s holds these terms. -/
def TermsAt (w : World) (s : Value) (ts : List (Int × Int)) : Prop := SliceAt w s 2 ts.length (cellT ts)
theorem TermsAt.go {w w' : World} {s : Value} {ts : List (Int × Int)} (h : TermsAt w s ts) (hb : Below w.heap.size w w') : TermsAt w' s ts := SliceAt.go h hb
/-- The block b holds these atoms. -/
def AtomsAt (w : World) (b : Nat) (rows : List Row) (S : Nat → Value) : Prop :=
  Grid w b 12 rows.length (cellA rows S) ∧ ∀ i, i < rows.length → TermsAt w (S i) (rows.getD i default).ts
theorem AtomsAt.go {w w' : World} {b : Nat} {rows : List Row} {S : Nat → Value} (h : AtomsAt w b rows S) (hb : Below w.heap.size w w') : AtomsAt w' b rows S :=
  ⟨h.1.go hb, fun i hi => (h.2 i hi).go hb⟩
/-- Terms, wherever a cell is written whose block begins with a text. -/
theorem TermsAt.text {w : World} {s : Value} {ts : List (Int × Int)} (h : TermsAt w s ts) {b : Nat} {x : ByteArray} (hx : w.cell? ⟨b, 0, none⟩ = some (.string x)) (i : Nat) (u : Value) : TermsAt (w.setCell ⟨b, i, none⟩ u) s ts := by
  rcases h with h | ⟨b', c, hs, hc, hm, hg⟩
  · exact .inl h
  · refine .inr ⟨b', c, hs, hc, hm.set _ _ _, ?_⟩
    by_cases h0 : ts.length = 0
    · rw [h0] at hg ⊢
      refine ⟨fun i hi => absurd hi (by omega), fun j => ?_, ?_⟩
      · rw [World.frozen?_setCell]; exact hg.2.1 j
      · rw [World.size_setCell]; exact hg.2.2
    · refine hg.other b i u fun e => ?_
      subst e
      have := hg.1 0 (by omega) 0 (by omega)
      simp only [Nat.zero_mul, Nat.add_zero] at this
      rw [hx] at this
      simp [cellT, termCell] at this

end Go.Proofs.YthofogokpolhdaaGreatDoor.Atoms

namespace Go.Proofs.YthofogokpolhdaaGreatDoor.Atoms
open Go.RowKit
set_option linter.unusedVariables false
set_option linter.unusedSimpArgs false

/-- A letter of codes that may stand in those of a notation. -/
def letterZ (n b : Int) : Bool :=
  if 97 ≤ b ∧ b ≤ 122 then decide (n ≠ 2 ∧ n ≠ 4) else if 65 ≤ b ∧ b ≤ 90 then true else decide (b = 37 ∨ b = 39 ∨ b = 95 ∨ b = 91 ∨ b = 93)
/-- The letter at a place, 0 behind the end. -/
def at0 (s : List UInt8) (i : Nat) : Int := ((s.getD i 0).toNat : Int)
def lettersB (n : Int) (s : List UInt8) : Bool := s.all fun c => letterZ n (c.toNat : Int)
/-- A code of a notation. -/
def codeB (n : Int) (s : List UInt8) : Bool := decide (1 ≤ s.length) && (decide (s.length ≤ 8) && lettersB n s)
/-- A code as a key. -/
def keyOf (n : Int) (s : List UInt8) : List Int := [n, at0 s 0, at0 s 1, at0 s 2, at0 s 3, at0 s 4, at0 s 5, at0 s 6, at0 s 7]
def keyV (k : List Int) : Value := .agg (k.map (Value.int .u8)).toArray
def noKey : List Int := [0, 0, 0, 0, 0, 0, 0, 0, 0]
/-- As far as it is made: k letters. -/
def upto (s : List UInt8) (k i : Nat) : Int := if i < k then at0 s i else 0

/-- One more row's codes: those from notation n on. -/
def addFrom (K : List (List Int)) : Int → List (List UInt8) → Option (List (List Int))
  | _, [] => some K
  | n, s :: r =>
    if s = [] then addFrom K (n + 1) r
    else if codeB n s = true ∧ keyOf n s ∉ K then addFrom (K ++ [keyOf n s]) (n + 1) r else none
def addP (K : List (List Int)) (l : List (List UInt8)) : Option (List (List Int)) := if l.headD [] = [] then none else addFrom K 1 l
def Row.codes (r : Row) : List (List UInt8) := [r.c0, r.c1, r.c2, r.c3, r.c4]
def Pre.codes (r : Pre) : List (List UInt8) := [r.c0, r.c1, r.c2, r.c3, r.c4]

/-- All of an atom is right but its codes, and what its terms are. -/
def worthB (r : Row) : Bool :=
  if r.tag < 0 ∨ 99 < r.tag then false
  else if 0 ≤ r.base ∧ r.base < 7 then decide (r.num = 1 ∧ r.den = 1 ∧ r.ten = 0 ∧ r.tag = 0 ∧ r.ts.length = 0)
  else if r.base ≠ -1 ∨ 9 < r.ts.length then false
  else decide ((Frac.makeG r.num r.den r.ten).e = 0 ∧ (Frac.makeG r.num r.den r.ten).n ≠ 0)
/-- A term is a power of one of the plain atoms ahead. -/
def termB (rows : List Row) (i : Nat) (t : Int × Int) : Bool :=
  if t.1 < 0 ∨ (i : Int) ≤ t.1 ∨ (rows.getD t.1.toNat default).tag ≠ 0 then false else decide (t.2 ≠ 0 ∧ -9 ≤ t.2 ∧ t.2 ≤ 9)
def rowB (rows : List Row) (i : Nat) : Bool := worthB (rows.getD i default) && (rows.getD i default).ts.all (termB rows i)
/-- The first atom that is not right, from place i on, with m left; and the codes that were there. -/
def wrongA (rows : List Row) : Nat → Nat → List (List Int) → Int
  | 0, _, _ => -1
  | m + 1, i, K =>
    match addP K (rows.getD i default).codes with
    | none => i
    | some K' => if rowB rows i then wrongA rows m (i + 1) K' else i
def wrongP (ps : List Pre) : Nat → Nat → List (List Int) → Int
  | 0, _, _ => -1
  | m + 1, i, K =>
    match addP K (ps.getD i default).codes with
    | none => i
    | some K' => if -30 ≤ (ps.getD i default).ten ∧ (ps.getD i default).ten ≤ 30 then wrongP ps m (i + 1) K' else i
/-- P5.2. -/
def checkT (rows : List Row) (ps : List Pre) : Int :=
  if 100 < rows.length ∨ 30 < ps.length then (rows.length + ps.length : Nat)
  else if wrongA rows rows.length 0 [] ≠ -1 then wrongA rows rows.length 0 []
  else if wrongP ps ps.length 0 [] ≠ -1 then (rows.length : Int) + wrongP ps ps.length 0 []
  else -1

end Go.Proofs.YthofogokpolhdaaGreatDoor.Atoms


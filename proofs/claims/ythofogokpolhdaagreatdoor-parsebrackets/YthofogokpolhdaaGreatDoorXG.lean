/-
  Rows of cells in memory, append for rows of any kind, rows of tokens.
-/
import Derived.Test.YthofogokpolhdaaGreatDoorPAX
import Derived.Test.YthofogokpolhdaaGreatDoorY2
import Derived.Test.YthofogokpolhdaaGreatDoorARX
import Derived.Deep.MidRow
import Derived.Deep.AppendSrc
import Derived.Shelf.Abstract
namespace Go.Proofs.YthofogokpolhdaaGreatDoor.Toks
open Go.RowKit Go.Shelf
open Go.Proofs.YthofogokpolhdaaGreatDoor.Style (bs bs_size)
set_option linter.unusedVariables false
set_option linter.unusedSimpArgs false

/-- In the world w the block b begins with n rows of k cells: f i j is the cell j of row i. -/
def Grid (w : World) (b k n : Nat) (f : Nat → Nat → Value) : Prop :=
  (∀ i, i < n → ∀ j, j < k → w.cell? ⟨b, i * k + j, none⟩ = some (f i j)) ∧ (∀ j, w.frozen? ⟨b, j, none⟩ = false) ∧ b < w.heap.size
theorem frozen_of_block {w w' : World} {b : Nat} (h : w'.heap[b]? = w.heap[b]?) (j : Nat) : w'.frozen? ⟨b, j, none⟩ = w.frozen? ⟨b, j, none⟩ := by
  simp only [World.frozen?, h]
theorem Grid.block {w w' : World} {b k n : Nat} {f : Nat → Nat → Value} (h : Grid w b k n f) (hs : w.heap.size ≤ w'.heap.size) (hb : w'.heap[b]? = w.heap[b]?) : Grid w' b k n f :=
  ⟨fun i hi j hj => (World.cell?_of_block (a := ⟨b, i * k + j, none⟩) hb).trans (h.1 i hi j hj), fun j => (frozen_of_block hb j).trans (h.2.1 j), by have := h.2.2; omega⟩
theorem Grid.go {w w' : World} {b k n : Nat} {f : Nat → Nat → Value} (h : Grid w b k n f) (hb : Below w.heap.size w w') : Grid w' b k n f := h.block hb.size (hb.block b h.2.2)
theorem Grid.alloc {w : World} {b k n : Nat} {f : Nat → Nat → Value} (h : Grid w b k n f) (o : Obj) : Grid (w.alloc o) b k n f := h.go ((Below.refl _ _).alloc (Nat.le_refl _) o)
theorem Grid.drew {w : World} {b k n : Nat} {f : Nat → Nat → Value} (h : Grid w b k n f) : Grid w.drew b k n f := h
theorem Grid.other {w : World} {b k n : Nat} {f : Nat → Nat → Value} (h : Grid w b k n f) (b' i : Nat) (u : Value) (hn : b' ≠ b) : Grid (w.setCell ⟨b', i, none⟩ u) b k n f :=
  h.block (by rw [World.size_setCell]; exact Nat.le_refl _) (Below.heap_setCell w ⟨b', i, none⟩ u b (fun e => hn e.symm))
/-- With one cell another one. -/
def upd (f : Nat → Nat → Value) (i j : Nat) (u : Value) : Nat → Nat → Value := fun i' j' => if i' = i ∧ j' = j then u else f i' j'
theorem place_inj {k i j i' j' : Nat} (hj : j < k) (hj' : j' < k) (h : i * k + j = i' * k + j') : i = i' ∧ j = j' := by
  have hk : 0 < k := by omega
  have h1 : (i * k + j) / k = i := by rw [Nat.add_comm, Nat.add_mul_div_right _ _ hk, Nat.div_eq_of_lt hj]; omega
  have h2 : (i' * k + j') / k = i' := by rw [Nat.add_comm, Nat.add_mul_div_right _ _ hk, Nat.div_eq_of_lt hj']; omega
  rw [h] at h1
  have e : i = i' := h1.symm.trans h2
  subst e
  exact ⟨rfl, by omega⟩
theorem Grid.set {w : World} {b k n : Nat} {f : Nat → Nat → Value} (h : Grid w b k n f) (i j : Nat) (hi : i < n) (hj : j < k) (u : Value) : Grid (w.setCell ⟨b, i * k + j, none⟩ u) b k n (upd f i j u) := by
  have hc := h.1 i hi j hj
  refine ⟨fun i' hi' j' hj' => ?_, fun j' => ?_, ?_⟩
  · unfold upd
    by_cases e : i' = i ∧ j' = j
    · rw [if_pos e]
      obtain ⟨rfl, rfl⟩ := e
      exact World.cell?_setCell_same _ _ _ hc
    · rw [if_neg e, World.cell?_setCell_other _ _ _ _ (by intro hh; injection hh with e1 e2; exact e (place_inj hj' hj e2.symm)), h.1 i' hi' j' hj']
  · rw [World.frozen?_setCell]; exact h.2.1 j'
  · rw [World.size_setCell]; exact h.2.2
theorem Grid.ext {w : World} {b k n : Nat} {f g : Nat → Nat → Value} (h : Grid w b k n f) (e : ∀ i, i < n → ∀ j, j < k → f i j = g i j) : Grid w b k n g :=
  ⟨fun i hi j hj => (h.1 i hi j hj).trans (by rw [e i hi j hj]), h.2⟩
theorem Grid.short {w : World} {b k n : Nat} {f : Nat → Nat → Value} (h : Grid w b k n f) {m : Nat} (hm : m ≤ n) : Grid w b k m f :=
  ⟨fun i hi j hj => h.1 i (by omega) j hj, h.2⟩
/-- All its cells, one behind the other. -/
def flat (k n : Nat) (f : Nat → Nat → Value) : List Value := (List.range (n * k)).map fun t => f (t / k) (t % k)
theorem flat_length (k n : Nat) (f : Nat → Nat → Value) : (flat k n f).length = n * k := by simp [flat]
theorem flat_get {k n : Nat} {f : Nat → Nat → Value} {t : Nat} (h : t < n * k) : (flat k n f)[t]? = some (f (t / k) (t % k)) := by simp [flat, h]
theorem flat_at {k n : Nat} {f : Nat → Nat → Value} {i j : Nat} (hi : i < n) (hj : j < k) : (flat k n f)[i * k + j]? = some (f i j) := by
  have hk : 0 < k := by omega
  have hlt : i * k + j < n * k := by
    have : (i + 1) * k ≤ n * k := Nat.mul_le_mul_right k hi
    rw [Nat.add_mul] at this; omega
  rw [flat_get hlt, Nat.add_comm (i * k) j, Nat.add_mul_div_right _ _ hk, Nat.div_eq_of_lt hj, Nat.add_mul_mod_self_right, Nat.mod_eq_of_lt hj]
  simp
theorem Grid.flat {w : World} {b k n : Nat} {f : Nat → Nat → Value} (h : Grid w b k n f) (hk : 0 < k) (t : Nat) (u : Value) (ht : (Toks.flat k n f)[t]? = some u) : w.cell? ⟨b, t, none⟩ = some u := by
  have hlt : t < n * k := by
    have := (List.getElem?_eq_some_iff.1 ht).1
    rwa [flat_length] at this
  rw [flat_get hlt] at ht
  have := h.1 (t / k) ((Nat.div_lt_iff_lt_mul hk).2 hlt) (t % k) (Nat.mod_lt _ hk)
  rw [Nat.mul_comm, Nat.div_add_mod] at this
  rw [this, ht]
/-- A new block. -/
theorem Grid.new (w : World) (t : TypeId) (k n : Nat) (f : Nat → Nat → Value) (cs : Array Value) (h : ∀ i, i < n → ∀ j, j < k → cs[i * k + j]? = some (f i j)) : Grid (w.alloc (.cells cs t)) w.heap.size k n f := by
  refine ⟨fun i hi j hj => ?_, fun j => ?_, ?_⟩
  · rw [← h i hi j hj]
    simp [go_sem]
  all_goals simp [go_sem]
theorem Grid.old {w : World} {b k n : Nat} {f : Nat → Nat → Value} {cs : Array Value} {t : TypeId} (hb : w.heap[b]? = some (.cells cs t)) (h : ∀ i, i < n → ∀ j, j < k → cs[i * k + j]? = some (f i j)) : Grid w b k n f := by
  refine ⟨fun i hi j hj => ?_, fun j => ?_, (Array.getElem?_eq_some_iff.1 hb).1⟩
  · rw [← h i hi j hj]
    simp [World.cell?, hb]
  · simp [World.frozen?, hb]

/-- The block b has m cells, or more. -/
def Spare (w : World) (b m : Nat) : Prop := ∀ j, j < m → (w.cell? ⟨b, j, none⟩).isSome = true
theorem Spare.block {w w' : World} {b m : Nat} (h : Spare w b m) (hb : w'.heap[b]? = w.heap[b]?) : Spare w' b m := fun j hj => by
  rw [World.cell?_of_block (a := ⟨b, j, none⟩) hb]
  exact h j hj
theorem Spare.set {w : World} {b m : Nat} (h : Spare w b m) (b' i : Nat) (u : Value) : Spare (w.setCell ⟨b', i, none⟩ u) b m := fun j hj => by
  have := h j hj
  by_cases e : (⟨b', i, none⟩ : Addr) = ⟨b, j, none⟩
  · obtain ⟨x, hx⟩ := Option.isSome_iff_exists.1 this
    rw [e, World.cell?_setCell_same _ _ _ hx]; rfl
  · rw [World.cell?_setCell_other _ _ _ _ e]
    exact this
theorem Spare.of_cells {w : World} {b : Nat} {cs : Array Value} {t : TypeId} (hb : w.heap[b]? = some (.cells cs t)) : Spare w b cs.size := fun j hj => by
  simp [World.cell?, hb, hj]
/-- The slice s holds n rows of k cells. -/
def SliceAt (w : World) (s : Value) (k n : Nat) (f : Nat → Nat → Value) : Prop :=
  (n = 0 ∧ s = .slice none 0 0) ∨ ∃ b c, s = .slice (some ⟨b, 0, none⟩) n c ∧ n ≤ c ∧ Spare w b (c * k) ∧ Grid w b k n f
theorem SliceAt.go {w w' : World} {s : Value} {k n : Nat} {f : Nat → Nat → Value} (h : SliceAt w s k n f) (hb : Below w.heap.size w w') : SliceAt w' s k n f := by
  rcases h with h | ⟨b, c, hs, hc, hm, hg⟩
  · exact .inl h
  · exact .inr ⟨b, c, hs, hc, hm.block (hb.block b hg.2.2), hg.go hb⟩
theorem SliceAt.slice {w : World} {s : Value} {k n : Nat} {f : Nat → Nat → Value} (h : SliceAt w s k n f) : ∃ o c, s = .slice o n c := by
  rcases h with ⟨rfl, hs⟩ | ⟨b, c, hs, hc, hm, hg⟩
  · exact ⟨_, _, hs⟩
  · exact ⟨_, _, hs⟩
theorem SliceAt.ext {w : World} {s : Value} {k n : Nat} {f g : Nat → Nat → Value} (h : SliceAt w s k n f) (e : ∀ i, i < n → ∀ j, j < k → f i j = g i j) : SliceAt w s k n g := by
  rcases h with h | ⟨b, c, hs, hc, hm, hg⟩
  · exact .inl h
  · exact .inr ⟨b, c, hs, hc, hm, hg.ext e⟩
/-- The slice lies in a block from B on, or is nil. -/
def Above (B : Nat) (s : Value) : Prop := ∀ a n c, s = .slice (some a) n c → B ≤ a.block
theorem Above.mono {B B' : Nat} {s : Value} (h : Above B s) (hB : B' ≤ B) : Above B' s := fun a n c e => Nat.le_trans hB (h a n c e)

/-- An append whose run is known. -/
theorem wpList_app {P : Program} {w : World} {ops : Array Oper} {rest : List Oper} {o : Oper} {a : Act} {Q : Exit → Act → World → Prop} (hg : o.guard = none) (s x : Operand) (t tx : TypeId)
    (ho : o.op = .call { callee := .builtin .append, args := #[s, x], argTypes := #[t, tx] }) {v : Value} {V : World} (hr : ∀ ty, (Builtin.append_ #[t, tx] ty #[a.eval s, a.eval x]).run P w = .ok v V)
    (h : wpList P ops Q rest (a.put o.dst v) V) : wpList P ops Q (o :: rest) a w := by
  refine wpList_plain hg fun K hK => ?_
  unfold Oper.wp execOp
  simp only [ho, resolve, invoke, builtin, Sem.run_bind, Sem.run_pure, Result.andThen_ok, List.map_toArray, List.map_cons, List.map_nil, hr]
  exact hK _ _ h

theorem info_of {t : TypeId} {k b z : Nat} (h : (Tryz.prog.info? t).map (fun i => (i.size, i.bytes, i.zero.map (·.cells.size))) = some (k, b, some z)) :
    ∃ i, Tryz.prog.info? t = some i ∧ i.size = k ∧ i.bytes = b ∧ ∃ v, i.zero = some v ∧ v.cells.size = z := by
  cases hi : Tryz.prog.info? t with
  | none => rw [hi] at h; cases h
  | some i =>
    rw [hi] at h
    simp only [Option.map_some, Option.some.injEq, Prod.mk.injEq] at h
    obtain ⟨h1, h2, h3⟩ := h
    cases hz : i.zero with
    | none => rw [hz] at h3; cases h3
    | some v =>
      rw [hz] at h3
      exact ⟨i, rfl, h1, h2, v, hz, by simpa using h3⟩

/-- Only the block b has turned. -/
structure Only (b : Nat) (w w' : World) : Prop where
  os : w'.os = w.os
  tape : w'.tape = w.tape
  output : w'.output = w.output
  size : w'.heap.size = w.heap.size
  block : ∀ k, k ≠ b → w'.heap[k]? = w.heap[k]?
theorem Only.refl (b : Nat) (w : World) : Only b w w := ⟨rfl, rfl, rfl, rfl, fun _ _ => rfl⟩
theorem Only.set {b : Nat} {w w' : World} (h : Only b w w') (i : Nat) (u : Value) : Only b w (w'.setCell ⟨b, i, none⟩ u) :=
  ⟨h.os, h.tape, h.output, (World.size_setCell _ _ _).trans h.size, fun k hk => (Below.heap_setCell w' ⟨b, i, none⟩ u k hk).trans (h.block k hk)⟩
theorem Only.below {b B : Nat} {w w' : World} (h : Only b w w') (hb : B ≤ b) : Below B w w' := ⟨h.os, h.tape, h.output, Nat.le_of_eq h.size.symm, fun k hk => h.block k (by omega)⟩

theorem size_cells (b : Nat) : ∀ (vs : List Value) (o : Nat) (w : World), (w.setCells b o vs).heap.size = w.heap.size
  | [], _, _ => rfl
  | v :: r, o, w => by show ((w.setCell ⟨b, o, none⟩ v).setCells b (o + 1) r).heap.size = _; rw [size_cells b r (o + 1) _, World.size_setCell]
theorem only_cells (b : Nat) : ∀ (vs : List Value) (o : Nat) (w w0 : World), Only b w0 w → Only b w0 (w.setCells b o vs)
  | [], _, _, _, h => h
  | v :: r, o, w, w0, h => only_cells b r (o + 1) _ w0 (h.set o v)
theorem Spare.cells {w : World} {b m : Nat} (h : Spare w b m) (b' : Nat) : ∀ (vs : List Value) (o : Nat), Spare (w.setCells b' o vs) b m := by
  intro vs
  induction vs generalizing w with
  | nil => intro o; exact h
  | cons v r ih => intro o; exact ih (h.set b' o v) (o + 1)
/-- More rows behind those that there are. -/
theorem Grid.append {w : World} {b k n m : Nat} {f g : Nat → Nat → Value} (h : Grid w b k n f) (hk : 0 < k) (hs : Spare w b ((n + m) * k)) :
    Grid (w.setCells b (n * k) (Toks.flat k m g)) b k (n + m) (fun i j => if i < n then f i j else g (i - n) j) := by
  have hl := flat_length k m g
  refine ⟨fun i hi j hj => ?_, fun j => ?_, ?_⟩
  · show _ = some (if i < n then f i j else g (i - n) j)
    by_cases hin : i < n
    · rw [if_pos hin, World.cell?_setCells_out]
      · exact h.1 i hin j hj
      · intro _ _
        left
        show i * k + j < n * k
        have : (i + 1) * k ≤ n * k := Nat.mul_le_mul_right k hin
        rw [Nat.add_mul] at this; omega
    · rw [if_neg hin]
      have e : i * k + j = n * k + ((i - n) * k + j) := by
        have : i * k = n * k + (i - n) * k := by rw [← Nat.add_mul]; congr 1; omega
        omega
      have hlt : (i - n) * k + j < (Toks.flat k m g).length := by
        rw [hl]
        have : (i - n + 1) * k ≤ m * k := Nat.mul_le_mul_right k (by omega)
        rw [Nat.add_mul] at this; omega
      rw [e, World.cell?_setCells_in b _ _ w (fun j' hj' => hs _ (by rw [hl] at hj'; rw [Nat.add_mul]; omega)) _ hlt]
      have := flat_at (k := k) (n := m) (f := g) (i := i - n) (j := j) (by omega) hj
      rw [List.getElem?_eq_getElem hlt] at this
      exact this
  · rw [World.frozen?_setCells]; exact h.2.1 j
  · rw [size_cells]; exact h.2.2

/-- Slices of type t hold things of type e, of k cells. -/
structure Elem (t e : TypeId) (k : Nat) : Prop where
  pos : 0 < k
  und : Tryz.prog.underlying t = some (.slice e)
  info : ∃ i, Tryz.prog.info? e = some i ∧ i.size = k ∧ i.bytes ≤ 1000 ∧ ∃ z, i.zero = some z ∧ z.cells.size = k
theorem elem_of {t e : TypeId} {k b : Nat} (hk : 0 < k) (hb : b ≤ 1000) (hu : Tryz.prog.underlying t = some (.slice e)) (h : (Tryz.prog.info? e).map (fun i => (i.size, i.bytes, i.zero.map (·.cells.size))) = some (k, b, some k)) : Elem t e k := by
  obtain ⟨i, h1, h2, h3, z, h4, h5⟩ := info_of h
  exact ⟨hk, hu, i, h1, h2, by omega, z, h4, h5⟩

/-- How far a slice of at most 2000 grows. -/
theorem cap_fits (n c : Nat) (hn : n ≤ 2000) (hc : c < n) : Builtin.nextslicecap n c ≤ 100000 := by
  unfold Builtin.nextslicecap
  by_cases h1 : n > 2 * c
  · rw [if_pos h1]; omega
  · rw [if_neg h1]
    by_cases h2 : c < 256
    · rw [if_pos h2]; omega
    · rw [if_neg h2]
      have hgrow : ∀ r c, c ≤ 2000 → Builtin.growBy n r c ≤ 100000 := by
        intro r
        induction r with
        | zero => intro c hc; show c ≤ _; omega
        | succ r ih =>
          intro c hc
          show (if c ≥ n then c else Builtin.growBy n r (c + (c + 768) / 4)) ≤ _
          split
          · omega
          · rename_i hlt
            by_cases hh : c + (c + 768) / 4 ≤ 2000
            · exact ih _ hh
            · have hge : c + (c + 768) / 4 ≥ n := by omega
              cases r with
              | zero => show c + (c + 768) / 4 ≤ _; omega
              | succ r =>
                show (if c + (c + 768) / 4 ≥ n then c + (c + 768) / 4 else _) ≤ _
                rw [if_pos hge]; omega
      exact hgrow _ c (by omega)

/-- The rows of a slice, to be put behind others. -/
theorem SliceAt.source {w : World} {s : Value} {t e : TypeId} {k n : Nat} {f : Nat → Nat → Value} (hE : Elem t e k) (h : SliceAt w s k n f) (h1 : ∀ i, i < n → ∀ j, j < k → (f i j).oneCell' = true) : Src Tryz.prog k t s n (flat k n f) w := by
  rcases h with ⟨rfl, rfl⟩ | ⟨b, c, rfl, hc, hm, hg⟩
  · have : flat k 0 f = [] := by simp [flat]
    rw [this]
    exact Src.ofNil w hE.und 0
  · refine Src.ofSlice w hE.und _ n c _ (by rw [flat_length]) (fun j u hu => ?_) (fun u hu => ?_)
    · rw [Addr.add_mid, Nat.zero_add]
      exact hg.flat hE.pos j u hu
    · obtain ⟨t', ht⟩ := List.getElem?_of_mem hu
      have hlt : t' < n * k := by have := (List.getElem?_eq_some_iff.1 ht).1; rw [flat_length] at this; exact this
      rw [flat_get hlt] at ht
      injection ht with ht
      rw [← ht]
      exact h1 _ ((Nat.div_lt_iff_lt_mul hE.pos).2 hlt) _ (Nat.mod_lt _ hE.pos)

/-- Two rows, one behind the other. -/
def both (n : Nat) (f g : Nat → Nat → Value) : Nat → Nat → Value := fun i j => if i < n then f i j else g (i - n) j

/-- What an append makes: either a new block, or the old one, written behind its rows. -/
structure Joined (w V : World) (s1 s : Value) (k n m : Nat) (f g : Nat → Nat → Value) : Prop where
  rows : SliceAt V s k (n + m) (both n f g)
  way : (∃ c, s = .slice (some ⟨w.heap.size, 0, none⟩) (n + m) c ∧ Below w.heap.size w V) ∨ (∃ b c, s1 = .slice (some ⟨b, 0, none⟩) n c ∧ s = .slice (some ⟨b, 0, none⟩) (n + m) c ∧ V = w.setCells b (n * k) (flat k m g))

theorem append_any {w : World} {t e : TypeId} {k n m c1 : Nat} {o1 : Option Addr} {s2 : Value} {f g : Nat → Nat → Value} (hE : Elem t e k) (hA : SliceAt w (.slice o1 n c1) k n f) (h1 : ∀ i, i < n → ∀ j, j < k → (f i j).oneCell' = true)
    (hB : Src Tryz.prog k t s2 m (flat k m g) w) (hn : n + m ≤ 2000) (h0 : 0 < n + m ∨ o1 ≠ none) :
    ∃ V s, (∀ ty, (Builtin.append_ #[t, t] ty #[.slice o1 n c1, s2]).run Tryz.prog w = .ok s V) ∧ Joined w V (.slice o1 n c1) s k n m f g := by
  obtain ⟨i, hi, hk, hby, z, hz, hzs⟩ := hE.info
  by_cases hroom : n + m ≤ c1
  · rcases hA with ⟨_, he⟩ | ⟨b, c, he, hc, hsp, hg⟩
    · injection he with e1 e2 e3
      rcases h0 with h0 | h0
      · omega
      · exact absurd e1 h0
    · injection he with e1 e2 e3
      subst e1 e3
      have hmul : (n + m) * k ≤ c1 * k := Nat.mul_le_mul_right k hroom
      have hj : SliceAt (w.setCells b (n * k) (flat k m g)) (.slice (some ⟨b, 0, none⟩) (n + m) c1) k (n + m) (both n f g) :=
        .inr ⟨b, c1, rfl, hroom, hsp.cells _ _ _, hg.append hE.pos (fun j' hj' => hsp j' (by omega))⟩
      refine ⟨_, _, fun ty => ?_, ⟨hj, .inr ⟨b, c1, rfl, rfl, rfl⟩⟩⟩
      have := run_append_room_src w t t ty e i hE.und hi b 0 n c1 s2 m (flat k m g) (by rw [hk]; exact hB) hroom (fun j' hj' => hsp _ (by
        rw [flat_length] at hj'
        rw [hk, Nat.zero_add]
        rw [Nat.add_mul] at hmul
        omega)) (fun j' _ => hg.2.1 _)
      rw [hk, Nat.zero_add] at this
      exact this
  · have hs1 := SliceAt.source hE hA h1
    have hrun := fun ty => run_append_grow_src w t t ty e i z hE.und hi hz o1 n c1 _ (by rw [hk]; exact hs1.cellsD) s2 m _ (by rw [hk]; exact hB) (by omega) (by omega) (by
      have h1 := cap_fits (n + m) c1 hn (by omega)
      have h2 := Nat.mul_le_mul h1 hby
      omega)
    have hl1 := flat_length k n f
    have hl2 := flat_length k m g
    have hge := grownCap_ge w (n + m) c1 e
    generalize hcap : grownCap w (n + m) c1 e = cap at hrun hge
    have hh := World.alloc_heap_new w.drew (.cells ((flat k n f ++ flat k m g).toArray ++ Builtin.zeroCells z.cells (cap - (n + m))) e)
    rw [show w.drew.heap.size = w.heap.size from rfl] at hh
    have hbel : Below w.heap.size w (w.drew.alloc (.cells ((flat k n f ++ flat k m g).toArray ++ Builtin.zeroCells z.cells (cap - (n + m))) e)) := (Below.refl _ _).drew.alloc (Nat.le_refl _) _
    refine ⟨_, _, hrun, ⟨.inr ⟨w.heap.size, cap, rfl, hge, ?_, ?_⟩, .inl ⟨cap, rfl, hbel⟩⟩⟩
    · have := Spare.of_cells hh
      refine fun j hj => this j ?_
      simp only [Array.size_append, List.size_toArray, List.length_append, hl1, hl2, Builtin.zeroCells, Array.size_map, Array.size_range, hzs]
      rw [← Nat.add_mul, ← Nat.add_mul, Nat.add_sub_cancel' hge]
      exact hj
    · refine Grid.old hh fun i' hi' j hj => ?_
      have hik : (i' + 1) * k ≤ (n + m) * k := Nat.mul_le_mul_right k hi'
      rw [Nat.add_mul, Nat.one_mul] at hik
      unfold both
      rw [Array.getElem?_append_left (by
        rw [List.size_toArray, List.length_append, hl1, hl2, ← Nat.add_mul]
        omega), List.getElem?_toArray]
      by_cases h : i' < n
      · rw [if_pos h, List.getElem?_append_left (by
          rw [hl1]
          have : (i' + 1) * k ≤ n * k := Nat.mul_le_mul_right k h
          rw [Nat.add_mul, Nat.one_mul] at this
          omega)]
        exact flat_at h hj
      · have hnk : n * k ≤ i' * k := Nat.mul_le_mul_right k (by omega)
        rw [if_neg h, List.getElem?_append_right (by rw [hl1]; omega), hl1]
        have e' : i' * k + j - n * k = (i' - n) * k + j := by rw [Nat.sub_mul]; omega
        rw [e']
        exact flat_at (by omega) hj

theorem one_slice (V : World) (e : TypeId) (k : Nat) (cs : Array Value) (g : Nat → Nat → Value) (hc : ∀ j, j < k → cs[j]? = some (g 0 j)) (hs : cs.size = k) : SliceAt (V.alloc (.cells cs e)) (.slice (some ⟨V.heap.size, 0, none⟩) 1 1) k 1 g := by
  refine .inr ⟨V.heap.size, 1, rfl, Nat.le_refl _, ?_, Grid.new V e k 1 g cs fun i hi j hj => ?_⟩
  · have := Spare.of_cells (World.alloc_heap_new V (.cells cs e))
    rw [hs] at this
    rw [Nat.one_mul]
    exact this
  · have : i = 0 := by omega
    subst this
    rw [Nat.zero_mul, Nat.zero_add]
    exact hc j hj

theorem cell_same {W W' : World} {b j : Nat} {v : Value} (hc : W.cell? ⟨b, j, none⟩ = some v) (h : W'.heap[b]? = W.heap[b]?) : W'.cell? ⟨b, j, none⟩ = some v := (World.cell?_of_block (a := ⟨b, j, none⟩) h).trans hc
theorem cell_lt {W : World} {b j : Nat} {v : Value} (hc : W.cell? ⟨b, j, none⟩ = some v) : b < W.heap.size := World.block_lt_of_cell? _ _ hc

/-- The block k has one cell alone. -/
def One (W : World) (k : Nat) : Prop := (W.cell? ⟨k, 0, none⟩).isSome = true ∧ W.cell? ⟨k, 1, none⟩ = none
theorem One.lt {W : World} {k : Nat} (h : One W k) : k < W.heap.size := by
  obtain ⟨v, hv⟩ := Option.isSome_iff_exists.1 h.1
  exact cell_lt hv
theorem One.same {W W' : World} {k : Nat} (h : One W k) (hb : W'.heap[k]? = W.heap[k]?) : One W' k :=
  ⟨by rw [World.cell?_of_block (a := ⟨k, 0, none⟩) hb]; exact h.1, by rw [World.cell?_of_block (a := ⟨k, 1, none⟩) hb]; exact h.2⟩
/-- The blocks of the package's variables that are read, and the boxes of one cell from lo on, are as they were; so are the books above l. -/
structure Kept (lo l : Nat) (V V' : World) : Prop where
  size : V.heap.size ≤ V'.heap.size
  glob : ∀ k, k < 3 → k < V.heap.size → V'.heap[k]? = V.heap[k]?
  one : ∀ k, lo ≤ k → One V k → V'.heap[k]? = V.heap[k]?
  book : ∀ k o, l < k → V.heap[k]? = some o → o.isCells = false → V'.heap[k]? = some o
theorem Kept.refl (lo l : Nat) (V : World) : Kept lo l V V := ⟨Nat.le_refl _, fun _ _ _ => rfl, fun _ _ _ => rfl, fun _ _ _ h _ => h⟩
theorem Kept.trans {lo l : Nat} {A B C : World} (h : Kept lo l A B) (k : Kept lo l B C) : Kept lo l A C :=
  ⟨Nat.le_trans h.size k.size, fun i h1 h2 => (k.glob i h1 (by have := h.size; omega)).trans (h.glob i h1 h2), fun i h1 h2 => (k.one i h1 (h2.same (h.one i h1 h2))).trans (h.one i h1 h2), fun i o h1 h2 h3 => k.book i o h1 (h.book i o h1 h2 h3) h3⟩
theorem Kept.of {lo l : Nat} {V V' : World} (h : Below V.heap.size V V') : Kept lo l V V' :=
  ⟨h.size, fun k _ h2 => h.block k h2, fun k _ h2 => h.block k h2.lt, fun k o _ h2 _ => (h.block k (Array.getElem?_eq_some_iff.1 h2).1).trans h2⟩
theorem Kept.put {lo l : Nat} (V : World) (k : Nat) {o : Obj} (o' : Obj) (hk : k ≤ l) (h3 : 3 ≤ k) (ho : V.heap[k]? = some o) (hc : o.isCells = false) : Kept lo l V (V.putObj k o') := by
  refine ⟨by simp [World.putObj], fun i h1 _ => World.putObj_heap_other (by omega), fun i _ h2 => ?_, fun i _ h1 h2 _ => (World.putObj_heap_other (by omega)).trans h2⟩
  obtain ⟨v, hv⟩ := Option.isSome_iff_exists.1 h2.1
  exact (Ranges.cell_put hv ho hc).2
theorem Kept.narrow {lo l lo' l' : Nat} {V V' : World} (h : Kept lo l V V') (h1 : lo ≤ lo') (h2 : l ≤ l') : Kept lo' l' V V' := ⟨h.size, h.glob, fun k a b => h.one k (by omega) b, fun k o a b c => h.book k o (by omega) b c⟩

/-! ### Tokens -/

def Tok.v (x : Tok) : Value := .agg #[.int .i64 x.kind, .int .i64 (x.pos : Int), .string (bs x.text), .int .i64 x.num]
def Tok.cs (x : Tok) : Array Value := #[.int .i64 x.kind, .int .i64 (x.pos : Int), .string (bs x.text), .int .i64 x.num]
theorem Tok.cs_eq (q : Tok) : q.cs = #[.int .i64 q.kind, .int .i64 (q.pos : Int), .string (bs q.text), .int .i64 q.num] := rfl
def Tok.cell (x : Tok) (j : Nat) : Value := x.cs[j]?.getD undef
def cellK (L : List Tok) (i j : Nat) : Value := (L.getD i default).cell j
/-- The slice s holds these tokens. -/
def ToksAt (w : World) (s : Value) (L : List Tok) : Prop := SliceAt w s 4 L.length (cellK L)
theorem ToksAt.go {w w' : World} {s : Value} {L : List Tok} (h : ToksAt w s L) (hb : Below w.heap.size w w') : ToksAt w' s L := SliceAt.go h hb
theorem ToksAt.drew {w : World} {s : Value} {L : List Tok} (h : ToksAt w s L) : ToksAt w.drew s L := h.go (Below.refl _ _).drew
theorem elem_tok : Elem 58 71 4 := elem_of (b := 40) (by omega) (by omega) (by kernel_rfl) (by kernel_rfl)
theorem cell_one (L : List Tok) : ∀ i, i < L.length → ∀ j, j < 4 → (cellK L i j).oneCell' = true := by
  intro i hi j hj
  unfold cellK Tok.cell Tok.cs
  match j, hj with
  | 0, _ => rfl
  | 1, _ => rfl
  | 2, _ => rfl
  | 3, _ => rfl
theorem tok_cat (L : List Tok) (q : Tok) : ∀ i, i < L.length + 1 → ∀ j, j < 4 → both L.length (cellK L) (cellK [q]) i j = cellK (L ++ [q]) i j := by
  intro i hi j hj
  unfold both cellK
  rw [List.getD_eq_getElem?_getD (l := L ++ [q])]
  by_cases h : i < L.length
  · rw [if_pos h, List.getElem?_append_left h, ← List.getD_eq_getElem?_getD]
  · rw [if_neg h, List.getElem?_append_right (by omega), ← List.getD_eq_getElem?_getD]
/-- The cells of one of a row. -/
theorem tok_cells {V : World} {b n : Nat} {L : List Tok} (hg : Grid V b 4 n (cellK L)) (k : Nat) (hk : k < n) (x : Tok) (hx : L.getD k default = x) :
    V.cell? ⟨b, k * 4, none⟩ = some (.int .i64 x.kind) ∧ V.cell? ⟨b, k * 4 + 1, none⟩ = some (.int .i64 (x.pos : Int)) ∧ V.cell? ⟨b, k * 4 + 2, none⟩ = some (.string (bs x.text)) ∧ V.cell? ⟨b, k * 4 + 3, none⟩ = some (.int .i64 x.num) := by
  subst hx
  exact ⟨hg.1 k hk 0 (by omega), hg.1 k hk 1 (by omega), hg.1 k hk 2 (by omega), hg.1 k hk 3 (by omega)⟩
/-- A row of tokens that grows, apart from what was there. -/
structure TI (B : Nat) (w1 : World) (s : Value) (L : List Tok) (W : World) : Prop where
  at_ : ToksAt W s L
  above : Above B s
  below : Below B w1 W
theorem TI.go {B : Nat} {w1 : World} {s : Value} {L : List Tok} {W W' : World} (h : TI B w1 s L W) (hB : B ≤ W.heap.size) (hb : Below W.heap.size W W') : TI B w1 s L W' := ⟨h.at_.go hb, h.above, h.below.trans (hb.mono hB)⟩
theorem TI.nil (B : Nat) (w1 : World) : TI B w1 (.slice none 0 0) [] w1 := ⟨.inl ⟨rfl, rfl⟩, fun a n c e => (by cases e), Below.refl _ _⟩
/-- A cell that does not lie among the tokens. -/
theorem TI.other {B : Nat} {w1 : World} {s : Value} {L : List Tok} {W : World} (h : TI B w1 s L W) (b i : Nat) (u : Value) (hb : b < B) (hb1 : ∀ k, k < B → k ≠ b → True) (B' : Nat) (hB' : B' ≤ b) : TI B' w1 s L (W.setCell ⟨b, i, none⟩ u) ∧ Above B s := by
  refine ⟨⟨?_, h.above.mono (by omega), ?_⟩, h.above⟩
  · rcases h.at_ with h0 | ⟨b', c, hs, hc, hm, hg⟩
    · exact .inl h0
    · have hbb : B ≤ b' := h.above _ _ _ hs
      exact .inr ⟨b', c, hs, hc, hm.set _ _ _, hg.other b i u (by omega)⟩
  · exact (h.below.mono (by omega)).setCell (p := ⟨b, i, none⟩) hB' u
theorem room_of {W V : World} {b n c : Nat} {f g : Nat → Nat → Value} (h : SliceAt W (.slice (some ⟨b, 0, none⟩) n c) 4 n f) (hV : SliceAt V (.slice (some ⟨b, 0, none⟩) (n + 1) c) 4 (n + 1) g) : (W.cell? ⟨b, 1, none⟩).isSome = true := by
  have hc : 1 ≤ c := by
    rcases hV with ⟨h0, _⟩ | ⟨b', c', hs, hc, _, _⟩
    · omega
    · injection hs with _ _ e3
      omega
  rcases h with ⟨_, h0⟩ | ⟨b', c', hs, _, hm, _⟩
  · cases h0
  · injection hs with e1 _ e3
    injection e1 with e1
    injection e1 with e1
    subst e1
    subst e3
    exact hm 1 (by omega)
/-- One more. -/
theorem TI.more {B : Nat} {w1 : World} {o : Option Addr} {c : Nat} {L : List Tok} {W : World} (h : TI B w1 (.slice o L.length c) L W) (hB : B ≤ W.heap.size) (hl : L.length ≤ 1000) (q : Tok) :
    ∃ V s, (∀ ty, (Builtin.append_ #[58, 58] ty #[.slice o L.length c, .slice (some ⟨W.heap.size, 0, none⟩) 1 1]).run Tryz.prog (W.alloc (.cells #[.int .i64 q.kind, .int .i64 (q.pos : Int), .string (bs q.text), .int .i64 q.num] 71)) = .ok s V) ∧ (∃ o' c', s = .slice o' (L.length + 1) c') ∧ TI B w1 s (L ++ [q]) V ∧ W.heap.size < V.heap.size ∧ (∀ D, D < W.heap.size → W.cell? ⟨D, 1, none⟩ = none → V.heap[D]? = W.heap[D]?) := by
  have hu : Below W.heap.size W (W.alloc (.cells q.cs 71)) := (Below.refl _ _).alloc (Nat.le_refl _) _
  have hzz : (W.alloc (.cells q.cs 71)).heap.size = W.heap.size + 1 := World.size_alloc _ _
  have hcs : ∀ j, j < 4 → q.cs[j]? = some (cellK [q] 0 j) := by
    intro j hj
    match j, hj with
    | 0, _ => rfl
    | 1, _ => rfl
    | 2, _ => rfl
    | 3, _ => rfl
  obtain ⟨V, s, hr, hj⟩ := append_any (w := W.alloc (.cells q.cs 71)) elem_tok (SliceAt.go h.at_ hu) (cell_one L) (SliceAt.source elem_tok (one_slice W 71 4 q.cs (cellK [q]) hcs rfl) (cell_one [q])) (by omega) (.inl (by omega))
  have hat : ToksAt V s (L ++ [q]) := by
    show SliceAt V s 4 (L ++ [q]).length _
    rw [List.length_append]
    exact SliceAt.ext hj.rows (tok_cat L q)
  refine ⟨V, s, hr, ?_, ⟨hat, ?_, ?_⟩, ?_, ?_⟩
  · rcases hj.way with ⟨c', rfl, _⟩ | ⟨b, c', _, rfl, _⟩
    · exact ⟨_, _, rfl⟩
    · exact ⟨_, _, rfl⟩
  · rcases hj.way with ⟨c', rfl, _⟩ | ⟨b, c', e1, rfl, _⟩
    · intro a n c e
      injection e with e
      injection e with e
      subst e
      show B ≤ (W.alloc (.cells q.cs 71)).heap.size
      omega
    · have := h.above _ _ _ e1
      intro a n c e
      injection e with e
      injection e with e
      subst e
      exact this
  · rcases hj.way with ⟨c', rfl, hb⟩ | ⟨b, c', e1, rfl, rfl⟩
    · exact h.below.trans ((hu.trans (hb.mono (by omega))).mono hB)
    · have hab := h.above _ _ _ e1
      exact h.below.trans ((hu.mono hB).trans ((only_cells b _ _ _ _ (Only.refl _ _)).below hab))
  · rcases hj.way with ⟨c', rfl, hb⟩ | ⟨b, c', e1, rfl, rfl⟩
    · have := hb.size; omega
    · rw [size_cells, hzz]; omega
  · intro D hDs hD1
    have h1 : (W.alloc (.cells q.cs 71)).heap[D]? = W.heap[D]? := hu.block D hDs
    rcases hj.way with ⟨c', rfl, hb⟩ | ⟨b, c', e1, rfl, rfl⟩
    · exact (hb.block D (by omega)).trans h1
    · have hO := only_cells b (flat 4 1 (cellK [q])) (L.length * 4) (W.alloc (.cells q.cs 71)) _ (Only.refl b _)
      refine (hO.block D ?_).trans h1
      intro e
      subst e
      have hat0 : SliceAt W (.slice (some ⟨D, 0, none⟩) L.length c') 4 L.length (cellK L) := by
        rw [← e1]; exact h.at_
      have := room_of hat0 hj.rows
      rw [hD1] at this
      cases this

end Go.Proofs.YthofogokpolhdaaGreatDoor.Toks

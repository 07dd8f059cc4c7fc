/-
  Rows of cells in memory, append for rows of any kind; rows of numbers that grow; numbers that a slice reads as.
-/
import Derived.Test.YtlfpfijhimngmaaEA
import Derived.Deep.MidRow
import Derived.Deep.AppendSrc
import Derived.Shelf.Abstract
import Derived.RangeFuncRecord
namespace Go.Proofs.Ytlfpfijhimngmaa.Edits
open Go.RowKit Go.Shelf
set_option linter.unusedVariables false
set_option linter.unusedSimpArgs false

/-- In the world w the block b begins with n rows of k cells: f i j is the cell j of row i. -/
def Grid (w : World) (b k n : Nat) (f : Nat → Nat → Value) : Prop :=
  (∀ i, i < n → ∀ j, j < k → w.cell? ⟨b, i * k + j, none⟩ = some (f i j)) ∧ (∀ j, w.frozen? ⟨b, j, none⟩ = false) ∧ b < w.heap.size
theorem Grid.block {w w' : World} {b k n : Nat} {f : Nat → Nat → Value} (h : Grid w b k n f) (hs : w.heap.size ≤ w'.heap.size) (hb : w'.heap[b]? = w.heap[b]?) : Grid w' b k n f :=
  ⟨fun i hi j hj => (World.cell?_of_block (a := ⟨b, i * k + j, none⟩) hb).trans (h.1 i hi j hj), fun j => (frozen_of_block hb j).trans (h.2.1 j), by have := h.2.2; omega⟩
theorem Grid.go {w w' : World} {b k n : Nat} {f : Nat → Nat → Value} (h : Grid w b k n f) (hb : Below w.heap.size w w') : Grid w' b k n f := h.block hb.size (hb.block b h.2.2)
theorem Grid.alloc {w : World} {b k n : Nat} {f : Nat → Nat → Value} (h : Grid w b k n f) (o : Obj) : Grid (w.alloc o) b k n f := h.go ((Below.refl _ _).alloc (Nat.le_refl _) o)
theorem Grid.drew {w : World} {b k n : Nat} {f : Nat → Nat → Value} (h : Grid w b k n f) : Grid w.drew b k n f := h
theorem Grid.other {w : World} {b k n : Nat} {f : Nat → Nat → Value} (h : Grid w b k n f) (b' i : Nat) (u : Value) (hn : b' ≠ b) : Grid (w.setCell ⟨b', i, none⟩ u) b k n f :=
  h.block (by rw [World.size_setCell]; exact Nat.le_refl _) (Below.heap_setCell w ⟨b', i, none⟩ u b (fun e => hn e.symm))
/-- With one cell another one. -/
def upd (f : Nat → Nat → Value) (i j : Nat) (u : Value) : Nat → Nat → Value := fun i' j' => if i' = i ∧ j' = j then u else f i' j'
theorem place_inj {k i j i' j' : Nat} (hj : j < k) (hj' : j' < k) (h : i * k + j = i' * k + j') : i = i' ∧ j = j' := by
  have hk : 0 < k := by omega
  have h1 : (i * k + j) / k = i := by rw [Nat.add_comm, Nat.add_mul_div_right _ _ hk, Nat.div_eq_of_lt hj]; omega
  have h2 : (i' * k + j') / k = i' := by rw [Nat.add_comm, Nat.add_mul_div_right _ _ hk, Nat.div_eq_of_lt hj']; omega
  rw [h] at h1
  have e : i = i' := h1.symm.trans h2
  subst e
  exact ⟨rfl, by omega⟩
theorem Grid.set {w : World} {b k n : Nat} {f : Nat → Nat → Value} (h : Grid w b k n f) (i j : Nat) (hi : i < n) (hj : j < k) (u : Value) : Grid (w.setCell ⟨b, i * k + j, none⟩ u) b k n (upd f i j u) := by
  have hc := h.1 i hi j hj
  refine ⟨fun i' hi' j' hj' => ?_, fun j' => ?_, ?_⟩
  · unfold upd
    by_cases e : i' = i ∧ j' = j
    · rw [if_pos e]
      obtain ⟨rfl, rfl⟩ := e
      exact World.cell?_setCell_same _ _ _ hc
    · rw [if_neg e, World.cell?_setCell_other _ _ _ _ (by intro hh; injection hh with e1 e2; exact e (place_inj hj' hj e2.symm)), h.1 i' hi' j' hj']
  · rw [World.frozen?_setCell]; exact h.2.1 j'
  · rw [World.size_setCell]; exact h.2.2
theorem Grid.ext {w : World} {b k n : Nat} {f g : Nat → Nat → Value} (h : Grid w b k n f) (e : ∀ i, i < n → ∀ j, j < k → f i j = g i j) : Grid w b k n g :=
  ⟨fun i hi j hj => (h.1 i hi j hj).trans (by rw [e i hi j hj]), h.2⟩
theorem Grid.short {w : World} {b k n : Nat} {f : Nat → Nat → Value} (h : Grid w b k n f) {m : Nat} (hm : m ≤ n) : Grid w b k m f :=
  ⟨fun i hi j hj => h.1 i (by omega) j hj, h.2⟩
/-- All its cells, one behind the other. -/
def flat (k n : Nat) (f : Nat → Nat → Value) : List Value := (List.range (n * k)).map fun t => f (t / k) (t % k)
theorem flat_length (k n : Nat) (f : Nat → Nat → Value) : (flat k n f).length = n * k := by simp [flat]
theorem flat_get {k n : Nat} {f : Nat → Nat → Value} {t : Nat} (h : t < n * k) : (flat k n f)[t]? = some (f (t / k) (t % k)) := by simp [flat, h]
theorem flat_at {k n : Nat} {f : Nat → Nat → Value} {i j : Nat} (hi : i < n) (hj : j < k) : (flat k n f)[i * k + j]? = some (f i j) := by
  have hk : 0 < k := by omega
  have hlt : i * k + j < n * k := by
    have : (i + 1) * k ≤ n * k := Nat.mul_le_mul_right k hi
    rw [Nat.add_mul] at this; omega
  rw [flat_get hlt, Nat.add_comm (i * k) j, Nat.add_mul_div_right _ _ hk, Nat.div_eq_of_lt hj, Nat.add_mul_mod_self_right, Nat.mod_eq_of_lt hj]
  simp
theorem Grid.flat {w : World} {b k n : Nat} {f : Nat → Nat → Value} (h : Grid w b k n f) (hk : 0 < k) (t : Nat) (u : Value) (ht : (Edits.flat k n f)[t]? = some u) : w.cell? ⟨b, t, none⟩ = some u := by
  have hlt : t < n * k := by
    have := (List.getElem?_eq_some_iff.1 ht).1
    rwa [flat_length] at this
  rw [flat_get hlt] at ht
  have := h.1 (t / k) ((Nat.div_lt_iff_lt_mul hk).2 hlt) (t % k) (Nat.mod_lt _ hk)
  rw [Nat.mul_comm, Nat.div_add_mod] at this
  rw [this, ht]
/-- A new block. -/
theorem Grid.new (w : World) (t : TypeId) (k n : Nat) (f : Nat → Nat → Value) (cs : Array Value) (h : ∀ i, i < n → ∀ j, j < k → cs[i * k + j]? = some (f i j)) : Grid (w.alloc (.cells cs t)) w.heap.size k n f := by
  refine ⟨fun i hi j hj => ?_, fun j => ?_, ?_⟩
  · rw [← h i hi j hj]
    simp [go_sem]
  all_goals simp [go_sem]
theorem Grid.old {w : World} {b k n : Nat} {f : Nat → Nat → Value} {cs : Array Value} {t : TypeId} (hb : w.heap[b]? = some (.cells cs t)) (h : ∀ i, i < n → ∀ j, j < k → cs[i * k + j]? = some (f i j)) : Grid w b k n f := by
  refine ⟨fun i hi j hj => ?_, fun j => ?_, (Array.getElem?_eq_some_iff.1 hb).1⟩
  · rw [← h i hi j hj]
    simp [World.cell?, hb]
  · simp [World.frozen?, hb]

/-- The block b has m cells, or more. -/
def Spare (w : World) (b m : Nat) : Prop := ∀ j, j < m → (w.cell? ⟨b, j, none⟩).isSome = true
theorem Spare.block {w w' : World} {b m : Nat} (h : Spare w b m) (hb : w'.heap[b]? = w.heap[b]?) : Spare w' b m := fun j hj => by
  rw [World.cell?_of_block (a := ⟨b, j, none⟩) hb]
  exact h j hj
theorem Spare.set {w : World} {b m : Nat} (h : Spare w b m) (b' i : Nat) (u : Value) : Spare (w.setCell ⟨b', i, none⟩ u) b m := fun j hj => by
  have := h j hj
  by_cases e : (⟨b', i, none⟩ : Addr) = ⟨b, j, none⟩
  · obtain ⟨x, hx⟩ := Option.isSome_iff_exists.1 this
    rw [e, World.cell?_setCell_same _ _ _ hx]; rfl
  · rw [World.cell?_setCell_other _ _ _ _ e]
    exact this
theorem Spare.of_cells {w : World} {b : Nat} {cs : Array Value} {t : TypeId} (hb : w.heap[b]? = some (.cells cs t)) : Spare w b cs.size := fun j hj => by
  simp [World.cell?, hb, hj]
/-- The slice s holds n rows of k cells. -/
def SliceAt (w : World) (s : Value) (k n : Nat) (f : Nat → Nat → Value) : Prop :=
  (n = 0 ∧ s = .slice none 0 0) ∨ ∃ b c, s = .slice (some ⟨b, 0, none⟩) n c ∧ n ≤ c ∧ Spare w b (c * k) ∧ Grid w b k n f
theorem SliceAt.go {w w' : World} {s : Value} {k n : Nat} {f : Nat → Nat → Value} (h : SliceAt w s k n f) (hb : Below w.heap.size w w') : SliceAt w' s k n f := by
  rcases h with h | ⟨b, c, hs, hc, hm, hg⟩
  · exact .inl h
  · exact .inr ⟨b, c, hs, hc, hm.block (hb.block b hg.2.2), hg.go hb⟩
theorem SliceAt.slice {w : World} {s : Value} {k n : Nat} {f : Nat → Nat → Value} (h : SliceAt w s k n f) : ∃ o c, s = .slice o n c := by
  rcases h with ⟨rfl, hs⟩ | ⟨b, c, hs, hc, hm, hg⟩
  · exact ⟨_, _, hs⟩
  · exact ⟨_, _, hs⟩
theorem SliceAt.ext {w : World} {s : Value} {k n : Nat} {f g : Nat → Nat → Value} (h : SliceAt w s k n f) (e : ∀ i, i < n → ∀ j, j < k → f i j = g i j) : SliceAt w s k n g := by
  rcases h with h | ⟨b, c, hs, hc, hm, hg⟩
  · exact .inl h
  · exact .inr ⟨b, c, hs, hc, hm, hg.ext e⟩
/-- The slice lies in a block from B on, or is nil. -/
def Above (B : Nat) (s : Value) : Prop := ∀ a n c, s = .slice (some a) n c → B ≤ a.block
theorem Above.mono {B B' : Nat} {s : Value} (h : Above B s) (hB : B' ≤ B) : Above B' s := fun a n c e => Nat.le_trans hB (h a n c e)

/-- An append whose run is known. -/
theorem wpList_app {P : Program} {w : World} {ops : Array Oper} {rest : List Oper} {o : Oper} {a : Act} {Q : Exit → Act → World → Prop} (hg : o.guard = none) (s x : Operand) (t tx : TypeId)
    (ho : o.op = .call { callee := .builtin .append, args := #[s, x], argTypes := #[t, tx] }) {v : Value} {V : World} (hr : ∀ ty, (Builtin.append_ #[t, tx] ty #[a.eval s, a.eval x]).run P w = .ok v V)
    (h : wpList P ops Q rest (a.put o.dst v) V) : wpList P ops Q (o :: rest) a w := by
  refine wpList_plain hg fun K hK => ?_
  unfold Oper.wp execOp
  simp only [ho, resolve, invoke, builtin, Sem.run_bind, Sem.run_pure, Result.andThen_ok, List.map_toArray, List.map_cons, List.map_nil, hr]
  exact hK _ _ h

theorem info_of {t : TypeId} {k b z : Nat} (h : (Try.prog.info? t).map (fun i => (i.size, i.bytes, i.zero.map (·.cells.size))) = some (k, b, some z)) :
    ∃ i, Try.prog.info? t = some i ∧ i.size = k ∧ i.bytes = b ∧ ∃ v, i.zero = some v ∧ v.cells.size = z := by
  cases hi : Try.prog.info? t with
  | none => rw [hi] at h; cases h
  | some i =>
    rw [hi] at h
    simp only [Option.map_some, Option.some.injEq, Prod.mk.injEq] at h
    obtain ⟨h1, h2, h3⟩ := h
    cases hz : i.zero with
    | none => rw [hz] at h3; cases h3
    | some v =>
      rw [hz] at h3
      exact ⟨i, rfl, h1, h2, v, hz, by simpa using h3⟩

/-- Only the block b has turned. -/
structure Only (b : Nat) (w w' : World) : Prop where
  os : w'.os = w.os
  tape : w'.tape = w.tape
  output : w'.output = w.output
  size : w'.heap.size = w.heap.size
  block : ∀ k, k ≠ b → w'.heap[k]? = w.heap[k]?
theorem Only.refl (b : Nat) (w : World) : Only b w w := ⟨rfl, rfl, rfl, rfl, fun _ _ => rfl⟩
theorem Only.set {b : Nat} {w w' : World} (h : Only b w w') (i : Nat) (u : Value) : Only b w (w'.setCell ⟨b, i, none⟩ u) :=
  ⟨h.os, h.tape, h.output, (World.size_setCell _ _ _).trans h.size, fun k hk => (Below.heap_setCell w' ⟨b, i, none⟩ u k hk).trans (h.block k hk)⟩
theorem Only.below {b B : Nat} {w w' : World} (h : Only b w w') (hb : B ≤ b) : Below B w w' := ⟨h.os, h.tape, h.output, Nat.le_of_eq h.size.symm, fun k hk => h.block k (by omega)⟩

theorem size_cells (b : Nat) : ∀ (vs : List Value) (o : Nat) (w : World), (w.setCells b o vs).heap.size = w.heap.size
  | [], _, _ => rfl
  | v :: r, o, w => by show ((w.setCell ⟨b, o, none⟩ v).setCells b (o + 1) r).heap.size = _; rw [size_cells b r (o + 1) _, World.size_setCell]
theorem only_cells (b : Nat) : ∀ (vs : List Value) (o : Nat) (w w0 : World), Only b w0 w → Only b w0 (w.setCells b o vs)
  | [], _, _, _, h => h
  | v :: r, o, w, w0, h => only_cells b r (o + 1) _ w0 (h.set o v)
theorem Spare.cells {w : World} {b m : Nat} (h : Spare w b m) (b' : Nat) : ∀ (vs : List Value) (o : Nat), Spare (w.setCells b' o vs) b m := by
  intro vs
  induction vs generalizing w with
  | nil => intro o; exact h
  | cons v r ih => intro o; exact ih (h.set b' o v) (o + 1)
/-- More rows behind those that there are. -/
theorem Grid.append {w : World} {b k n m : Nat} {f g : Nat → Nat → Value} (h : Grid w b k n f) (hk : 0 < k) (hs : Spare w b ((n + m) * k)) :
    Grid (w.setCells b (n * k) (Edits.flat k m g)) b k (n + m) (fun i j => if i < n then f i j else g (i - n) j) := by
  have hl := flat_length k m g
  refine ⟨fun i hi j hj => ?_, fun j => ?_, ?_⟩
  · show _ = some (if i < n then f i j else g (i - n) j)
    by_cases hin : i < n
    · rw [if_pos hin, World.cell?_setCells_out]
      · exact h.1 i hin j hj
      · intro _ _
        left
        show i * k + j < n * k
        have : (i + 1) * k ≤ n * k := Nat.mul_le_mul_right k hin
        rw [Nat.add_mul] at this; omega
    · rw [if_neg hin]
      have e : i * k + j = n * k + ((i - n) * k + j) := by
        have : i * k = n * k + (i - n) * k := by rw [← Nat.add_mul]; congr 1; omega
        omega
      have hlt : (i - n) * k + j < (Edits.flat k m g).length := by
        rw [hl]
        have : (i - n + 1) * k ≤ m * k := Nat.mul_le_mul_right k (by omega)
        rw [Nat.add_mul] at this; omega
      rw [e, World.cell?_setCells_in b _ _ w (fun j' hj' => hs _ (by rw [hl] at hj'; rw [Nat.add_mul]; omega)) _ hlt]
      have := flat_at (k := k) (n := m) (f := g) (i := i - n) (j := j) (by omega) hj
      rw [List.getElem?_eq_getElem hlt] at this
      exact this
  · rw [World.frozen?_setCells]; exact h.2.1 j
  · rw [size_cells]; exact h.2.2

/-- Slices of type t hold things of type e, of k cells. -/
structure Elem (t e : TypeId) (k : Nat) : Prop where
  pos : 0 < k
  und : Try.prog.underlying t = some (.slice e)
  info : ∃ i, Try.prog.info? e = some i ∧ i.size = k ∧ i.bytes ≤ 1000 ∧ ∃ z, i.zero = some z ∧ z.cells.size = k
theorem elem_of {t e : TypeId} {k b : Nat} (hk : 0 < k) (hb : b ≤ 1000) (hu : Try.prog.underlying t = some (.slice e)) (h : (Try.prog.info? e).map (fun i => (i.size, i.bytes, i.zero.map (·.cells.size))) = some (k, b, some k)) : Elem t e k := by
  obtain ⟨i, h1, h2, h3, z, h4, h5⟩ := info_of h
  exact ⟨hk, hu, i, h1, h2, by omega, z, h4, h5⟩

/-- How far a slice of at most 2000 grows. -/
theorem cap_fits (n c : Nat) (hn : n ≤ 2000) (hc : c < n) : Builtin.nextslicecap n c ≤ 100000 := by
  unfold Builtin.nextslicecap
  by_cases h1 : n > 2 * c
  · rw [if_pos h1]; omega
  · rw [if_neg h1]
    by_cases h2 : c < 256
    · rw [if_pos h2]; omega
    · rw [if_neg h2]
      have hgrow : ∀ r c, c ≤ 2000 → Builtin.growBy n r c ≤ 100000 := by
        intro r
        induction r with
        | zero => intro c hc; show c ≤ _; omega
        | succ r ih =>
          intro c hc
          show (if c ≥ n then c else Builtin.growBy n r (c + (c + 768) / 4)) ≤ _
          split
          · omega
          · rename_i hlt
            by_cases hh : c + (c + 768) / 4 ≤ 2000
            · exact ih _ hh
            · have hge : c + (c + 768) / 4 ≥ n := by omega
              cases r with
              | zero => show c + (c + 768) / 4 ≤ _; omega
              | succ r =>
                show (if c + (c + 768) / 4 ≥ n then c + (c + 768) / 4 else _) ≤ _
                rw [if_pos hge]; omega
      exact hgrow _ c (by omega)

/-- The rows of a slice, to be put behind others. -/
theorem SliceAt.source {w : World} {s : Value} {t e : TypeId} {k n : Nat} {f : Nat → Nat → Value} (hE : Elem t e k) (h : SliceAt w s k n f) (h1 : ∀ i, i < n → ∀ j, j < k → (f i j).oneCell' = true) : Src Try.prog k t s n (flat k n f) w := by
  rcases h with ⟨rfl, rfl⟩ | ⟨b, c, rfl, hc, hm, hg⟩
  · have : flat k 0 f = [] := by simp [flat]
    rw [this]
    exact Src.ofNil w hE.und 0
  · refine Src.ofSlice w hE.und _ n c _ (by rw [flat_length]) (fun j u hu => ?_) (fun u hu => ?_)
    · rw [Addr.add_mid, Nat.zero_add]
      exact hg.flat hE.pos j u hu
    · obtain ⟨t', ht⟩ := List.getElem?_of_mem hu
      have hlt : t' < n * k := by have := (List.getElem?_eq_some_iff.1 ht).1; rw [flat_length] at this; exact this
      rw [flat_get hlt] at ht
      injection ht with ht
      rw [← ht]
      exact h1 _ ((Nat.div_lt_iff_lt_mul hE.pos).2 hlt) _ (Nat.mod_lt _ hE.pos)

/-- Two rows, one behind the other. -/
def both (n : Nat) (f g : Nat → Nat → Value) : Nat → Nat → Value := fun i j => if i < n then f i j else g (i - n) j

/-- What an append makes: either a new block, or the old one, written behind its rows. -/
structure Joined (w V : World) (s1 s : Value) (k n m : Nat) (f g : Nat → Nat → Value) : Prop where
  rows : SliceAt V s k (n + m) (both n f g)
  way : (∃ c, s = .slice (some ⟨w.heap.size, 0, none⟩) (n + m) c ∧ Below w.heap.size w V) ∨ (∃ b c, s1 = .slice (some ⟨b, 0, none⟩) n c ∧ s = .slice (some ⟨b, 0, none⟩) (n + m) c ∧ V = w.setCells b (n * k) (flat k m g))

theorem append_any {w : World} {t e : TypeId} {k n m c1 : Nat} {o1 : Option Addr} {s2 : Value} {f g : Nat → Nat → Value} (hE : Elem t e k) (hA : SliceAt w (.slice o1 n c1) k n f) (h1 : ∀ i, i < n → ∀ j, j < k → (f i j).oneCell' = true)
    (hB : Src Try.prog k t s2 m (flat k m g) w) (hn : n + m ≤ 2000) (h0 : 0 < n + m ∨ o1 ≠ none) :
    ∃ V s, (∀ ty, (Builtin.append_ #[t, t] ty #[.slice o1 n c1, s2]).run Try.prog w = .ok s V) ∧ Joined w V (.slice o1 n c1) s k n m f g := by
  obtain ⟨i, hi, hk, hby, z, hz, hzs⟩ := hE.info
  by_cases hroom : n + m ≤ c1
  · rcases hA with ⟨_, he⟩ | ⟨b, c, he, hc, hsp, hg⟩
    · injection he with e1 e2 e3
      rcases h0 with h0 | h0
      · omega
      · exact absurd e1 h0
    · injection he with e1 e2 e3
      subst e1 e3
      have hmul : (n + m) * k ≤ c1 * k := Nat.mul_le_mul_right k hroom
      have hj : SliceAt (w.setCells b (n * k) (flat k m g)) (.slice (some ⟨b, 0, none⟩) (n + m) c1) k (n + m) (both n f g) :=
        .inr ⟨b, c1, rfl, hroom, hsp.cells _ _ _, hg.append hE.pos (fun j' hj' => hsp j' (by omega))⟩
      refine ⟨_, _, fun ty => ?_, ⟨hj, .inr ⟨b, c1, rfl, rfl, rfl⟩⟩⟩
      have := run_append_room_src w t t ty e i hE.und hi b 0 n c1 s2 m (flat k m g) (by rw [hk]; exact hB) hroom (fun j' hj' => hsp _ (by
        rw [flat_length] at hj'
        rw [hk, Nat.zero_add]
        rw [Nat.add_mul] at hmul
        omega)) (fun j' _ => hg.2.1 _)
      rw [hk, Nat.zero_add] at this
      exact this
  · have hs1 := SliceAt.source hE hA h1
    have hrun := fun ty => run_append_grow_src w t t ty e i z hE.und hi hz o1 n c1 _ (by rw [hk]; exact hs1.cellsD) s2 m _ (by rw [hk]; exact hB) (by omega) (by omega) (by
      have h1 := cap_fits (n + m) c1 hn (by omega)
      have h2 := Nat.mul_le_mul h1 hby
      omega)
    have hl1 := flat_length k n f
    have hl2 := flat_length k m g
    have hge := grownCap_ge w (n + m) c1 e
    generalize hcap : grownCap w (n + m) c1 e = cap at hrun hge
    have hh := World.alloc_heap_new w.drew (.cells ((flat k n f ++ flat k m g).toArray ++ Builtin.zeroCells z.cells (cap - (n + m))) e)
    rw [show w.drew.heap.size = w.heap.size from rfl] at hh
    have hbel : Below w.heap.size w (w.drew.alloc (.cells ((flat k n f ++ flat k m g).toArray ++ Builtin.zeroCells z.cells (cap - (n + m))) e)) := (Below.refl _ _).drew.alloc (Nat.le_refl _) _
    refine ⟨_, _, hrun, ⟨.inr ⟨w.heap.size, cap, rfl, hge, ?_, ?_⟩, .inl ⟨cap, rfl, hbel⟩⟩⟩
    · have := Spare.of_cells hh
      refine fun j hj => this j ?_
      simp only [Array.size_append, List.size_toArray, List.length_append, hl1, hl2, Builtin.zeroCells, Array.size_map, Array.size_range, hzs]
      rw [← Nat.add_mul, ← Nat.add_mul, Nat.add_sub_cancel' hge]
      exact hj
    · refine Grid.old hh fun i' hi' j hj => ?_
      have hik : (i' + 1) * k ≤ (n + m) * k := Nat.mul_le_mul_right k hi'
      rw [Nat.add_mul, Nat.one_mul] at hik
      unfold both
      rw [Array.getElem?_append_left (by
        rw [List.size_toArray, List.length_append, hl1, hl2, ← Nat.add_mul]
        omega), List.getElem?_toArray]
      by_cases h : i' < n
      · rw [if_pos h, List.getElem?_append_left (by
          rw [hl1]
          have : (i' + 1) * k ≤ n * k := Nat.mul_le_mul_right k h
          rw [Nat.add_mul, Nat.one_mul] at this
          omega)]
        exact flat_at h hj
      · have hnk : n * k ≤ i' * k := Nat.mul_le_mul_right k (by omega)
        rw [if_neg h, List.getElem?_append_right (by rw [hl1]; omega), hl1]
        have e' : i' * k + j - n * k = (i' - n) * k + j := by rw [Nat.sub_mul]; omega
        rw [e']
        exact flat_at (by omega) hj

theorem one_slice (V : World) (e : TypeId) (k : Nat) (cs : Array Value) (g : Nat → Nat → Value) (hc : ∀ j, j < k → cs[j]? = some (g 0 j)) (hs : cs.size = k) : SliceAt (V.alloc (.cells cs e)) (.slice (some ⟨V.heap.size, 0, none⟩) 1 1) k 1 g := by
  refine .inr ⟨V.heap.size, 1, rfl, Nat.le_refl _, ?_, Grid.new V e k 1 g cs fun i hi j hj => ?_⟩
  · have := Spare.of_cells (World.alloc_heap_new V (.cells cs e))
    rw [hs] at this
    rw [Nat.one_mul]
    exact this
  · have : i = 0 := by omega
    subst this
    rw [Nat.zero_mul, Nat.zero_add]
    exact hc j hj


/-- The value s is a slice that reads as these numbers. -/
def NV (w : World) (s : Value) (l : List Int) : Prop :=
  ∃ o c, s = .slice o l.length c ∧ l.length ≤ c ∧ ∀ i, i < l.length → ∃ b off, o = some ⟨b, off, none⟩ ∧ w.cell? ⟨b, off + i, none⟩ = some (.int .i64 (l.getD i 0))
theorem NV.go {w w' : World} {s : Value} {l : List Int} (h : NV w s l) (hb : Below w.heap.size w w') : NV w' s l := by
  obtain ⟨o, c, e, hc, h⟩ := h
  refine ⟨o, c, e, hc, fun i hi => ?_⟩
  obtain ⟨b, off, eo, h0⟩ := h i hi
  exact ⟨b, off, eo, (hb.cell (p := ⟨b, _, none⟩) (cell_lt h0)).trans h0⟩
theorem NV.nil (w : World) : NV w (.slice none 0 0) [] := ⟨none, 0, rfl, Nat.le_refl _, fun i hi => absurd hi (Nat.not_lt_zero i)⟩
/-- So many numbers, as a list. -/
def listF (f : Nat → Int) (n : Nat) : List Int := (List.range n).map f
theorem listF_len (f : Nat → Int) (n : Nat) : (listF f n).length = n := by simp [listF]
theorem listF_at (f : Nat → Int) (n i : Nat) (h : i < n) : (listF f n).getD i 0 = f i := by simp [listF, h]
theorem listF_of (l : List Int) (f : Nat → Int) (h : ∀ i, i < l.length → l.getD i 0 = f i) : listF f l.length = l := by
  apply List.ext_getElem (by rw [listF_len])
  intro i h1 h2
  have := h i h2
  rw [List.getD_eq_getElem?_getD, List.getElem?_eq_getElem h2, Option.getD_some] at this
  simp [listF, this]
theorem NV.of_reads {w : World} {b o n c : Nat} {f : Nat → Int} (h : Reads w b o n f) (hc : n ≤ c) : NV w (.slice (some ⟨b, o, none⟩) n c) (listF f n) := by
  refine ⟨some ⟨b, o, none⟩, c, by rw [listF_len], by rw [listF_len]; exact hc, fun i hi => ?_⟩
  rw [listF_len] at hi
  exact ⟨b, o, rfl, by rw [listF_at f n i hi]; exact h i hi⟩
theorem NV.reads {w : World} {s : Value} {l : List Int} (h : NV w s l) (h0 : 0 < l.length) : ∃ b off c, s = .slice (some ⟨b, off, none⟩) l.length c ∧ l.length ≤ c ∧ Reads w b off l.length (fun i => l.getD i 0) := by
  obtain ⟨o, c, rfl, hc, h⟩ := h
  obtain ⟨b, off, rfl, _⟩ := h 0 h0
  refine ⟨b, off, c, rfl, hc, fun i hi => ?_⟩
  obtain ⟨b', off', e, h1⟩ := h i hi
  injection e with e
  injection e with e1 e2
  subst e1 e2
  exact h1

/-- A row of numbers that grows. -/
def cellN (l : List Int) (i j : Nat) : Value := .int .i64 (l.getD i 0)
def NumsAt (w : World) (s : Value) (l : List Int) : Prop := SliceAt w s 1 l.length (cellN l)
theorem NumsAt.go {w w' : World} {s : Value} {l : List Int} (h : NumsAt w s l) (hb : Below w.heap.size w w') : NumsAt w' s l := SliceAt.go h hb
theorem NumsAt.view {w : World} {s : Value} {l : List Int} (h : NumsAt w s l) : NV w s l := by
  rcases h with ⟨h0, rfl⟩ | ⟨b, c, rfl, hc, hm, hg⟩
  · exact ⟨none, 0, by rw [h0], by omega, fun i hi => absurd hi (by omega)⟩
  · refine ⟨_, c, rfl, hc, fun i hi => ⟨b, 0, rfl, ?_⟩⟩
    have := hg.1 i hi 0 (by omega)
    rw [Nat.mul_one, Nat.add_zero] at this
    rw [Nat.zero_add]; exact this
theorem elem_int : Elem 28 3 1 := elem_of (b := 8) (by omega) (by omega) (by kernel_rfl) (by kernel_rfl)
theorem num_cat (l : List Int) (x : Int) : ∀ i, i < l.length + 1 → ∀ j, j < 1 → both l.length (cellN l) (cellN [x]) i j = cellN (l ++ [x]) i j := by
  intro i hi j hj
  unfold both cellN
  by_cases h : i < l.length
  · rw [if_pos h, List.getD_eq_getElem?_getD, List.getD_eq_getElem?_getD, List.getElem?_append_left h]
  · have e : i = l.length := by omega
    subst e
    rw [if_neg h, Nat.sub_self, List.getD_eq_getElem?_getD, List.getD_eq_getElem?_getD, List.getElem?_append_right (Nat.le_refl _), Nat.sub_self]
/-- What grows from the world w0 on lies in blocks of its own. -/
structure GrowN (w0 : World) (s : Value) (l : List Int) (W : World) : Prop where
  at_ : NumsAt W s l
  above : Above w0.heap.size s
  below : Below w0.heap.size w0 W
theorem GrowN.nil (w : World) : GrowN w (.slice none 0 0) [] w := ⟨.inl ⟨rfl, rfl⟩, fun a n c e => (by cases e), Below.refl _ _⟩
theorem GrowN.go {w0 W V : World} {s : Value} {l : List Int} (h : GrowN w0 s l W) (hb : Below W.heap.size W V) : GrowN w0 s l V := ⟨h.at_.go hb, h.above, h.below.trans (hb.mono h.below.size)⟩
/-- One number more. -/
theorem GrowN.more {w0 W X : World} {o : Option Addr} {n c : Nat} {l : List Int} (h : GrowN w0 (.slice o n c) l W) (hl : l.length ≤ 1000) (x : Int) (b1 : Nat) (hX : Below W.heap.size W X) (hx : SliceAt X (.slice (some ⟨b1, 0, none⟩) 1 1) 1 1 (cellN [x])) :
    ∃ V o' c', (∀ ty, (Builtin.append_ #[28, 28] ty #[.slice o n c, .slice (some ⟨b1, 0, none⟩) 1 1]).run Try.prog X = .ok (.slice o' (n + 1) c') V) ∧ GrowN w0 (.slice o' (n + 1) c') (l ++ [x]) V ∧
      ∀ (b j : Nat) (u : Value), X.cell? ⟨b, j, none⟩ = some u → (∀ a, o = some a → a.block = b → j < n) → V.cell? ⟨b, j, none⟩ = some u := by
  have hX' := h.go hX
  have hn : n = l.length := by
    obtain ⟨o2, c2, e⟩ := SliceAt.slice h.at_
    injection e
  subst hn
  obtain ⟨V, s', hr, hj⟩ := append_any elem_int hX'.at_ (fun i _ j _ => rfl) (SliceAt.source elem_int hx fun i _ j _ => rfl) (by omega) (.inl (by omega))
  obtain ⟨o', c', rfl⟩ := SliceAt.slice hj.rows
  refine ⟨V, o', c', hr, ⟨?_, ?_, ?_⟩, ?_⟩
  · have := hj.rows.ext (num_cat l x)
    show SliceAt V _ 1 (l ++ [x]).length _
    rw [List.length_append]
    exact this
  · rcases hj.way with ⟨cc, e, hb⟩ | ⟨b, cc, e1, e2, e3⟩
    · intro a n' c'' e'
      rw [e] at e'
      injection e' with e'
      injection e' with e'
      subst e'
      exact hX'.below.size
    · intro a n' c'' e'
      rw [e2] at e'
      injection e' with e'
      injection e' with e'
      subst e'
      exact hX'.above _ _ _ e1
  · rcases hj.way with ⟨cc, e, hb⟩ | ⟨b, cc, e1, e2, e3⟩
    · exact hX'.below.trans (hb.mono hX'.below.size)
    · have := hX'.above _ _ _ e1
      rw [e3]
      have ho := only_cells b (flat 1 1 (cellN [x])) (l.length * 1) X X (Only.refl b X)
      exact hX'.below.trans (ho.below this)
  · intro b j u hu hn
    rcases hj.way with ⟨cc, e, hb⟩ | ⟨b', cc, e1, e2, e3⟩
    · exact (hb.cell (p := ⟨b, j, none⟩) (cell_lt hu)).trans hu
    · injection e1 with e1
      rw [e3, World.cell?_setCells_out]
      · exact hu
      · intro eb _
        left
        have := hn _ e1 eb.symm
        show j < l.length * 1
        omega
theorem num_one (V : World) (x : Int) : SliceAt (V.alloc (.cells #[.int .i64 x] 3)) (.slice (some ⟨V.heap.size, 0, none⟩) 1 1) 1 1 (cellN [x]) :=
  one_slice V 3 1 #[.int .i64 x] (cellN [x]) (fun j hj => by
    have : j = 0 := by omega
    subst this
    rfl) rfl

set_option maxRecDepth 100000 in
set_option maxHeartbeats 1000000 in
theorem same_any (s t : Value) (a b : List Int) (w : World) (ha : NV w s a) (hb : NV w t b) (la : a.length ≤ 1000) (lb : b.length ≤ 1000) :
    Calls Try.prog 16 #[s, t] w fun e w' => e = .returned (.bool (decide (a = b))) ∧ Below w.heap.size w w' := by
  obtain ⟨o1, c1, rfl, hc1, h1⟩ := ha
  obtain ⟨o2, c2, rfl, hc2, h2⟩ := hb
  by_cases hlen : a.length = b.length
  · rw [← hlen] at h2 hc2
    have hl2 : (b.length : Int) = (a.length : Int) := by omega
    have hP : Hid (∀ k, k ≤ a.length → (∀ i, i < k → a.getD i 0 = b.getD i 0) ∨ True) := fun k _ => .inr trivial
    have hend : Hid ((∀ i, i < a.length → a.getD i 0 = b.getD i 0) → decide (a = b) = true) := fun h => decide_eq_true (by
      apply List.ext_getElem hlen
      intro i h3 h4
      have := h i h3
      rw [List.getD_eq_getElem?_getD, List.getD_eq_getElem?_getD, List.getElem?_eq_getElem h3, List.getElem?_eq_getElem h4] at this
      exact this)
    have hstop : Hid (∀ k, k < a.length → a.getD k 0 ≠ b.getD k 0 → decide (a = b) = false) := fun k hk h => decide_eq_false fun e => h (by rw [e])
    rw [← hlen]
    have H1 := Lib.hid h1
    have H2 := Lib.hid h2
    clear h1 h2 hP hl2
    generalize decide (a = b) = R at *
    clear hlen lb
    go_enter Try.func16, Try.ntmps16
    go_wp2
    go_loopw [5] (fun x wr => ∃ k : Nat, x = .int .i64 (k : Int) ∧ k ≤ a.length ∧ Hid (∀ i, i < k → a.getD i 0 = b.getD i 0) ∧ Below w.heap.size w wr) (fun x _ => ((a.length : Int) - intOf x).toNat)
    case atStart => exact ⟨0, rfl, by omega, fun i hi => absurd hi (Nat.not_lt_zero i), Below.refl _ _⟩
    case round =>
      obtain ⟨k, rfl, hk, hE, hB⟩ := hrel
      by_cases hkl : k < a.length
      · have hki : (k : Int) < (a.length : Int) := by omega
        obtain ⟨b1, off1, rfl, hx1⟩ := H1.out k hkl
        obtain ⟨b2, off2, rfl, hx2⟩ := H2.out k hkl
        have hy1 := (hB.cell (p := ⟨b1, off1 + k, none⟩) (cell_lt hx1)).trans hx1
        have hy2 := (hB.cell (p := ⟨b2, off2 + k, none⟩) (cell_lt hx2)).trans hx2
        have hn := hstop.out k hkl
        have hs : Hid (a.getD k 0 = b.getD k 0 → ∀ i, i < k + 1 → a.getD i 0 = b.getD i 0) := fun h i hi => by
          by_cases e : i = k
          · subst e; exact h
          · exact hE.out i (by omega)
        clear hx1 hx2
        generalize a.getD k 0 = x at *
        generalize b.getD k 0 = y at *
        by_cases hxy : x = y
        · subst hxy
          have HS := hs.out rfl
          have HS2 : Hid (∀ i, i < k + 1 → a.getD i 0 = b.getD i 0) := HS
          clear hn hs HS
          have hxb : (x != x) = false := by simp
          go_wp2
          go_quiet (fail)
          go_wp2
          go_roundw
          case rel => exact ⟨k + 1, rfl, by omega, HS2, below_drewN hB _⟩
          case measure => simp only [intOf]; omega
        · have hR := hn hxy
          subst hR
          have hxb : (x != y) = true := by rw [bne_iff_ne]; exact hxy
          clear hn hs
          go_wp2
          go_quiet (fail)
          go_wp2
          go_ret
          exact ⟨rfl, below_drewN hB _⟩
      · have hki : ¬ (k : Int) < (a.length : Int) := by omega
        have hke : k = a.length := by omega
        subst hke
        have hR := hend.out hE.out
        subst hR
        go_wp2
        go_ret
        exact ⟨rfl, hB⟩
  · have hne : decide (a = b) = false := decide_eq_false fun h => hlen (by rw [h])
    have hnb : ((a.length : Int) != (b.length : Int)) = true := by rw [bne_iff_ne]; omega
    rw [hne]
    clear h1 h2
    go_enter Try.func16, Try.ntmps16
    go_wp2
    go_ret
    exact ⟨rfl, Below.refl _ _⟩

end Go.Proofs.Ytlfpfijhimngmaa.Edits

/-
  spoilt: its beginning.
-/
import Derived.Test.YtpmibcdmaaagjaaDoorC5
import Derived.Test.YtpmibcdmaaagjaaDoorAZ
import Derived.Deep.Cut
namespace Go.Proofs.YtpmibcdmaaagjaaDoor.Atoms
open Go.RowKit Go.Shelf
set_option linter.unusedVariables false
set_option linter.unusedSimpArgs false

theorem pre_one (ps : List Pre) : ∀ i, i < ps.length → ∀ j, j < 6 → (cellP ps i j).oneCell' = true := by
  intro i hi j hj
  unfold cellP Pre.cell Pre.cs
  match j, hj with
  | 0, _ => rfl
  | 1, _ => rfl
  | 2, _ => rfl
  | 3, _ => rfl
  | 4, _ => rfl
  | 5, _ => rfl

/-- append([]X{}, s...): the rows of s in a block of their own. -/
theorem clone_app {w0 : World} {t e : TypeId} {k m : Nat} {s2 : Value} {g : Nat → Nat → Value} (hE : Elem t e k) (hB : SliceAt w0 s2 k m g) (h1 : ∀ i, i < m → ∀ j, j < k → (g i j).oneCell' = true) (hm : m ≤ 2000) :
    ∃ V b c, (∀ ty, (Builtin.append_ #[t, t] ty #[.slice (some ⟨w0.heap.size, 0, none⟩) 0 0, s2]).run Tryd.prog (w0.alloc (.cells #[] e)) = .ok (.slice (some ⟨b, 0, none⟩) m c) V) ∧ SliceAt V (.slice (some ⟨b, 0, none⟩) m c) k m g ∧ w0.heap.size ≤ b ∧ Below w0.heap.size w0 V := by
  have hu : Below w0.heap.size w0 (w0.alloc (.cells #[] e)) := (Below.refl _ _).alloc (Nat.le_refl _) _
  have hz : (w0.alloc (.cells #[] e)).heap.size = w0.heap.size + 1 := World.size_alloc _ _
  have hB' := SliceAt.go hB hu
  have hA : SliceAt (w0.alloc (.cells #[] e)) (.slice (some ⟨w0.heap.size, 0, none⟩) 0 0) k 0 g := .inr ⟨_, _, rfl, Nat.le_refl _, fun j hj => by simp at hj, Grid.new w0 _ k 0 g #[] (fun i hi => absurd hi (by omega))⟩
  obtain ⟨V, s, hr, hj⟩ := append_any hE hA (fun i hi => absurd hi (by omega)) (SliceAt.source hE hB' h1) (by omega) (.inr (by simp))
  have hrows : SliceAt V s k m g := by
    have := hj.rows
    rw [Nat.zero_add] at this
    exact this
  rcases hj.way with ⟨c, rfl, hb⟩ | ⟨b, c, e1, rfl, rfl⟩
  · rw [Nat.zero_add] at hrows hr
    exact ⟨V, _, c, hr, hrows, by omega, hu.trans (hb.mono (by omega))⟩
  · injection e1 with e1 e2 e3
    injection e1 with e1
    injection e1 with e1
    subst e1
    rw [Nat.zero_add] at hrows
    refine ⟨_, _, c, fun ty => by rw [hr ty, Nat.zero_add], hrows, Nat.le_refl _, hu.trans ((only_cells _ _ _ _ _ (Only.refl _ _)).below (Nat.le_refl _))⟩

/-- The boxes of spoilt: the table, the turn, the answer. -/
structure SpI (w V : World) (N : Nat) (sa sp : Value) (how at_ n : Int) (tx : ByteArray) : Prop where
  t0 : V.cell? ⟨N, 0, none⟩ = some sa
  t1 : V.cell? ⟨N, 1, none⟩ = some sp
  tf : ∀ j, V.frozen? ⟨N, j, none⟩ = false
  q0 : V.cell? ⟨N + 1, 0, none⟩ = some (.int .i64 how)
  q1 : V.cell? ⟨N + 1, 1, none⟩ = some (.int .i64 at_)
  q2 : V.cell? ⟨N + 1, 2, none⟩ = some (.int .i64 n)
  q3 : V.cell? ⟨N + 1, 3, none⟩ = some (.string tx)
  r0 : V.cell? ⟨N + 1 + 1, 0, none⟩ = some (.slice none 0 0)
  r1 : V.cell? ⟨N + 1 + 1, 1, none⟩ = some (.slice none 0 0)
  rf : ∀ j, V.frozen? ⟨N + 1 + 1, j, none⟩ = false
  below : Below N w V
  size : N + 3 ≤ V.heap.size
theorem SpI.go {w V V' : World} {N : Nat} {sa sp : Value} {how at_ n : Int} {tx : ByteArray} (h : SpI w V N sa sp how at_ n tx) (hb : Below (N + 3) V V') : SpI w V' N sa sp how at_ n tx := by
  have hs := h.size
  have c : ∀ b j, b < N + 3 → V'.cell? ⟨b, j, none⟩ = V.cell? ⟨b, j, none⟩ := fun b j hlt => hb.cell (p := ⟨b, j, none⟩) hlt
  have f : ∀ b j, b < N + 3 → V'.frozen? ⟨b, j, none⟩ = V.frozen? ⟨b, j, none⟩ := fun b j hlt => hb.frozen (p := ⟨b, j, none⟩) hlt
  exact ⟨(c _ _ (by omega)).trans h.t0, (c _ _ (by omega)).trans h.t1, fun j => (f _ _ (by omega)).trans (h.tf j), (c _ _ (by omega)).trans h.q0, (c _ _ (by omega)).trans h.q1, (c _ _ (by omega)).trans h.q2, (c _ _ (by omega)).trans h.q3,
    (c _ _ (by omega)).trans h.r0, (c _ _ (by omega)).trans h.r1, fun j => (f _ _ (by omega)).trans (h.rf j), h.below.trans (hb.mono (by omega)), Nat.le_trans hs hb.size⟩
theorem cell_off {V : World} {b i b' j : Nat} {u x : Value} (h : V.cell? ⟨b', j, none⟩ = some x) (hn : b ≠ b' ∨ i ≠ j) : (V.setCell ⟨b, i, none⟩ u).cell? ⟨b', j, none⟩ = some x := by
  rw [World.cell?_setCell_other _ _ _ _ (by intro hh; injection hh with e1 e2; rcases hn with hn | hn; exact hn e1; exact hn e2)]
  exact h
theorem SpI.set0 {w V : World} {N : Nat} {sa sp : Value} {how at_ n : Int} {tx : ByteArray} (h : SpI w V N sa sp how at_ n tx) (s : Value) : SpI w (V.setCell ⟨N, 0, none⟩ s) N s sp how at_ n tx :=
  ⟨World.cell?_setCell_same _ _ _ h.t0, cell_off h.t1 (by omega), fun j => (World.frozen?_setCell _ _ _ _).trans (h.tf j), cell_off h.q0 (by omega), cell_off h.q1 (by omega), cell_off h.q2 (by omega), cell_off h.q3 (by omega), cell_off h.r0 (by omega), cell_off h.r1 (by omega),
    fun j => (World.frozen?_setCell _ _ _ _).trans (h.rf j), h.below.setCell (p := ⟨N, 0, none⟩) (Nat.le_refl _) _, by rw [World.size_setCell]; exact h.size⟩
theorem SpI.set1 {w V : World} {N : Nat} {sa sp : Value} {how at_ n : Int} {tx : ByteArray} (h : SpI w V N sa sp how at_ n tx) (s : Value) : SpI w (V.setCell ⟨N, 1, none⟩ s) N sa s how at_ n tx :=
  ⟨cell_off h.t0 (by omega), World.cell?_setCell_same _ _ _ h.t1, fun j => (World.frozen?_setCell _ _ _ _).trans (h.tf j), cell_off h.q0 (by omega), cell_off h.q1 (by omega), cell_off h.q2 (by omega), cell_off h.q3 (by omega), cell_off h.r0 (by omega), cell_off h.r1 (by omega),
    fun j => (World.frozen?_setCell _ _ _ _).trans (h.rf j), h.below.setCell (p := ⟨N, 1, none⟩) (Nat.le_refl _) _, by rw [World.size_setCell]; exact h.size⟩

/-- A slice that lies in none of three blocks, nor in the three boxes. -/
def Off (N b1 b2 ab : Nat) (x : Value) : Prop := ∀ a n c, x = .slice (some a) n c → a.block ≠ b1 ∧ a.block ≠ b2 ∧ a.block ≠ ab ∧ (a.block < N ∨ N + 3 ≤ a.block)
theorem SliceAt.only {V V' : World} {x : Value} {k n b : Nat} {f : Nat → Nat → Value} (h : SliceAt V x k n f) (ho : Only b V V') (hn : ∀ a n c, x = .slice (some a) n c → a.block ≠ b) : SliceAt V' x k n f := by
  rcases h with h | ⟨b', c, rfl, hc, hm, hg⟩
  · exact .inl h
  · have := hn _ _ _ rfl
    exact .inr ⟨b', c, rfl, hc, hm.block (ho.block b' this), ho.grid hg this⟩
/-- What spoilt has at hand: the atoms, the prefixes, the atom that is changed. -/
structure SpJ (V : World) (N b1 d1 b2 d2 ab : Nat) (s : Value) (rows : List Row) (S : Nat → Value) (ps : List Pre) (r : Row) : Prop where
  grid : Grid V b1 12 rows.length (cellA rows S)
  room : Spare V b1 (d1 * 12)
  cap : rows.length ≤ d1
  pgrid : Grid V b2 6 ps.length (cellP ps)
  proom : Spare V b2 (d2 * 6)
  pcap : ps.length ≤ d2
  box : AtomBox V ab r s
  terms : TermsAt V s r.ts
  all : TermsAll V rows S
  offs : Off N b1 b2 ab s
  off : ∀ i, i < rows.length → Off N b1 b2 ab (S i)
  o1 : N + 3 ≤ b1
  o2 : N + 3 ≤ b2
  oa : N + 3 ≤ ab
  n12 : b1 ≠ b2
  na1 : ab ≠ b1
  na2 : ab ≠ b2
/-- The atom has changed. -/
theorem SpJ.atom {V V' : World} {N b1 d1 b2 d2 ab : Nat} {s s' : Value} {rows : List Row} {S : Nat → Value} {ps : List Pre} {r r' : Row} (h : SpJ V N b1 d1 b2 d2 ab s rows S ps r) (ho : Only ab V V') (hb : AtomBox V' ab r' s') (ht : TermsAt V' s' r'.ts) (hf : Off N b1 b2 ab s') : SpJ V' N b1 d1 b2 d2 ab s' rows S ps r' :=
  ⟨ho.grid h.grid (Ne.symm h.na1), h.room.block (ho.block _ (Ne.symm h.na1)), h.cap, ho.grid h.pgrid (Ne.symm h.na2), h.proom.block (ho.block _ (Ne.symm h.na2)), h.pcap, hb, ht, fun i hi => SliceAt.only (h.all i hi) ho (fun a n c e => (h.off i hi a n c e).2.2.1), hf, h.off, h.o1, h.o2, h.oa, h.n12, h.na1, h.na2⟩
/-- A cell of it has, which is no slice. -/
theorem SpJ.put {V : World} {N b1 d1 b2 d2 ab : Nat} {s : Value} {rows : List Row} {S : Nat → Value} {ps : List Pre} {r r' : Row} (h : SpJ V N b1 d1 b2 d2 ab s rows S ps r) (j : Nat) (hj : j < 12) (u : Value) (hr : ∀ j', j' < 12 → r'.cell s j' = if j' = j then u else r.cell s j') (ht : r'.ts = r.ts) : SpJ (V.setCell ⟨ab, j, none⟩ u) N b1 d1 b2 d2 ab s rows S ps r' := by
  have ho : Only ab V (V.setCell ⟨ab, j, none⟩ u) := (Only.refl _ _).set _ _
  refine h.atom ho ?_ (by rw [ht]; exact SliceAt.only h.terms ho (fun a n c e => (h.offs a n c e).2.2.1)) h.offs
  have := Grid.set h.box 0 j (by omega) hj u
  rw [Nat.zero_mul, Nat.zero_add] at this
  refine this.ext fun i hi j' hj' => ?_
  have hi0 : i = 0 := by omega
  unfold upd
  rw [hr j' hj', hi0]
  by_cases e : j' = j
  · rw [if_pos ⟨rfl, e⟩, if_pos e]
  · rw [if_neg (fun hh => e hh.2), if_neg e]

/-- An atom is written over another one. -/
theorem putRow {V : World} {b i : Nat} {rows : List Row} {S : Nat → Value} (hg : Grid V b 12 rows.length (cellA rows S)) (hi : i < rows.length) (r : Row) (s : Value) : Grid ((((((((((((V.setCell ⟨b, i * 12, none⟩ (.string (bs r.c0))).setCell ⟨b, i * 12 + 1, none⟩ (.string (bs r.c1))).setCell ⟨b, i * 12 + 2, none⟩ (.string (bs r.c2))).setCell ⟨b, i * 12 + 3, none⟩ (.string (bs r.c3))).setCell ⟨b, i * 12 + 4, none⟩ (.string (bs r.c4))).setCell ⟨b, i * 12 + 5, none⟩ (.bool r.m)).setCell ⟨b, i * 12 + 6, none⟩ (.int .i64 r.tag)).setCell ⟨b, i * 12 + 7, none⟩ (.int .i64 r.base)).setCell ⟨b, i * 12 + 8, none⟩ (.int .i64 r.num)).setCell ⟨b, i * 12 + 9, none⟩ (.int .i64 r.den)).setCell ⟨b, i * 12 + 10, none⟩ (.int .i64 r.ten)).setCell ⟨b, i * 12 + 11, none⟩ s) b 12 rows.length (cellA (rows.set i r) (putS S i s)) := by
  refine Grid.ext (Grid.set (Grid.set (Grid.set (Grid.set (Grid.set (Grid.set (Grid.set (Grid.set (Grid.set (Grid.set (Grid.set (Grid.set hg i 0 hi (by omega) (.string (bs r.c0))) i 1 hi (by omega) (.string (bs r.c1))) i 2 hi (by omega) (.string (bs r.c2))) i 3 hi (by omega) (.string (bs r.c3))) i 4 hi (by omega) (.string (bs r.c4))) i 5 hi (by omega) (.bool r.m)) i 6 hi (by omega) (.int .i64 r.tag)) i 7 hi (by omega) (.int .i64 r.base)) i 8 hi (by omega) (.int .i64 r.num)) i 9 hi (by omega) (.int .i64 r.den)) i 10 hi (by omega) (.int .i64 r.ten)) i 11 hi (by omega) s) fun i' hi' j' hj' => ?_
  unfold upd cellA putS
  by_cases e : i' = i
  · subst e
    rw [List.getD_eq_getElem?_getD (l := rows.set i' r), List.getElem?_set_self hi, if_pos rfl]
    match j', hj' with
    | 0, _ => simp [Row.cell, Row.cs]
    | 1, _ => simp [Row.cell, Row.cs]
    | 2, _ => simp [Row.cell, Row.cs]
    | 3, _ => simp [Row.cell, Row.cs]
    | 4, _ => simp [Row.cell, Row.cs]
    | 5, _ => simp [Row.cell, Row.cs]
    | 6, _ => simp [Row.cell, Row.cs]
    | 7, _ => simp [Row.cell, Row.cs]
    | 8, _ => simp [Row.cell, Row.cs]
    | 9, _ => simp [Row.cell, Row.cs]
    | 10, _ => simp [Row.cell, Row.cs]
    | 11, _ => simp [Row.cell, Row.cs]
  · have e' : ∀ j, ¬ (i' = i ∧ j' = j) := fun j h => e h.1
    rw [List.getD_eq_getElem?_getD (l := rows.set i r), List.getElem?_set_ne (fun h => e h.symm), if_neg e, ← List.getD_eq_getElem?_getD]
    simp only [if_neg (e' _)]
theorem putRow_only (V : World) (b i : Nat) (r : Row) (s : Value) : Only b V ((((((((((((V.setCell ⟨b, i * 12, none⟩ (.string (bs r.c0))).setCell ⟨b, i * 12 + 1, none⟩ (.string (bs r.c1))).setCell ⟨b, i * 12 + 2, none⟩ (.string (bs r.c2))).setCell ⟨b, i * 12 + 3, none⟩ (.string (bs r.c3))).setCell ⟨b, i * 12 + 4, none⟩ (.string (bs r.c4))).setCell ⟨b, i * 12 + 5, none⟩ (.bool r.m)).setCell ⟨b, i * 12 + 6, none⟩ (.int .i64 r.tag)).setCell ⟨b, i * 12 + 7, none⟩ (.int .i64 r.base)).setCell ⟨b, i * 12 + 8, none⟩ (.int .i64 r.num)).setCell ⟨b, i * 12 + 9, none⟩ (.int .i64 r.den)).setCell ⟨b, i * 12 + 10, none⟩ (.int .i64 r.ten)).setCell ⟨b, i * 12 + 11, none⟩ s) := by
  repeat' apply Only.set
  exact Only.refl _ _
/-- Its power of ten is a number. -/
def Row.TenOk (r : Row) : Prop := -9223372036854775808 ≤ r.ten ∧ r.ten ≤ 9223372036854775807
/-- Rows that a table may have: no more than m terms each. -/
def RowsOk (m : Nat) (rows : List Row) : Prop := ∀ r ∈ rows, (r.Fine ∧ r.TenOk) ∧ r.ts.length ≤ m
theorem RowsOk.set {m : Nat} {rows : List Row} (h : RowsOk m rows) (i : Nat) {r : Row} (hf : r.Fine ∧ r.TenOk) (hl : r.ts.length ≤ m) : RowsOk m (rows.set i r) := by
  intro x hx
  rcases List.mem_or_eq_of_mem_set hx with hx | rfl
  · exact h x hx
  · exact ⟨hf, hl⟩
/-- How spoilt ends. -/
def SpoiltEnd (M m : Nat) (w : World) (e : Ending) (w' : World) : Prop := ∃ sa sp rows S ps, e = .returned (.agg #[sa, sp]) ∧ AtomsSl w' sa rows S ∧ PrefsSl w' sp ps ∧ rows.length ≤ M ∧ ps.length ≤ 1000 ∧ RowsOk m rows ∧ (∀ p ∈ ps, p.c5.Fine) ∧ Below w.heap.size w w'
theorem SpJ.fin {w V : World} {b d1 b2 d2 ab i M m : Nat} {s : Value} {rows : List Row} {S : Nat → Value} {ps : List Pre} {r : Row} {how at_ n : Int} {tx : ByteArray} (hJ : SpJ V w.heap.size b d1 b2 d2 ab s rows S ps r) (hI : SpI w V w.heap.size (.slice (some ⟨b, 0, none⟩) rows.length d1) (.slice (some ⟨b2, 0, none⟩) ps.length d2) how at_ n tx) (hi : i < rows.length) (hM : rows.length ≤ M) (hp : ps.length ≤ 1000) (hok : RowsOk m rows) (hf : r.Fine ∧ r.TenOk) (hm : r.ts.length ≤ m) (hpf : ∀ p ∈ ps, p.c5.Fine) :
    SpI w ((((((((((((V.setCell ⟨b, i * 12, none⟩ (.string (bs r.c0))).setCell ⟨b, i * 12 + 1, none⟩ (.string (bs r.c1))).setCell ⟨b, i * 12 + 2, none⟩ (.string (bs r.c2))).setCell ⟨b, i * 12 + 3, none⟩ (.string (bs r.c3))).setCell ⟨b, i * 12 + 4, none⟩ (.string (bs r.c4))).setCell ⟨b, i * 12 + 5, none⟩ (.bool r.m)).setCell ⟨b, i * 12 + 6, none⟩ (.int .i64 r.tag)).setCell ⟨b, i * 12 + 7, none⟩ (.int .i64 r.base)).setCell ⟨b, i * 12 + 8, none⟩ (.int .i64 r.num)).setCell ⟨b, i * 12 + 9, none⟩ (.int .i64 r.den)).setCell ⟨b, i * 12 + 10, none⟩ (.int .i64 r.ten)).setCell ⟨b, i * 12 + 11, none⟩ s) w.heap.size (.slice (some ⟨b, 0, none⟩) rows.length d1) (.slice (some ⟨b2, 0, none⟩) ps.length d2) how at_ n tx ∧ SpoiltEnd M m w (.returned (.agg #[.slice (some ⟨b, 0, none⟩) rows.length d1, .slice (some ⟨b2, 0, none⟩) ps.length d2])) ((((((((((((((V.setCell ⟨b, i * 12, none⟩ (.string (bs r.c0))).setCell ⟨b, i * 12 + 1, none⟩ (.string (bs r.c1))).setCell ⟨b, i * 12 + 2, none⟩ (.string (bs r.c2))).setCell ⟨b, i * 12 + 3, none⟩ (.string (bs r.c3))).setCell ⟨b, i * 12 + 4, none⟩ (.string (bs r.c4))).setCell ⟨b, i * 12 + 5, none⟩ (.bool r.m)).setCell ⟨b, i * 12 + 6, none⟩ (.int .i64 r.tag)).setCell ⟨b, i * 12 + 7, none⟩ (.int .i64 r.base)).setCell ⟨b, i * 12 + 8, none⟩ (.int .i64 r.num)).setCell ⟨b, i * 12 + 9, none⟩ (.int .i64 r.den)).setCell ⟨b, i * 12 + 10, none⟩ (.int .i64 r.ten)).setCell ⟨b, i * 12 + 11, none⟩ s).setCell ⟨w.heap.size + 1 + 1, 0, none⟩ (.slice (some ⟨b, 0, none⟩) rows.length d1)).setCell ⟨w.heap.size + 1 + 1, 1, none⟩ (.slice (some ⟨b2, 0, none⟩) ps.length d2)) := by
  have ho := putRow_only V b i r s
  have hg := putRow hJ.grid hi r s
  have hI' := hI.go (ho.below hJ.o1)
  have hpg := ho.grid hJ.pgrid (Ne.symm hJ.n12)
  have hrm : Spare ((((((((((((V.setCell ⟨b, i * 12, none⟩ (.string (bs r.c0))).setCell ⟨b, i * 12 + 1, none⟩ (.string (bs r.c1))).setCell ⟨b, i * 12 + 2, none⟩ (.string (bs r.c2))).setCell ⟨b, i * 12 + 3, none⟩ (.string (bs r.c3))).setCell ⟨b, i * 12 + 4, none⟩ (.string (bs r.c4))).setCell ⟨b, i * 12 + 5, none⟩ (.bool r.m)).setCell ⟨b, i * 12 + 6, none⟩ (.int .i64 r.tag)).setCell ⟨b, i * 12 + 7, none⟩ (.int .i64 r.base)).setCell ⟨b, i * 12 + 8, none⟩ (.int .i64 r.num)).setCell ⟨b, i * 12 + 9, none⟩ (.int .i64 r.den)).setCell ⟨b, i * 12 + 10, none⟩ (.int .i64 r.ten)).setCell ⟨b, i * 12 + 11, none⟩ s) b (d1 * 12) := by
    repeat' apply Spare.set
    exact hJ.room
  have hpr := hJ.proom.block (ho.block b2 (Ne.symm hJ.n12))
  have hall : ∀ i', i' < rows.length → TermsAt ((((((((((((V.setCell ⟨b, i * 12, none⟩ (.string (bs r.c0))).setCell ⟨b, i * 12 + 1, none⟩ (.string (bs r.c1))).setCell ⟨b, i * 12 + 2, none⟩ (.string (bs r.c2))).setCell ⟨b, i * 12 + 3, none⟩ (.string (bs r.c3))).setCell ⟨b, i * 12 + 4, none⟩ (.string (bs r.c4))).setCell ⟨b, i * 12 + 5, none⟩ (.bool r.m)).setCell ⟨b, i * 12 + 6, none⟩ (.int .i64 r.tag)).setCell ⟨b, i * 12 + 7, none⟩ (.int .i64 r.base)).setCell ⟨b, i * 12 + 8, none⟩ (.int .i64 r.num)).setCell ⟨b, i * 12 + 9, none⟩ (.int .i64 r.den)).setCell ⟨b, i * 12 + 10, none⟩ (.int .i64 r.ten)).setCell ⟨b, i * 12 + 11, none⟩ s) (S i') (rows.getD i' default).ts := fun i' hi' => SliceAt.only (hJ.all i' hi') ho (fun a n c e => (hJ.off i' hi' a n c e).1)
  have hs : TermsAt ((((((((((((V.setCell ⟨b, i * 12, none⟩ (.string (bs r.c0))).setCell ⟨b, i * 12 + 1, none⟩ (.string (bs r.c1))).setCell ⟨b, i * 12 + 2, none⟩ (.string (bs r.c2))).setCell ⟨b, i * 12 + 3, none⟩ (.string (bs r.c3))).setCell ⟨b, i * 12 + 4, none⟩ (.string (bs r.c4))).setCell ⟨b, i * 12 + 5, none⟩ (.bool r.m)).setCell ⟨b, i * 12 + 6, none⟩ (.int .i64 r.tag)).setCell ⟨b, i * 12 + 7, none⟩ (.int .i64 r.base)).setCell ⟨b, i * 12 + 8, none⟩ (.int .i64 r.num)).setCell ⟨b, i * 12 + 9, none⟩ (.int .i64 r.den)).setCell ⟨b, i * 12 + 10, none⟩ (.int .i64 r.ten)).setCell ⟨b, i * 12 + 11, none⟩ s) s r.ts := SliceAt.only hJ.terms ho (fun a n c e => (hJ.offs a n c e).1)
  refine ⟨hI', ?_⟩
  generalize ((((((((((((V.setCell ⟨b, i * 12, none⟩ (.string (bs r.c0))).setCell ⟨b, i * 12 + 1, none⟩ (.string (bs r.c1))).setCell ⟨b, i * 12 + 2, none⟩ (.string (bs r.c2))).setCell ⟨b, i * 12 + 3, none⟩ (.string (bs r.c3))).setCell ⟨b, i * 12 + 4, none⟩ (.string (bs r.c4))).setCell ⟨b, i * 12 + 5, none⟩ (.bool r.m)).setCell ⟨b, i * 12 + 6, none⟩ (.int .i64 r.tag)).setCell ⟨b, i * 12 + 7, none⟩ (.int .i64 r.base)).setCell ⟨b, i * 12 + 8, none⟩ (.int .i64 r.num)).setCell ⟨b, i * 12 + 9, none⟩ (.int .i64 r.den)).setCell ⟨b, i * 12 + 10, none⟩ (.int .i64 r.ten)).setCell ⟨b, i * 12 + 11, none⟩ s) = V6 at *
  have o2 : Only (w.heap.size + 1 + 1) V6 ((V6.setCell ⟨w.heap.size + 1 + 1, 0, none⟩ (.slice (some ⟨b, 0, none⟩) rows.length d1)).setCell ⟨w.heap.size + 1 + 1, 1, none⟩ (.slice (some ⟨b2, 0, none⟩) ps.length d2)) := ((Only.refl _ _).set _ _).set _ _
  have h1 := hJ.o1
  have h2 := hJ.o2
  refine ⟨_, _, rows.set i r, putS S i s, ps, rfl, ⟨?_, ?_⟩, ?_, by rw [List.length_set]; exact hM, hp, hok.set i hf hm, hpf, hI'.below.trans (o2.below (by omega))⟩
  · rw [List.length_set]
    exact .inr ⟨b, d1, rfl, hJ.cap, hrm.block (o2.block b (by omega)), o2.grid hg (by omega)⟩
  · intro i' hi'
    rw [List.length_set] at hi'
    unfold putS
    by_cases e : i' = i
    · subst e
      rw [if_pos rfl, List.getD_eq_getElem?_getD, List.getElem?_set_self hi']
      exact SliceAt.only hs o2 (fun a n c e => by have := (hJ.offs a n c e).2.2.2; omega)
    · rw [if_neg e, List.getD_eq_getElem?_getD, List.getElem?_set_ne (fun h => e h.symm), ← List.getD_eq_getElem?_getD]
      exact SliceAt.only (hall i' hi') o2 (fun a n c e => by have := (hJ.off i' hi' a n c e).2.2.2; omega)
  · exact .inr ⟨b2, d2, rfl, hJ.pcap, hpr.block (o2.block b2 (by omega)), o2.grid hpg (by omega)⟩

end Go.Proofs.YtpmibcdmaaagjaaDoor.Atoms

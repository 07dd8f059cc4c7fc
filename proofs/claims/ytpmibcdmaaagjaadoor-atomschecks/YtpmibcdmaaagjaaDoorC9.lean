/-
  spoilt: what its appends change.
-/
import Derived.Test.YtpmibcdmaaagjaaDoorC7
namespace Go.Proofs.YtpmibcdmaaagjaaDoor.Atoms
open Go.RowKit Go.Shelf
set_option linter.unusedVariables false
set_option linter.unusedSimpArgs false

/-- Other terms are tied to the atom; the atoms, the prefixes and its box lie as they lay. -/
theorem SpJ.retie {V V' : World} {N b1 d1 b2 d2 ab : Nat} {s : Value} {rows : List Row} {S : Nat → Value} {ps : List Pre} {r : Row} (h : SpJ V N b1 d1 b2 d2 ab s rows S ps r) (hs : V.heap.size ≤ V'.heap.size) (e1 : V'.heap[b1]? = V.heap[b1]?) (e2 : V'.heap[b2]? = V.heap[b2]?) (ea : V'.heap[ab]? = V.heap[ab]?) (hall : TermsAll V' rows S)
    {s' : Value} {ts' : List (Int × Int)} (ht : TermsAt V' s' ts') (hf : Off N b1 b2 ab s') : SpJ (V'.setCell ⟨ab, 11, none⟩ s') N b1 d1 b2 d2 ab s' rows S ps { r with ts := ts' } := by
  have ho : Only ab V' (V'.setCell ⟨ab, 11, none⟩ s') := (Only.refl _ _).set _ _
  refine ⟨ho.grid (h.grid.block hs e1) (Ne.symm h.na1), (h.room.block e1).block (ho.block _ (Ne.symm h.na1)), h.cap, ho.grid (h.pgrid.block hs e2) (Ne.symm h.na2), (h.proom.block e2).block (ho.block _ (Ne.symm h.na2)), h.pcap, ?_, SliceAt.only ht ho (fun a n c e => (hf a n c e).2.2.1), fun i hi => SliceAt.only (hall i hi) ho (fun a n c e => (h.off i hi a n c e).2.2.1), hf, h.off, h.o1, h.o2, h.oa, h.n12, h.na1, h.na2⟩
  have hb : Grid V' ab 12 1 (fun _ j => r.cell s j) := Grid.block h.box hs ea
  have := Grid.set hb 0 11 (by omega) (by omega) s'
  rw [Nat.zero_mul, Nat.zero_add] at this
  refine this.ext fun i hi j' hj' => ?_
  have hi0 : i = 0 := by omega
  subst hi0
  match j', hj' with
  | 0, _ => rfl
  | 1, _ => rfl
  | 2, _ => rfl
  | 3, _ => rfl
  | 4, _ => rfl
  | 5, _ => rfl
  | 6, _ => rfl
  | 7, _ => rfl
  | 8, _ => rfl
  | 9, _ => rfl
  | 10, _ => rfl
  | 11, _ => rfl
theorem term_cat (ts : List (Int × Int)) (t : Int × Int) : ∀ i, i < ts.length + 1 → ∀ j, j < 2 → both ts.length (cellT ts) (cellT [t]) i j = cellT (ts ++ [t]) i j := by
  intro i hi j hj
  unfold both cellT
  rw [List.getD_eq_getElem?_getD (l := ts ++ [t])]
  by_cases h : i < ts.length
  · rw [if_pos h, List.getElem?_append_left h, ← List.getD_eq_getElem?_getD]
  · rw [if_neg h, List.getElem?_append_right (by omega), ← List.getD_eq_getElem?_getD]
/-- A term more. -/
theorem SpJ.more {V V' : World} {N b1 d1 b2 d2 ab b4 d4 : Nat} {rows : List Row} {S : Nat → Value} {ps : List Pre} {r : Row} {s' : Value} {t : Int × Int} {o : Obj} (h : SpJ V N b1 d1 b2 d2 ab (.slice (some ⟨b4, 0, none⟩) r.ts.length d4) rows S ps r)
    (hold : ∀ i, i < rows.length → ∀ a n c, S i = .slice (some a) n c → a.block < N) (h4 : ab < b4) (h14 : b1 < b4) (h24 : b2 < b4)
    (hj : Joined (V.alloc o) V' (.slice (some ⟨b4, 0, none⟩) r.ts.length d4) s' 2 r.ts.length 1 (cellT r.ts) (cellT [t])) :
    SpJ (V'.setCell ⟨ab, 11, none⟩ s') N b1 d1 b2 d2 ab s' rows S ps { r with ts := r.ts ++ [t] } ∧ Below (N + 3) V (V'.setCell ⟨ab, 11, none⟩ s') ∧ (∃ o c, s' = .slice o (r.ts.length + 1) c) ∧ V'.heap[ab]? = V.heap[ab]? ∧ V.heap.size ≤ V'.heap.size := by
  have hu : Below V.heap.size V (V.alloc o) := (Below.refl _ _).alloc (Nat.le_refl _) _
  have hz : (V.alloc o).heap.size = V.heap.size + 1 := World.size_alloc _ _
  have l1 := h.grid.2.2
  have l2 := h.pgrid.2.2
  have la := h.box.2.2
  have o1 := h.o1
  have o2 := h.o2
  have oa := h.oa
  have ht : TermsAt V' s' (r.ts ++ [t]) := by
    show SliceAt V' s' 2 (r.ts ++ [t]).length _
    rw [List.length_append]
    exact SliceAt.ext hj.rows (term_cat r.ts t)
  rcases hj.way with ⟨c, rfl, hb⟩ | ⟨b, c, e1, rfl, rfl⟩
  · have hbb : Below V.heap.size V V' := hu.trans (hb.mono (by omega))
    refine ⟨h.retie hbb.size (hbb.block _ l1) (hbb.block _ l2) (hbb.block _ la) (fun i hi => SliceAt.go (h.all i hi) hbb) ht ?_, (hbb.mono (by omega)).trans ((((Only.refl _ _).set _ _) : Only ab V' _).below oa), ⟨_, _, rfl⟩, hbb.block _ la, hbb.size⟩
    intro a n c e
    injection e with e
    injection e with e
    subst e
    refine ⟨?_, ?_, ?_, ?_⟩ <;> (show (_ : Prop)) <;> simp only [] <;> omega
  · injection e1 with e1 e2 e3
    injection e1 with e1
    injection e1 with e1
    subst e1
    have ho := only_cells b4 (flat 2 1 (cellT [t])) (r.ts.length * 2) (V.alloc o) (V.alloc o) (Only.refl _ _)
    have hs4 : V.heap.size ≤ ((V.alloc o).setCells b4 (r.ts.length * 2) (flat 2 1 (cellT [t]))).heap.size := by have := ho.size; omega
    refine ⟨h.retie hs4 ((ho.block _ (by omega)).trans (hu.block _ l1)) ((ho.block _ (by omega)).trans (hu.block _ l2)) ((ho.block _ (by omega)).trans (hu.block _ la)) (fun i hi => SliceAt.only (SliceAt.go (h.all i hi) hu) ho (fun a n c e => by have := hold i hi a n c e; omega)) ht ?_, ((hu.mono (by omega)).trans (ho.below (by omega))).trans ((((Only.refl _ _).set _ _) : Only ab _ _).below oa), ⟨_, _, rfl⟩, (ho.block _ (by omega)).trans (hu.block _ la), hs4⟩
    intro a n c e
    injection e with e
    injection e with e
    subst e
    refine ⟨?_, ?_, ?_, ?_⟩ <;> (show (_ : Prop)) <;> simp only [] <;> omega

theorem SliceAt.lt {V : World} {x : Value} {k n : Nat} {f : Nat → Nat → Value} (h : SliceAt V x k n f) : ∀ a m c, x = .slice (some a) m c → a.block < V.heap.size := by
  intro a m c e
  rcases h with ⟨_, rfl⟩ | ⟨b, c', rfl, _, _, hg⟩
  · cases e
  · injection e with e
    injection e with e
    subst e
    exact hg.2.2
/-- An atom more. -/
theorem SpJ.grow {V V' : World} {N b1 d1 b2 d2 ab : Nat} {s s' x : Value} {rows : List Row} {S : Nat → Value} {ps : List Pre} {r q : Row} {o : Obj} (h : SpJ V N b1 d1 b2 d2 ab s rows S ps r) (hq : TermsAt V x q.ts) (hx : Off N b1 b2 ab x)
    (hj : Joined (V.alloc o) V' (.slice (some ⟨b1, 0, none⟩) rows.length d1) s' 12 rows.length 1 (cellA rows S) (cellA [q] fun _ => x)) :
    ∃ b d, s' = .slice (some ⟨b, 0, none⟩) (rows.length + 1) d ∧ SpJ V' N b d b2 d2 ab s (rows ++ [q]) (catS rows.length S fun _ => x) ps r ∧ Below (N + 3) V V' := by
  have hu : Below V.heap.size V (V.alloc o) := (Below.refl _ _).alloc (Nat.le_refl _) _
  have hz : (V.alloc o).heap.size = V.heap.size + 1 := World.size_alloc _ _
  have l1 := h.grid.2.2
  have l2 := h.pgrid.2.2
  have la := h.box.2.2
  have o1 := h.o1
  have o2 := h.o2
  have oa := h.oa
  have hc12 := cat_cells rows [q] S (fun _ => x)
  have hln : (rows ++ [q]).length = rows.length + 1 := by rw [List.length_append]; rfl
  obtain ⟨b, d, rfl, hd, hsp, hg0⟩ : ∃ b d, s' = .slice (some ⟨b, 0, none⟩) (rows.length + 1) d ∧ rows.length + 1 ≤ d ∧ Spare V' b (d * 12) ∧ Grid V' b 12 (rows.length + 1) (both rows.length (cellA rows S) (cellA [q] fun _ => x)) := by
    rcases hj.rows with ⟨h0, _⟩ | ⟨b, d, hs, hd, hsp, hg⟩
    · omega
    · exact ⟨b, d, hs, hd, hsp, hg⟩
  have hg : Grid V' b 12 (rows ++ [q]).length (cellA (rows ++ [q]) (catS rows.length S fun _ => x)) := by
    rw [hln]
    exact hg0.ext fun i hi j hj => hc12 i hi j hj
  have one : ∀ {W : World}, TermsAt W x q.ts → TermsAll W [q] (fun _ => x) := fun hw i hi => by
    have : i = 0 := by simp at hi; omega
    subst this
    exact hw
  have offc : ∀ {B : Nat}, (∀ i, i < rows.length → Off N B b2 ab (S i)) → Off N B b2 ab x → ∀ i, i < (rows ++ [q]).length → Off N B b2 ab (catS rows.length S (fun _ => x) i) := by
    intro B h1 h2 i hi
    unfold catS
    by_cases e : i < rows.length
    · rw [if_pos e]; exact h1 i e
    · rw [if_neg e]; exact h2
  refine ⟨b, d, rfl, ?_⟩
  rcases hj.way with ⟨c, e1, hb⟩ | ⟨b', c, e1, e2, rfl⟩
  · injection e1 with e1 e2 e3
    injection e1 with e1
    injection e1 with e1
    subst e1 e3
    have hbb : Below V.heap.size V V' := hu.trans (hb.mono (by omega))
    have mv : ∀ {y : Value} {ts : List (Int × Int)}, TermsAt V y ts → Off N b1 b2 ab y → Off N (V.alloc o).heap.size b2 ab y := fun hy hf a n c e => ⟨by have := SliceAt.lt hy a n c e; omega, (hf a n c e).2⟩
    exact ⟨⟨hg, hsp, by rw [hln]; exact hd, h.pgrid.go hbb, h.proom.block (hbb.block _ l2), h.pcap, Grid.go h.box hbb, SliceAt.go h.terms hbb, cat_terms (fun i hi => SliceAt.go (h.all i hi) hbb) (one (SliceAt.go hq hbb)), mv h.terms h.offs, offc (fun i hi => mv (h.all i hi) (h.off i hi)) (mv hq hx), by omega, o2, oa, by omega, by omega, h.na2⟩, hbb.mono (by omega)⟩
  · injection e1 with e1 e3 e4
    injection e1 with e1
    injection e1 with e1
    injection e2 with e2 e5 e6
    injection e2 with e2
    injection e2 with e2
    subst e1
    have e7 := e2.symm
    subst e7
    have ho := only_cells b1 (flat 12 1 (cellA [q] fun _ => x)) (rows.length * 12) (V.alloc o) (V.alloc o) (Only.refl _ _)
    have kp : ∀ {y : Value} {ts : List (Int × Int)}, TermsAt V y ts → Off N b1 b2 ab y → TermsAt ((V.alloc o).setCells b1 (rows.length * 12) (flat 12 1 (cellA [q] fun _ => x))) y ts := fun hy hf => SliceAt.only (SliceAt.go hy hu) ho (fun a n c e => (hf a n c e).1)
    exact ⟨⟨hg, hsp, by rw [hln]; exact hd, ho.grid (h.pgrid.go hu) (Ne.symm h.n12), (h.proom.block (hu.block _ l2)).block (ho.block _ (Ne.symm h.n12)), h.pcap, ho.grid (Grid.go h.box hu) h.na1, kp h.terms h.offs, cat_terms (fun i hi => kp (h.all i hi) (h.off i hi)) (one (kp hq hx)), h.offs, offc h.off hx, o1, o2, oa, h.n12, h.na1, h.na2⟩, (hu.mono (by omega)).trans (ho.below o1)⟩
/-- The table's box is turned. -/
theorem SpJ.box0 {V : World} {N b1 d1 b2 d2 ab : Nat} {s : Value} {rows : List Row} {S : Nat → Value} {ps : List Pre} {r : Row} (h : SpJ V N b1 d1 b2 d2 ab s rows S ps r) (j : Nat) (u : Value) : SpJ (V.setCell ⟨N, j, none⟩ u) N b1 d1 b2 d2 ab s rows S ps r := by
  have ho : Only N V (V.setCell ⟨N, j, none⟩ u) := (Only.refl _ _).set _ _
  have o1 := h.o1
  have o2 := h.o2
  have oa := h.oa
  exact ⟨ho.grid h.grid (by omega), h.room.block (ho.block _ (by omega)), h.cap, ho.grid h.pgrid (by omega), h.proom.block (ho.block _ (by omega)), h.pcap, ho.grid h.box (by omega), SliceAt.only h.terms ho (fun a n c e => by have := (h.offs a n c e).2.2.2; omega), fun i hi => SliceAt.only (h.all i hi) ho (fun a n c e => by have := (h.off i hi a n c e).2.2.2; omega), h.offs, h.off, o1, o2, oa, h.n12, h.na1, h.na2⟩
theorem RowsOk.snoc {m : Nat} {rows : List Row} (h : RowsOk m rows) {q : Row} (hf : q.Fine ∧ q.TenOk) (hl : q.ts.length ≤ m) : RowsOk m (rows ++ [q]) := by
  intro x hx
  rcases List.mem_append.1 hx with hx | hx
  · exact h x hx
  · rw [List.mem_singleton.1 hx]; exact ⟨hf, hl⟩
theorem grid_code {V : World} {b n : Nat} {rows : List Row} {S : Nat → Value} (hg : Grid V b 12 n (cellA rows S)) (k : Nat) (hk : k < n) (c : Nat) (hc : c < 5) : V.cell? ⟨b, k * 12 + c, none⟩ = some (.string (bs ((rows.getD k default).c5.get c))) := by
  have := hg.1 k hk c (by omega)
  rw [this]
  match c, hc with
  | 0, _ => rfl
  | 1, _ => rfl
  | 2, _ => rfl
  | 3, _ => rfl
  | 4, _ => rfl
/-- How it stands while atoms are appended: there are k. -/
def Sp13 (w : World) (b2 d2 ab : Nat) (s : Value) (ps : List Pre) (r : Row) (how at_ n : Int) (tx : ByteArray) (n2 m k : Nat) (W : World) : Prop :=
  ∃ rows S b d, rows.length = k ∧ SpJ W w.heap.size b d b2 d2 ab s rows S ps r ∧ SpI w W w.heap.size (.slice (some ⟨b, 0, none⟩) k d) (.slice (some ⟨b2, 0, none⟩) n2 d2) how at_ n tx ∧ RowsOk m rows
/-- A slice of one, in a block of its own. -/
theorem one_slice (V : World) (e : TypeId) (k : Nat) (cs : Array Value) (g : Nat → Nat → Value) (hc : ∀ j, j < k → cs[j]? = some (g 0 j)) (hs : cs.size = k) : SliceAt (V.alloc (.cells cs e)) (.slice (some ⟨V.heap.size, 0, none⟩) 1 1) k 1 g := by
  refine .inr ⟨V.heap.size, 1, rfl, Nat.le_refl _, ?_, Grid.new V e k 1 g cs fun i hi j hj => ?_⟩
  · have := Spare.of_cells (World.alloc_heap_new V (.cells cs e))
    rw [hs] at this
    rw [Nat.one_mul]
    exact this
  · have : i = 0 := by omega
    subst this
    rw [Nat.zero_mul, Nat.zero_add]
    exact hc j hj

end Go.Proofs.YtpmibcdmaaagjaaDoor.Atoms

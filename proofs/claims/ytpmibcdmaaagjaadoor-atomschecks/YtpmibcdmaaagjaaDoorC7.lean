/-
  spoilt: what its ways change.
-/
import Derived.Test.YtpmibcdmaaagjaaDoorC6
namespace Go.Proofs.YtpmibcdmaaagjaaDoor.Atoms
open Go.RowKit Go.Shelf
set_option linter.unusedVariables false
set_option linter.unusedSimpArgs false

theorem old_off {w : World} {N b1 b2 ab k n : Nat} {x : Value} {f : Nat → Nat → Value} (h : SliceAt w x k n f) (hN : N = w.heap.size) (h1 : N + 3 ≤ b1) (h2 : N + 3 ≤ b2) (h3 : N + 3 ≤ ab) : Off N b1 b2 ab x := by
  intro a n' c e
  rcases h with ⟨_, rfl⟩ | ⟨b, c', rfl, _, _, hg⟩
  · cases e
  · injection e with e
    injection e with e
    have := hg.2.2
    subst e
    refine ⟨?_, ?_, ?_, ?_⟩ <;> (show (_ : Prop)) <;> simp only [] <;> omega
theorem SpJ.drew {V : World} {N b1 d1 b2 d2 ab : Nat} {s : Value} {rows : List Row} {S : Nat → Value} {ps : List Pre} {r : Row} (h : SpJ V N b1 d1 b2 d2 ab s rows S ps r) : SpJ V.drew N b1 d1 b2 d2 ab s rows S ps r :=
  ⟨h.grid.go (Below.refl _ _).drew, h.room, h.cap, h.pgrid.go (Below.refl _ _).drew, h.proom, h.pcap, Grid.go h.box (Below.refl _ _).drew, SliceAt.go h.terms (Below.refl _ _).drew, fun i hi => SliceAt.go (h.all i hi) (Below.refl _ _).drew, h.offs, h.off, h.o1, h.o2, h.oa, h.n12, h.na1, h.na2⟩
theorem SpI.drew {w V : World} {N : Nat} {sa sp : Value} {how at_ n : Int} {tx : ByteArray} (h : SpI w V N sa sp how at_ n tx) : SpI w V.drew N sa sp how at_ n tx := h.go (Below.refl _ _).drew
/-- A prefix has changed. -/
theorem SpJ.pref {V V' : World} {N b1 d1 b2 d2 ab : Nat} {s : Value} {rows : List Row} {S : Nat → Value} {ps ps' : List Pre} {r : Row} (h : SpJ V N b1 d1 b2 d2 ab s rows S ps r) (ho : Only b2 V V') (hr : Spare V' b2 (d2 * 6)) (hl : ps'.length = ps.length) (hg : Grid V' b2 6 ps.length (cellP ps')) : SpJ V' N b1 d1 b2 d2 ab s rows S ps' r :=
  ⟨ho.grid h.grid h.n12, h.room.block (ho.block _ h.n12), h.cap, by rw [hl]; exact hg, hr, by rw [hl]; exact h.pcap, ho.grid h.box h.na2, SliceAt.only h.terms ho (fun a n c e => (h.offs a n c e).2.1), fun i hi => SliceAt.only (h.all i hi) ho (fun a n c e => (h.off i hi a n c e).2.1), h.offs, h.off, h.o1, h.o2, h.oa, h.n12, h.na1, h.na2⟩
theorem SpJ.putP {V : World} {N b1 d1 b2 d2 ab : Nat} {s : Value} {rows : List Row} {S : Nat → Value} {ps : List Pre} {r : Row} (h : SpJ V N b1 d1 b2 d2 ab s rows S ps r) (p : Nat) (hp : p < ps.length) (j : Nat) (hj : j < 6) (u : Value) {pr' : Pre} (hr : ∀ j', j' < 6 → pr'.cell j' = if j' = j then u else (ps.getD p default).cell j') : SpJ (V.setCell ⟨b2, p * 6 + j, none⟩ u) N b1 d1 b2 d2 ab s rows S (ps.set p pr') r := by
  refine h.pref ((Only.refl _ _).set _ _) (h.proom.set _ _ _) (List.length_set) ((Grid.set h.pgrid p j hp hj u).ext fun i hi j' hj' => ?_)
  unfold upd cellP
  by_cases e : i = p
  · subst e
    rw [List.getD_eq_getElem?_getD (l := ps.set i pr'), List.getElem?_set_self hp]
    show _ = pr'.cell j'
    rw [hr j' hj']
    by_cases e2 : j' = j
    · rw [if_pos ⟨rfl, e2⟩, if_pos e2]
    · rw [if_neg (fun hh => e2 hh.2), if_neg e2]
  · rw [if_neg (fun hh => e hh.1), List.getD_eq_getElem?_getD (l := ps.set p pr'), List.getElem?_set_ne (fun h => e h.symm), ← List.getD_eq_getElem?_getD]
theorem set_fine {ps : List Pre} (h : ∀ p ∈ ps, p.c5.Fine) (i : Nat) {pr : Pre} (hf : pr.c5.Fine) : ∀ p ∈ ps.set i pr, p.c5.Fine := by
  intro x hx
  rcases List.mem_or_eq_of_mem_set hx with hx | rfl
  · exact h x hx
  · exact hf
/-- A code of a prefix. -/
def Pre.putC (r : Pre) (k : Nat) (t : List UInt8) : Pre := match k with
  | 0 => { r with c0 := t }
  | 1 => { r with c1 := t }
  | 2 => { r with c2 := t }
  | 3 => { r with c3 := t }
  | _ => { r with c4 := t }
theorem preC_cell (r : Pre) (k : Nat) (hk : k < 5) (t : List UInt8) : ∀ j, j < 6 → (r.putC k t).cell j = if j = k then .string (bs t) else r.cell j := by
  intro j hj
  match k, hk with
  | 0, _ => exact (match j, hj with | 0, _ => rfl | 1, _ => rfl | 2, _ => rfl | 3, _ => rfl | 4, _ => rfl | 5, _ => rfl)
  | 1, _ => exact (match j, hj with | 0, _ => rfl | 1, _ => rfl | 2, _ => rfl | 3, _ => rfl | 4, _ => rfl | 5, _ => rfl)
  | 2, _ => exact (match j, hj with | 0, _ => rfl | 1, _ => rfl | 2, _ => rfl | 3, _ => rfl | 4, _ => rfl | 5, _ => rfl)
  | 3, _ => exact (match j, hj with | 0, _ => rfl | 1, _ => rfl | 2, _ => rfl | 3, _ => rfl | 4, _ => rfl | 5, _ => rfl)
  | 4, _ => exact (match j, hj with | 0, _ => rfl | 1, _ => rfl | 2, _ => rfl | 3, _ => rfl | 4, _ => rfl | 5, _ => rfl)
theorem fine5_of : ∀ c : C5, c.c0.length ≤ 9223372036854775807 → c.c1.length ≤ 9223372036854775807 → c.c2.length ≤ 9223372036854775807 → c.c3.length ≤ 9223372036854775807 → c.c4.length ≤ 9223372036854775807 → c.Fine := by
  intro c a0 a1 a2 a3 a4 i
  match i with
  | 0 => exact a0
  | 1 => exact a1
  | 2 => exact a2
  | 3 => exact a3
  | 4 => exact a4
  | (j + 5) => simp [C5.get, C5.l]
theorem preC_fine {r : Pre} (h : r.c5.Fine) (k : Nat) {t : List UInt8} (ht : t.length ≤ 9223372036854775807) : (r.putC k t).c5.Fine := by
  have h0 := h 0
  have h1 := h 1
  have h2 := h 2
  have h3 := h 3
  have h4 := h 4
  simp only [C5.get, C5.l, Pre.c5, List.getD_cons_zero, List.getD_cons_succ] at h0 h1 h2 h3 h4
  unfold Pre.putC
  split
  · exact fine5_of _ ht h1 h2 h3 h4
  · exact fine5_of _ h0 ht h2 h3 h4
  · exact fine5_of _ h0 h1 ht h3 h4
  · exact fine5_of _ h0 h1 h2 ht h4
  · exact fine5_of _ h0 h1 h2 h3 ht
/-- A code of the atom. -/
def Row.putC (r : Row) (k : Nat) (t : List UInt8) : Row := match k with
  | 0 => { r with c0 := t }
  | 1 => { r with c1 := t }
  | 2 => { r with c2 := t }
  | 3 => { r with c3 := t }
  | _ => { r with c4 := t }
theorem code_cell {V : World} {ab : Nat} {r : Row} {s : Value} (h : AtomBox V ab r s) (k : Nat) (hk : k < 5) : V.cell? ⟨ab, k, none⟩ = some (r.cell s k) := by
  have := h.1 0 (by omega) k (by omega)
  rw [Nat.zero_mul, Nat.zero_add] at this
  exact this
theorem putC_cell (r : Row) (k : Nat) (hk : k < 5) (t : List UInt8) (s : Value) : ∀ j, j < 12 → (r.putC k t).cell s j = if j = k then .string (bs t) else r.cell s j := by
  intro j hj
  match k, hk with
  | 0, _ => exact (match j, hj with | 0, _ => rfl | 1, _ => rfl | 2, _ => rfl | 3, _ => rfl | 4, _ => rfl | 5, _ => rfl | 6, _ => rfl | 7, _ => rfl | 8, _ => rfl | 9, _ => rfl | 10, _ => rfl | 11, _ => rfl)
  | 1, _ => exact (match j, hj with | 0, _ => rfl | 1, _ => rfl | 2, _ => rfl | 3, _ => rfl | 4, _ => rfl | 5, _ => rfl | 6, _ => rfl | 7, _ => rfl | 8, _ => rfl | 9, _ => rfl | 10, _ => rfl | 11, _ => rfl)
  | 2, _ => exact (match j, hj with | 0, _ => rfl | 1, _ => rfl | 2, _ => rfl | 3, _ => rfl | 4, _ => rfl | 5, _ => rfl | 6, _ => rfl | 7, _ => rfl | 8, _ => rfl | 9, _ => rfl | 10, _ => rfl | 11, _ => rfl)
  | 3, _ => exact (match j, hj with | 0, _ => rfl | 1, _ => rfl | 2, _ => rfl | 3, _ => rfl | 4, _ => rfl | 5, _ => rfl | 6, _ => rfl | 7, _ => rfl | 8, _ => rfl | 9, _ => rfl | 10, _ => rfl | 11, _ => rfl)
  | 4, _ => exact (match j, hj with | 0, _ => rfl | 1, _ => rfl | 2, _ => rfl | 3, _ => rfl | 4, _ => rfl | 5, _ => rfl | 6, _ => rfl | 7, _ => rfl | 8, _ => rfl | 9, _ => rfl | 10, _ => rfl | 11, _ => rfl)
theorem putC_ts (r : Row) (k : Nat) (t : List UInt8) : (r.putC k t).ts = r.ts := by
  unfold Row.putC; split <;> rfl
theorem putC_ten {r : Row} (h : r.TenOk) (k : Nat) (t : List UInt8) : (r.putC k t).TenOk := by
  unfold Row.putC; split <;> exact h
theorem putC_fine {r : Row} (h : r.Fine) (k : Nat) {t : List UInt8} (ht : t.length ≤ 9223372036854775807) : (r.putC k t).Fine := by
  have hc : ∀ i, i < 5 → (r.c5.get i).length ≤ 9223372036854775807 := fun i _ => h.codes i
  have h0 := h.codes 0
  have h1 := h.codes 1
  have h2 := h.codes 2
  have h3 := h.codes 3
  have h4 := h.codes 4
  simp only [C5.get, C5.l, Row.c5, List.getD_cons_zero, List.getD_cons_succ] at h0 h1 h2 h3 h4
  have key : ∀ c : C5, c.c0.length ≤ 9223372036854775807 → c.c1.length ≤ 9223372036854775807 → c.c2.length ≤ 9223372036854775807 → c.c3.length ≤ 9223372036854775807 → c.c4.length ≤ 9223372036854775807 → c.Fine := by
    intro c a0 a1 a2 a3 a4 i
    match i with
    | 0 => exact a0
    | 1 => exact a1
    | 2 => exact a2
    | 3 => exact a3
    | 4 => exact a4
    | (j + 5) => simp [C5.get, C5.l]
  unfold Row.putC
  split
  · exact ⟨key _ ht h1 h2 h3 h4, h.num, h.den, h.ts⟩
  · exact ⟨key _ h0 ht h2 h3 h4, h.num, h.den, h.ts⟩
  · exact ⟨key _ h0 h1 ht h3 h4, h.num, h.den, h.ts⟩
  · exact ⟨key _ h0 h1 h2 ht h4, h.num, h.den, h.ts⟩
  · exact ⟨key _ h0 h1 h2 h3 ht, h.num, h.den, h.ts⟩
theorem spj_start {w V4 : World} {N b1 d1 b2 d2 ab b4 d4 : Nat} {rows : List Row} {S : Nat → Value} {ps : List Pre} {r : Row} {s0 : Value} (hN : N = w.heap.size) (hbl : Below N w V4) (hA : TermsAll w rows S) (h0 : TermsAt w s0 r.ts) (hg : Grid V4 b1 12 rows.length (cellA rows S)) (hsp : Spare V4 b1 (d1 * 12)) (hdc : rows.length ≤ d1)
    (hgp : Grid V4 b2 6 ps.length (cellP ps)) (hpp : Spare V4 b2 (d2 * 6)) (hdp : ps.length ≤ d2) (hbox : AtomBox V4 ab r s0) (hs4 : TermsAt V4 (.slice (some ⟨b4, 0, none⟩) r.ts.length d4) r.ts) (o1 : N + 3 ≤ b1) (n12 : b1 < b2) (n2a : b2 < ab) (na4 : ab < b4) :
    SpJ (V4.setCell ⟨ab, 11, none⟩ (.slice (some ⟨b4, 0, none⟩) r.ts.length d4)) N b1 d1 b2 d2 ab (.slice (some ⟨b4, 0, none⟩) r.ts.length d4) rows S ps r := by
  subst hN
  have ho : Only ab V4 (V4.setCell ⟨ab, 11, none⟩ (.slice (some ⟨b4, 0, none⟩) r.ts.length d4)) := (Only.refl _ _).set _ _
  have hf4 : Off w.heap.size b1 b2 ab (.slice (some ⟨b4, 0, none⟩) r.ts.length d4) := by
    intro a n c e
    injection e with e
    injection e with e
    subst e
    refine ⟨?_, ?_, ?_, ?_⟩ <;> (show (_ : Prop)) <;> simp only [] <;> omega
  have h : SpJ V4 w.heap.size b1 d1 b2 d2 ab s0 rows S ps r := ⟨hg, hsp, hdc, hgp, hpp, hdp, hbox, SliceAt.go h0 hbl, fun i hi => SliceAt.go (hA i hi) hbl, old_off h0 rfl o1 (by omega) (by omega), fun i hi => old_off (hA i hi) rfl o1 (by omega) (by omega), o1, by omega, by omega, by omega, by omega, by omega⟩
  refine h.atom ho ?_ (SliceAt.only hs4 ho (fun a n c e => (hf4 a n c e).2.2.1)) hf4
  have := Grid.set hbox 0 11 (by omega) (by omega) (.slice (some ⟨b4, 0, none⟩) r.ts.length d4)
  rw [Nat.zero_mul, Nat.zero_add] at this
  refine this.ext fun i hi j' hj' => ?_
  have hi0 : i = 0 := by omega
  subst hi0
  match j', hj' with
  | 0, _ => rfl
  | 1, _ => rfl
  | 2, _ => rfl
  | 3, _ => rfl
  | 4, _ => rfl
  | 5, _ => rfl
  | 6, _ => rfl
  | 7, _ => rfl
  | 8, _ => rfl
  | 9, _ => rfl
  | 10, _ => rfl
  | 11, _ => rfl

end Go.Proofs.YtpmibcdmaaagjaaDoor.Atoms

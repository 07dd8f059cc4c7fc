/-
  spoilt: an atom goes.
-/
import Derived.Test.YtpmibcdmaaagjaaDoorC9
namespace Go.Proofs.YtpmibcdmaaagjaaDoor.Atoms
open Go.RowKit Go.Shelf
set_option linter.unusedVariables false
set_option linter.unusedSimpArgs false

/-- The slices of terms, without the one at a place. -/
def skipS (i : Nat) (S : Nat → Value) : Nat → Value := fun a => if a < i then S a else S (a + 1)
theorem erase_getD (rows : List Row) (i a : Nat) : (rows.eraseIdx i).getD a default = if a < i then rows.getD a default else rows.getD (a + 1) default := by
  rw [List.getD_eq_getElem?_getD, List.getD_eq_getElem?_getD, List.getD_eq_getElem?_getD, List.getElem?_eraseIdx]
  split <;> rfl
/-- append(t[:i], t[i+1:]...). -/
theorem cut_rows {V : World} {b d i off : Nat} {rows : List Row} {S : Nat → Value} (hg : Grid V b 12 rows.length (cellA rows S)) (hsp : Spare V b (d * 12)) (hone : ∀ i, i < rows.length → ∀ j, j < 12 → (cellA rows S i j).oneCell' = true) (hi : i < rows.length) (hd : rows.length ≤ d) (hoff : rows.length = i + 1 ∨ off = (i + 1) * 12) :
    ∃ V', (∀ cc ty, (Builtin.append_ #[26, 26] ty #[.slice (some ⟨b, 0, none⟩) i d, .slice (some ⟨b, off, none⟩) (rows.length - (i + 1)) cc]).run Tryd.prog V = .ok (.slice (some ⟨b, 0, none⟩) (rows.length - 1) d) V') ∧ Only b V V' ∧ Spare V' b (d * 12) ∧ Grid V' b 12 (rows.length - 1) (cellA (rows.eraseIdx i) (skipS i S)) := by
  obtain ⟨inf, hinf, hk, hby, z, hz, hzs⟩ := elem_atom.info
  have hlen := flat_length 12 (rows.length - (i + 1)) (fun a j => cellA rows S (i + 1 + a) j)
  have hsrc : ∀ cc, Src Tryd.prog inf.size 26 (.slice (some ⟨b, off, none⟩) (rows.length - (i + 1)) cc) (rows.length - (i + 1)) (flat 12 (rows.length - (i + 1)) (fun a j => cellA rows S (i + 1 + a) j)) V := by
    intro cc
    refine Src.ofSlice V elem_atom.und _ _ _ _ (by rw [hk]; exact hlen) (fun j u hu => ?_) (fun u hu => ?_)
    · have hj : j < (rows.length - (i + 1)) * 12 := by
        have := (List.getElem?_eq_some_iff.1 hu).1
        rwa [hlen] at this
      rw [flat_get hj] at hu
      replace hu := Option.some.inj hu
      have := hg.1 (i + 1 + j / 12) (by omega) (j % 12) (by omega)
      rw [hu, show (i + 1 + j / 12) * 12 + j % 12 = (i + 1) * 12 + j by omega] at this
      have ho : off = (i + 1) * 12 := by rcases hoff with h | h; omega; exact h
      rw [Addr.add_lit, ho]
      exact this
    · obtain ⟨t, ht⟩ := List.getElem?_of_mem hu
      have hj : t < (rows.length - (i + 1)) * 12 := by
        have := (List.getElem?_eq_some_iff.1 ht).1
        rwa [hlen] at this
      rw [flat_get hj] at ht
      replace ht := Option.some.inj ht
      rw [← ht]
      exact hone _ (by omega) _ (by omega)
  refine ⟨V.setCells b (i * 12) (flat 12 (rows.length - (i + 1)) (fun a j => cellA rows S (i + 1 + a) j)), fun cc ty => ?_, only_cells b _ _ V V (Only.refl _ _), hsp.cells _ _ _, ?_⟩
  · have := run_append_room_src V 26 26 ty 40 inf elem_atom.und hinf b 0 i d _ _ _ (hsrc cc) (by omega) (fun j hj => hsp _ (by rw [hlen] at hj; rw [hk]; omega)) (fun j hj => hg.2.1 _)
    rw [hk, Nat.zero_add, show i + (rows.length - (i + 1)) = rows.length - 1 by omega] at this
    exact this
  · have h1 := Grid.append (m := rows.length - (i + 1)) (g := fun a j => cellA rows S (i + 1 + a) j) (hg.short (show i ≤ rows.length by omega)) (by omega) (fun j hj => hsp j (by omega))
    rw [show i + (rows.length - (i + 1)) = rows.length - 1 by omega] at h1
    refine h1.ext fun a ha j hj => ?_
    show (if a < i then cellA rows S a j else cellA rows S (i + 1 + (a - i)) j) = cellA (rows.eraseIdx i) (skipS i S) a j
    unfold cellA
    rw [erase_getD]
    unfold skipS
    by_cases e : a < i
    · rw [if_pos e, if_pos e, if_pos e]
    · rw [if_neg e, if_neg e, if_neg e, show i + 1 + (a - i) = a + 1 by omega]
/-- How spoilt ends there. -/
theorem SpJ.cut {w V V' : World} {b1 d1 b2 d2 ab i M m : Nat} {s : Value} {rows : List Row} {S : Nat → Value} {ps : List Pre} {r : Row} {how at_ n : Int} {tx : ByteArray} (h : SpJ V w.heap.size b1 d1 b2 d2 ab s rows S ps r) (hI : SpI w V w.heap.size (.slice (some ⟨b1, 0, none⟩) rows.length d1) (.slice (some ⟨b2, 0, none⟩) ps.length d2) how at_ n tx)
    (hi : i < rows.length) (hM : rows.length ≤ M) (hp : ps.length ≤ 1000) (hok : RowsOk m rows) (hpf : ∀ p ∈ ps, p.c5.Fine) (ho : Only b1 V V') (hsp : Spare V' b1 (d1 * 12)) (hg : Grid V' b1 12 (rows.length - 1) (cellA (rows.eraseIdx i) (skipS i S))) :
    SpI w (V'.setCell ⟨w.heap.size, 0, none⟩ (.slice (some ⟨b1, 0, none⟩) (rows.length - 1) d1)) w.heap.size (.slice (some ⟨b1, 0, none⟩) (rows.length - 1) d1) (.slice (some ⟨b2, 0, none⟩) ps.length d2) how at_ n tx
    ∧ SpoiltEnd M m w (.returned (.agg #[.slice (some ⟨b1, 0, none⟩) (rows.length - 1) d1, .slice (some ⟨b2, 0, none⟩) ps.length d2])) (((V'.setCell ⟨w.heap.size, 0, none⟩ (.slice (some ⟨b1, 0, none⟩) (rows.length - 1) d1)).setCell ⟨w.heap.size + 1 + 1, 0, none⟩ (.slice (some ⟨b1, 0, none⟩) (rows.length - 1) d1)).setCell ⟨w.heap.size + 1 + 1, 1, none⟩ (.slice (some ⟨b2, 0, none⟩) ps.length d2)) := by
  have o1 := h.o1
  have o2 := h.o2
  have hI' := (hI.go (ho.below o1)).set0 (.slice (some ⟨b1, 0, none⟩) (rows.length - 1) d1)
  have q1 : Only w.heap.size V' (V'.setCell ⟨w.heap.size, 0, none⟩ (.slice (some ⟨b1, 0, none⟩) (rows.length - 1) d1)) := (Only.refl _ _).set _ _
  have hpg := q1.grid (ho.grid h.pgrid (Ne.symm h.n12)) (by omega)
  have hpr := (h.proom.block (ho.block _ (Ne.symm h.n12))).block (q1.block b2 (by omega))
  have hg1 := q1.grid hg (by omega)
  have hs1 := hsp.block (q1.block b1 (by omega))
  have hall : TermsAll (V'.setCell ⟨w.heap.size, 0, none⟩ (.slice (some ⟨b1, 0, none⟩) (rows.length - 1) d1)) rows S := fun a ha => SliceAt.only (SliceAt.only (h.all a ha) ho (fun x n c e => (h.off a ha x n c e).1)) q1 (fun x n c e => by have := (h.off a ha x n c e).2.2.2; omega)
  refine ⟨hI', ?_⟩
  generalize V'.setCell ⟨w.heap.size, 0, none⟩ (.slice (some ⟨b1, 0, none⟩) (rows.length - 1) d1) = V6 at *
  have q2 : Only (w.heap.size + 1 + 1) V6 ((V6.setCell ⟨w.heap.size + 1 + 1, 0, none⟩ (.slice (some ⟨b1, 0, none⟩) (rows.length - 1) d1)).setCell ⟨w.heap.size + 1 + 1, 1, none⟩ (.slice (some ⟨b2, 0, none⟩) ps.length d2)) := ((Only.refl _ _).set _ _).set _ _
  have hln : (rows.eraseIdx i).length = rows.length - 1 := List.length_eraseIdx_of_lt hi
  refine ⟨_, _, rows.eraseIdx i, skipS i S, ps, rfl, ⟨?_, ?_⟩, ?_, by rw [hln]; omega, hp, fun x hx => hok x (List.mem_of_mem_eraseIdx hx), hpf, hI'.below.trans (q2.below (by omega))⟩
  · rw [hln]
    exact .inr ⟨b1, d1, rfl, by have := h.cap; omega, hs1.block (q2.block b1 (by omega)), q2.grid hg1 (by omega)⟩
  · intro a ha
    rw [hln] at ha
    rw [erase_getD]
    unfold skipS
    by_cases e : a < i
    · rw [if_pos e, if_pos e]
      exact SliceAt.only (hall a (by omega)) q2 (fun x n c e => by have := (h.off a (by omega) x n c e).2.2.2; omega)
    · rw [if_neg e, if_neg e]
      exact SliceAt.only (hall (a + 1) (by omega)) q2 (fun x n c e => by have := (h.off (a + 1) (by omega) x n c e).2.2.2; omega)
  · exact .inr ⟨b2, d2, rfl, h.pcap, hpr.block (q2.block b2 (by omega)), q2.grid hpg (by omega)⟩

end Go.Proofs.YtpmibcdmaaagjaaDoor.Atoms

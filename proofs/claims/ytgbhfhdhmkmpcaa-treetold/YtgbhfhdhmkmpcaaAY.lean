/-
  Contract of drachmlaw05.awake: the chapter's examples hold.
-/
import Derived.Test.YtgbhfhdhmkmpcaaAX
namespace Go.Proofs.Ytgbhfhdhmkmpcaa.Atoms
open Go.RowKit Go.Shelf
set_option linter.unusedVariables false
set_option linter.unusedSimpArgs false

def fineB (c : C5) : Bool := c.l.all fun s => decide (s.length ≤ 1000)
theorem fine_of {c : C5} (h : fineB c = true) : c.Fine := by
  intro i
  unfold C5.get
  by_cases hi : i < c.l.length
  · rw [List.getD_eq_getElem?_getD, List.getElem?_eq_getElem hi]
    have := List.all_eq_true.1 h _ (List.getElem_mem hi)
    have h2 : (c.l[i]).length ≤ 1000 := by simpa using this
    show (c.l[i]).length ≤ _
    omega
  · rw [List.getD_eq_getElem?_getD, List.getElem?_eq_none (by omega)]
    simp
def rowFitsB (r : Row) : Bool := decide (r.ts.length ≤ 1000) && (fineB r.c5 && (decide (r.num ≤ 9223372036854775807) && decide (r.den ≤ 9223372036854775807)))
def fitsB (rows : List Row) : Bool := decide (rows.length ≤ 1000000) && rows.all rowFitsB
def fitsPB (ps : List Pre) : Bool := decide (ps.length ≤ 1000000) && ps.all fun r => fineB r.c5
theorem row_fits {r : Row} (h : rowFitsB r = true) : r.ts.length ≤ 1000000 ∧ r.Fine := by
  simp only [rowFitsB, Bool.and_eq_true, decide_eq_true_eq] at h
  exact ⟨by omega, ⟨fine_of h.2.1, h.2.2.1, h.2.2.2, by omega⟩⟩
theorem getD_all {α : Type} [Inhabited α] {l : List α} {p : α → Bool} (h : l.all p = true) (hd : p default = true) (i : Nat) : p (l.getD i default) = true := by
  by_cases hi : i < l.length
  · rw [List.getD_eq_getElem?_getD, List.getElem?_eq_getElem hi]
    exact List.all_eq_true.1 h _ (List.getElem_mem hi)
  · rw [List.getD_eq_getElem?_getD, List.getElem?_eq_none (by omega)]
    exact hd
theorem fits_of {rows : List Row} (h : fitsB rows = true) : Fits rows := by
  simp only [fitsB, Bool.and_eq_true, decide_eq_true_eq] at h
  have hr := fun i => row_fits (getD_all h.2 (by kernel_rfl) i)
  exact ⟨h.1, fun i => (hr i).1, fun i => (hr i).2⟩
theorem fitsP_of {ps : List Pre} (h : fitsPB ps = true) : FitsP ps := by
  simp only [fitsPB, Bool.and_eq_true, decide_eq_true_eq] at h
  exact ⟨h.1, fun i => fine_of (getD_all h.2 (by kernel_rfl) i)⟩
/-- The table with the code of the first atom for the second one, too. -/
def tableM : List Row := tableRs.set 1 { tableRs.getD 1 default with c0 := [109] }
theorem fitsT : Fits tableRs := fits_of (by kernel_rfl)
theorem fitsM : Fits tableM := fits_of (by kernel_rfl)
theorem fitsPT : FitsP tablePs := fitsP_of (by kernel_rfl)
theorem len_T : tableRs.length = 48 := by kernel_rfl
theorem len_M : tableM.length = 48 := by kernel_rfl
theorem len_P : tablePs.length = 20 := by kernel_rfl
theorem check_T : checkT tableRs tablePs = -1 := by decide +kernel
theorem check_M : checkT tableM tablePs = 1 := by decide +kernel
theorem getM (i : Nat) : tableM.getD i default = if i = 1 then { tableRs.getD 1 default with c0 := [109] } else tableRs.getD i default := by
  unfold tableM
  rw [List.getD_eq_getElem?_getD, List.getElem?_set]
  by_cases h : i = 1
  · subst h
    rw [if_pos rfl, if_pos rfl, len_T]
    rfl
  · rw [if_neg (fun e => h e.symm), if_neg h, List.getD_eq_getElem?_getD]
theorem updM (S : Nat → Value) : ∀ i, i < 48 → ∀ j, j < 12 → upd (cellA tableRs S) 1 0 (.string (bs [109])) i j = cellA tableM S i j := by
  intro i hi j hj
  unfold upd cellA
  rw [getM]
  by_cases e : i = 1
  · subst e
    rw [if_pos rfl]
    unfold Row.cell Row.cs
    match j, hj with
    | 0, _ => simp
    | 1, _ => simp
    | 2, _ => simp
    | 3, _ => simp
    | 4, _ => simp
    | 5, _ => simp
    | 6, _ => simp
    | 7, _ => simp
    | 8, _ => simp
    | 9, _ => simp
    | 10, _ => simp
    | 11, _ => simp
  · rw [if_neg e, if_neg (fun h => e h.1)]
theorem SliceAt.atoms {w : World} {s : Value} {rows : List Row} {S : Nat → Value} (h : AtomsSl w s rows S) (hn : 0 < rows.length) : ∃ b c, s = .slice (some ⟨b, 0, none⟩) rows.length c ∧ rows.length ≤ c ∧ Spare w b (c * 12) ∧ Grid w b 12 rows.length (cellA rows S) := by
  rcases h.1 with ⟨h0, _⟩ | ⟨b, c, hs, hc, hsp, hg⟩
  · omega
  · exact ⟨b, c, hs, hc, hsp, hg⟩
/-- The prefixes do not lie where the atoms do. -/
theorem prefs_apart {w : World} {b p : Nat} {rows : List Row} {S : Nat → Value} {ps : List Pre} (hg : Grid w b 12 rows.length (cellA rows S)) (hp : Grid w p 6 ps.length (cellP ps)) (h1 : 0 < rows.length) (h2 : 0 < ps.length) : p ≠ b := by
  intro e
  subst e
  have a := hg.1 0 h1 5 (by omega)
  have b := hp.1 0 h2 5 (by omega)
  rw [Nat.zero_mul] at a b
  rw [a] at b
  simp [cellA, cellP, Row.cell, Row.cs, Pre.cell, Pre.cs] at b

attribute [local irreducible] tableRs tablePs tableM

end Go.Proofs.Ytgbhfhdhmkmpcaa.Atoms

/-
  Contract of drachmlaw05.awake: the chapter's examples hold.
-/
import Derived.Test.YtpmibcdmaaagjaaDoorAX
namespace Go.Proofs.YtpmibcdmaaagjaaDoor.Atoms
open Go.RowKit Go.Shelf
set_option linter.unusedVariables false
set_option linter.unusedSimpArgs false

def fineB (c : C5) : Bool := c.l.all fun s => decide (s.length ≤ 1000)
theorem fine_of {c : C5} (h : fineB c = true) : c.Fine := by
  intro i
  unfold C5.get
  by_cases hi : i < c.l.length
  · rw [List.getD_eq_getElem?_getD, List.getElem?_eq_getElem hi]
    have := List.all_eq_true.1 h _ (List.getElem_mem hi)
    have h2 : (c.l[i]).length ≤ 1000 := by simpa using this
    show (c.l[i]).length ≤ _
    omega
  · rw [List.getD_eq_getElem?_getD, List.getElem?_eq_none (by omega)]
    simp
def rowFitsB (r : Row) : Bool := decide (r.ts.length ≤ 1000) && (fineB r.c5 && (decide (r.num ≤ 9223372036854775807) && decide (r.den ≤ 9223372036854775807)))
def fitsB (rows : List Row) : Bool := decide (rows.length ≤ 1000000) && rows.all rowFitsB
def fitsPB (ps : List Pre) : Bool := decide (ps.length ≤ 1000000) && ps.all fun r => fineB r.c5
theorem row_fits {r : Row} (h : rowFitsB r = true) : r.ts.length ≤ 1000000 ∧ r.Fine := by
  simp only [rowFitsB, Bool.and_eq_true, decide_eq_true_eq] at h
  exact ⟨by omega, ⟨fine_of h.2.1, h.2.2.1, h.2.2.2, by omega⟩⟩
theorem getD_all {α : Type} [Inhabited α] {l : List α} {p : α → Bool} (h : l.all p = true) (hd : p default = true) (i : Nat) : p (l.getD i default) = true := by
  by_cases hi : i < l.length
  · rw [List.getD_eq_getElem?_getD, List.getElem?_eq_getElem hi]
    exact List.all_eq_true.1 h _ (List.getElem_mem hi)
  · rw [List.getD_eq_getElem?_getD, List.getElem?_eq_none (by omega)]
    exact hd
theorem fits_of {rows : List Row} (h : fitsB rows = true) : Fits rows := by
  simp only [fitsB, Bool.and_eq_true, decide_eq_true_eq] at h
  have hr := fun i => row_fits (getD_all h.2 (by kernel_rfl) i)
  exact ⟨h.1, fun i => (hr i).1, fun i => (hr i).2⟩
theorem fitsP_of {ps : List Pre} (h : fitsPB ps = true) : FitsP ps := by
  simp only [fitsPB, Bool.and_eq_true, decide_eq_true_eq] at h
  exact ⟨h.1, fun i => fine_of (getD_all h.2 (by kernel_rfl) i)⟩
/-- The table with the code of the first atom for the second one, too. -/
def tableM : List Row := tableRs.set 1 { tableRs.getD 1 default with c0 := [109] }
theorem fitsT : Fits tableRs := fits_of (by kernel_rfl)
theorem fitsM : Fits tableM := fits_of (by kernel_rfl)
theorem fitsPT : FitsP tablePs := fitsP_of (by kernel_rfl)
theorem len_T : tableRs.length = 48 := by kernel_rfl
theorem len_M : tableM.length = 48 := by kernel_rfl
theorem len_P : tablePs.length = 20 := by kernel_rfl
theorem check_T : checkT tableRs tablePs = -1 := by decide +kernel
theorem check_M : checkT tableM tablePs = 1 := by decide +kernel
theorem getM (i : Nat) : tableM.getD i default = if i = 1 then { tableRs.getD 1 default with c0 := [109] } else tableRs.getD i default := by
  unfold tableM
  rw [List.getD_eq_getElem?_getD, List.getElem?_set]
  by_cases h : i = 1
  · subst h
    rw [if_pos rfl, if_pos rfl, len_T]
    rfl
  · rw [if_neg (fun e => h e.symm), if_neg h, List.getD_eq_getElem?_getD]
theorem updM (S : Nat → Value) : ∀ i, i < 48 → ∀ j, j < 12 → upd (cellA tableRs S) 1 0 (.string (bs [109])) i j = cellA tableM S i j := by
  intro i hi j hj
  unfold upd cellA
  rw [getM]
  by_cases e : i = 1
  · subst e
    rw [if_pos rfl]
    unfold Row.cell Row.cs
    match j, hj with
    | 0, _ => simp
    | 1, _ => simp
    | 2, _ => simp
    | 3, _ => simp
    | 4, _ => simp
    | 5, _ => simp
    | 6, _ => simp
    | 7, _ => simp
    | 8, _ => simp
    | 9, _ => simp
    | 10, _ => simp
    | 11, _ => simp
  · rw [if_neg e, if_neg (fun h => e h.1)]
theorem SliceAt.atoms {w : World} {s : Value} {rows : List Row} {S : Nat → Value} (h : AtomsSl w s rows S) (hn : 0 < rows.length) : ∃ b c, s = .slice (some ⟨b, 0, none⟩) rows.length c ∧ rows.length ≤ c ∧ Spare w b (c * 12) ∧ Grid w b 12 rows.length (cellA rows S) := by
  rcases h.1 with ⟨h0, _⟩ | ⟨b, c, hs, hc, hsp, hg⟩
  · omega
  · exact ⟨b, c, hs, hc, hsp, hg⟩
/-- The prefixes do not lie where the atoms do. -/
theorem prefs_apart {w : World} {b p : Nat} {rows : List Row} {S : Nat → Value} {ps : List Pre} (hg : Grid w b 12 rows.length (cellA rows S)) (hp : Grid w p 6 ps.length (cellP ps)) (h1 : 0 < rows.length) (h2 : 0 < ps.length) : p ≠ b := by
  intro e
  subst e
  have a := hg.1 0 h1 5 (by omega)
  have b := hp.1 0 h2 5 (by omega)
  rw [Nat.zero_mul] at a b
  rw [a] at b
  simp [cellA, cellP, Row.cell, Row.cs, Pre.cell, Pre.cs] at b

attribute [local irreducible] tableRs tablePs tableM

set_option maxRecDepth 100000 in
set_option maxHeartbeats 4000000 in
theorem awake_yes (w : World) (hT : Frac.OfTen w) :
    Calls Tryd.prog 5 #[] w fun e w' => e = .returned (.bool true) ∧ Below w.heap.size w w' := by
  go_enter Tryd.func5, Tryd.ntmps5
  go_wp2_with fail
  refine (table_any w).mono ?_
  rintro e w1 ⟨sa, sp, S, rfl, hTab, hb1⟩
  obtain ⟨b, c, rfl, hc, hsp, hg⟩ := SliceAt.atoms hTab.atoms (by rw [len_T]; omega)
  obtain ⟨p, c2, rfl, hgp⟩ : ∃ p c2, sp = .slice (some ⟨p, 0, none⟩) tablePs.length c2 ∧ Grid w1 p 6 tablePs.length (cellP tablePs) := by
    rcases hTab.prefs with ⟨h0, _⟩ | ⟨p, c2, hs, _, _, hgp⟩
    · rw [len_P] at h0; omega
    · exact ⟨p, c2, hs, hgp⟩
  have hpb := prefs_apart hg hgp (by rw [len_T]; omega) (by rw [len_P]; omega)
  have hbw := hTab.aa _ _ _ rfl
  dsimp only at hbw
  have hu : Below w1.heap.size w1 (w1.alloc (.cells #[.slice (some ⟨b, 0, none⟩) tableRs.length c, .slice (some ⟨p, 0, none⟩) tablePs.length c2] 29)) := by go_grown
  have hck := check_any _ _ tableRs S tablePs _ fitsT fitsPT (hTab.atoms.go hu) (SliceAt.go hTab.prefs hu) ((hT.below hb1).below hu)
  rw [check_T] at hck
  have hlt := len_T
  have hlp := len_P
  rw [hlt, hlp] at hck hu ⊢
  have hx0 : (w1.alloc (.cells #[.slice (some ⟨b, 0, none⟩) 48 c, .slice (some ⟨p, 0, none⟩) 20 c2] 29)).cell? ⟨w1.heap.size, 0, none⟩ = some (.slice (some ⟨b, 0, none⟩) 48 c) := by simp [go_sem]
  have hx1 : (w1.alloc (.cells #[.slice (some ⟨b, 0, none⟩) 48 c, .slice (some ⟨p, 0, none⟩) 20 c2] 29)).cell? ⟨w1.heap.size, 1, none⟩ = some (.slice (some ⟨p, 0, none⟩) 20 c2) := by simp [go_sem]
  go_wp2_with fail
  refine hck.mono ?_
  rintro e w2 ⟨rfl, hb2⟩
  have hB2 := hu.trans (hb2.mono hu.size)
  replace hx0 := (hb2.cell (p := ⟨w1.heap.size, 0, none⟩) (cell_lt hx0)).trans hx0
  replace hx1 := (hb2.cell (p := ⟨w1.heap.size, 1, none⟩) (cell_lt hx1)).trans hx1
  have hg2 := hg.go hB2
  rw [hlt] at hg2
  have hcell : w2.cell? ⟨b, 12, none⟩ = some (cellA tableRs S 1 0) := hg2.1 1 (by omega) 0 (by omega)
  have hfz := hg2.2.1 12
  have hbx : b ≠ w1.heap.size := by have := hg.2.2; omega
  have hT2 : TableAt w.heap.size (w2.setCell ⟨b, 12, none⟩ (.string (bs [109]))) (.slice (some ⟨b, 0, none⟩) 48 c) (.slice (some ⟨p, 0, none⟩) 20 c2) tableM S tablePs := by
    have hTab2 := hTab.go hB2
    rw [hlt, hlp] at hTab2
    have hs2 := hsp.block (hB2.block b (by have := hg.2.2; omega))
    have hx : w2.cell? ⟨b, 0, none⟩ = some (.string (bs (tableRs.getD 0 default).c0)) := hg2.1 0 (by omega) 0 (by omega)
    refine ⟨⟨.inr ⟨b, c, by rw [len_M], by rw [len_M]; omega, hs2.set _ _ _, ?_⟩, ?_⟩, .inr ⟨p, c2, by rw [hlp], ?_, ?_, ?_⟩, hTab2.aa, hTab2.ap, fun i hi => hTab2.at_ i (by rw [hlt, ← len_M]; exact hi)⟩
    · rw [len_M]
      exact (hg2.set 1 0 (by omega) (by omega) (.string (bs [109]))).ext (updM S)
    · intro i hi
      rw [len_M] at hi
      have := (hTab2.atoms.2 i (by omega)).text hx 12 (.string (bs [109]))
      rw [getM]
      by_cases e : i = 1
      · rw [if_pos e]
        rw [e] at this ⊢
        exact this
      · rw [if_neg e]
        exact this
    · rcases hTab2.prefs with ⟨h0, _⟩ | ⟨p', c2', hs, hc', _, _⟩
      · omega
      · injection hs with e1 e2 e3
        omega
    · rcases hTab2.prefs with ⟨h0, _⟩ | ⟨p', c2', hs, hc', hsp', _⟩
      · omega
      · injection hs with e1 e2 e3
        injection e1 with e1
        injection e1 with e1
        subst e1 e3
        exact hsp'.set _ _ _
    · exact (hgp.go hB2).other _ _ _ (fun e => hpb e.symm)
  have hB3 : Below w.heap.size w (w2.setCell ⟨b, 12, none⟩ (.string (bs [109]))) := (hb1.trans (hB2.mono hb1.size)).setCell hbw _
  have hck2 := check_any _ _ tableM S tablePs _ fitsM fitsPT hT2.atoms hT2.prefs (ten_same ((hT.below hb1).below hB2) (by rw [World.size_setCell]; exact Nat.le_refl _) (Below.heap_setCell _ _ _ _ (by
    have := hT.2.2
    show 0 ≠ b
    omega)))
  rw [check_M] at hck2
  generalize cellA tableRs S 1 0 = cv at hcell
  have hbs : bs [109] = ⟨#[109]⟩ := rfl
  rw [hbs] at hck2 hB3
  clear hT2 hck hTab hg hgp hg2 hsp hu hb2 hB2 hlt hlp hbs
  go_wp2_with fail
  refine hck2.mono ?_
  rintro e w4 ⟨rfl, hb4⟩
  replace hB3 := hB3.trans (hb4.mono hB3.size)
  go_wp2
  go_ret
  exact ⟨rfl, hB3⟩

end Go.Proofs.YtpmibcdmaaagjaaDoor.Atoms

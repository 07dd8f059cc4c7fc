/-
  The reader of package parse: read. The reader of package parse: read.
-/
import Derived.Test.YthofogokpolhdaaGreatDoorRNX
namespace Go.Proofs.YthofogokpolhdaaGreatDoor.Parses
open Go.RowKit Go.Shelf
open Go.Proofs.YthofogokpolhdaaGreatDoor.Trees (Stp StepsAt cellS StAt elem_step cell_oneS)
open Go.Proofs.YthofogokpolhdaaGreatDoor.Toks (Tok ToksAt cellK cell_lt cell_same SliceAt Above Grid Spare Elem elem_of append_any both wpList_app)
open Go.Proofs.YthofogokpolhdaaGreatDoor.Style (bs bs_size bs_at getD_at bs_of)
set_option linter.unusedVariables false
set_option linter.unusedSimpArgs false

/-- What holds at each place. -/
structure Inv (s : Rd) (i : Nat) : Prop where
  w1 : 1 ≤ s.waits.length
  w2 : s.waits.length ≤ 33
  t1 : s.tree.length ≤ i
  t2 : 2 ≤ s.may ∧ s.may ≤ 5 → 1 ≤ s.tree.length
  m : s.may ≤ 7
theorem inv_start : Inv startR 0 := ⟨by decide, by decide, by decide, by decide, by decide⟩
theorem row_le {m : Nat} {k : Nat} (h : k ∈ rowOf m) : k ≤ 11 := by
  unfold rowOf at h
  split at h <;> simp at h <;> omega
theorem row_len (m : Nat) : (rowOf m).length ≤ 6 := by
  unfold rowOf
  split <;> simp
theorem row_six {m : Nat} (h : 6 ∈ rowOf m) : m = 3 ∨ m = 4 ∨ m = 5 := by
  unfold rowOf at h
  split at h <;> simp_all
theorem row_six2 {m : Nat} (h : 6 ∈ rowOf m) (hm : m ≤ 7) : m = 3 ∨ m = 4 ∨ m = 5 := row_six h
theorem row_five {m : Nat} (h : 5 ∈ rowOf m) : m = 3 ∨ m = 4 := by
  unfold rowOf at h
  split at h <;> simp_all
theorem row_raise {m : Nat} (h : 11 ∈ rowOf m) : m = 2 := by
  unfold rowOf at h
  split at h <;> simp_all

theorem isK_len {L : List Tok} {i : Nat} {k : Int} (h : isK L i k = true) : i < L.length := isK_lt h
theorem len_set (l : List Int) (op : Int) (h : 1 ≤ l.length) : (l.dropLast ++ [op]).length = l.length := by
  rw [List.length_append, List.length_dropLast]; simp; omega
theorem inv_step {pow : Bool} {L : List Tok} {i k : Nat} {s s' : Rd} (h : Inv s i) (hk : k ∈ rowOf s.may) (hg : askG pow L i s k = .go s') : Inv s' (i + 1) := by
  have hk11 := row_le hk
  obtain ⟨w1, w2, t1, t2, hm⟩ := h
  obtain ⟨e1, e2, e3, e4⟩ := close_waits s
  have e5 : s.tree.length ≤ (closeS s).tree.length := by
    unfold closeS
    split
    · exact Nat.le_refl _
    · unfold putS; simp
  rcases (by omega : k = 0 ∨ k = 1 ∨ k = 2 ∨ k = 3 ∨ k = 4 ∨ k = 5 ∨ k = 6 ∨ k = 7 ∨ k = 8 ∨ k = 9 ∨ k = 10 ∨ k = 11) with rfl | rfl | rfl | rfl | rfl | rfl | rfl | rfl | rfl | rfl | rfl | rfl
  · simp only [askG, inverseG] at hg
    split at hg
    · injection hg with hg
      subst hg
      exact ⟨by simp only [waitS, len_set _ _ w1]; exact w1, by simp only [waitS, len_set _ _ w1]; exact w2, by simp only [waitS]; omega, by simp [waitS], by simp [waitS]⟩
    · cases hg
  · simp only [askG, symbolG] at hg
    split at hg
    · injection hg with hg
      subst hg
      exact ⟨w1, w2, by simp [putS]; omega, by simp [putS], by simp only; split <;> omega⟩
    · cases hg
  · simp only [askG, numberG] at hg
    split at hg
    · injection hg with hg
      subst hg
      exact ⟨w1, w2, by simp [putS, mayS]; omega, by simp [putS, mayS], by simp [mayS]⟩
    · cases hg
  · simp only [askG, leftG] at hg
    split at hg
    · split at hg
      · cases hg
      · injection hg with hg
        subst hg
        exact ⟨by simp [openS], by simp [openS]; omega, by simp [openS]; omega, by simp [openS], by simp [openS]⟩
    · cases hg
  · simp only [askG, notedG] at hg
    split at hg
    · injection hg with hg
      subst hg
      exact ⟨w1, w2, by simp [putS, mayS]; omega, by simp [putS, mayS], by simp [mayS]⟩
    · cases hg
  · have h5 := row_five hk
    simp only [askG, signG] at hg
    split at hg
    · injection hg with hg
      subst hg
      exact ⟨w1, w2, by simp; omega, fun _ => t2 (by omega), by simp⟩
    · cases hg
  · have h6 := row_six hk
    have ht := t2 (by omega)
    simp only [askG, powerG] at hg
    split at hg
    · injection hg with hg
      subst hg
      exact ⟨w1, w2, by simp [powS, mayS]; omega, by simp [powS, mayS], by simp [mayS]⟩
    · cases hg
  · simp only [askG, notedG] at hg
    split at hg
    · injection hg with hg
      subst hg
      exact ⟨w1, w2, by simp [putS, mayS]; omega, by simp [putS, mayS], by simp [mayS]⟩
    · cases hg
  · simp only [askG, operatorG] at hg
    split at hg
    · injection hg with hg
      subst hg
      exact ⟨by simp only [waitS, e1, len_set _ _ w1]; exact w1, by simp only [waitS, e1, len_set _ _ w1]; exact w2, by simp only [waitS]; omega, by simp [waitS], by simp [waitS]⟩
    · split at hg
      · injection hg with hg
        subst hg
        exact ⟨by simp only [waitS, e1, len_set _ _ w1]; exact w1, by simp only [waitS, e1, len_set _ _ w1]; exact w2, by simp only [waitS]; omega, by simp [waitS], by simp [waitS]⟩
      · cases hg
  · simp only [askG, rightG] at hg
    split at hg
    · rename_i hc
      injection hg with hg
      subst hg
      have := hc.2
      exact ⟨by simp only [mayS, List.length_dropLast]; omega, by simp only [mayS, List.length_dropLast]; omega, by simp only [mayS]; omega, by simp [mayS], by simp [mayS]⟩
    · cases hg
  · simp only [askG, endG] at hg
    split at hg
    · cases hg
    · injection hg with hg
      subst hg
      exact ⟨by rw [e1]; exact w1, by rw [e1]; exact w2, by omega, fun hh => by rw [e2] at hh; have := t2 hh; omega, by rw [e2]; exact hm⟩
  · have h11 := row_raise hk
    simp only [askG, raiseG] at hg
    split at hg
    · injection hg with hg
      subst hg
      exact ⟨w1, w2, by simp only [mayS]; omega, fun _ => t2 (by omega), by simp [mayS]⟩
    · cases hg

/-- Whoever is asked answers so. -/
theorem ask_t (k : Nat) (i : Nat) (w0 : World) (st : Value) (L : List Tok) (size : Int) (pow : Bool) (vm vw vt : Value) (s : Rd) (w : World) (h : RdM w0 st L size pow vm vw vt s w) (hL : L.length ≤ 900) (hk : k ∈ rowOf s.may) (hI : Inv s i) (hi : i ≤ L.length) :
    Calls Tryz.prog (fnOf k) #[.pointer (some ⟨w0.heap.size, 0, none⟩), .int .i64 (i : Int)] w (Took w0 st L size pow s i w (askG pow L i s k)) := by
  have hk11 := row_le hk
  obtain ⟨w1, w2, t1, t2, hm⟩ := hI
  have hn : s.waits.length = (s.waits.length - 1) + 1 := by omega
  have hl : s.waits.length - 1 ≤ 32 := by omega
  have ht : s.tree.length ≤ 990 := by omega
  have hL2 : L.length ≤ 1000 := by omega
  rcases (by omega : k = 0 ∨ k = 1 ∨ k = 2 ∨ k = 3 ∨ k = 4 ∨ k = 5 ∨ k = 6 ∨ k = 7 ∨ k = 8 ∨ k = 9 ∨ k = 10 ∨ k = 11) with rfl | rfl | rfl | rfl | rfl | rfl | rfl | rfl | rfl | rfl | rfl | rfl
  · exact inverse_t i w0 st L size pow vm vw vt s w h hL2 _ hn hl ht
  · exact symbol_t i w0 st L size pow vm vw vt s w h hL2 _ hn hl ht
  · exact number_t i w0 st L size pow vm vw vt s w h hL2 _ hn hl ht
  · exact left_t i w0 st L size pow vm vw vt s w h hL2 _ hn hl ht
  · exact alone_t i w0 st L size pow vm vw vt s w h hL2 _ hn hl ht
  · exact sign_t i w0 st L size pow vm vw vt s w h hL2 _ hn hl ht
  · have h6 := row_six hk
    have := t2 (by omega)
    exact power_t i w0 st L size pow vm vw vt s w h hL2 (s.tree.length - 1) (by omega) ht
  · exact note_t i w0 st L size pow vm vw vt s w h hL2 _ hn hl ht
  · exact operator_t i w0 st L size pow vm vw vt s w h hL2 _ hn hl ht
  · exact right_t i w0 st L size pow vm vw vt s w h hL2 _ hn hl ht
  · exact end_t i w0 st L size pow vm vw vt s w h hL2 _ hn hl ht
  · exact raise_t i w0 st L size pow vm vw vt s w h hL2 _ hn hl ht
/-- How read ends. -/
def ReadEnd (w0 : World) (st : Value) (L : List Tok) (size : Int) (pow : Bool) (r : Red) (e : Ending) (W : World) : Prop :=
  match r with
  | .done s => e = .returned (.tuple #[]) ∧ RdI w0 st L size pow s W
  | .bad err i => e = .panicked [{ v := refV err (placeG L size i) 0, recovered := false }] ∧ ∃ s, RdI w0 st L size pow s W

end Go.Proofs.YthofogokpolhdaaGreatDoor.Parses

namespace Go.Proofs.YthofogokpolhdaaGreatDoor.Parses
open Go.RowKit Go.Shelf
open Go.Proofs.YthofogokpolhdaaGreatDoor.Trees (Stp StepsAt cellS StAt elem_step cell_oneS)
open Go.Proofs.YthofogokpolhdaaGreatDoor.Toks (Tok ToksAt cellK cell_lt cell_same SliceAt Above Grid Spare Elem elem_of append_any both wpList_app)
open Go.Proofs.YthofogokpolhdaaGreatDoor.Style (bs bs_size bs_at getD_at bs_of)
set_option linter.unusedVariables false
set_option linter.unusedSimpArgs false

theorem enters_fn (k : Nat) (hk : k ≤ 11) : Enters Tryz.prog (fnOf k) := by
  rcases (by omega : k = 0 ∨ k = 1 ∨ k = 2 ∨ k = 3 ∨ k = 4 ∨ k = 5 ∨ k = 6 ∨ k = 7 ∨ k = 8 ∨ k = 9 ∨ k = 10 ∨ k = 11) with rfl | rfl | rfl | rfl | rfl | rfl | rfl | rfl | rfl | rfl | rfl | rfl
  · exact enters_of Tryz.func116 (by kernel_rfl) rfl
  · exact enters_of Tryz.func117 (by kernel_rfl) rfl
  · exact enters_of Tryz.func118 (by kernel_rfl) rfl
  · exact enters_of Tryz.func119 (by kernel_rfl) rfl
  · exact enters_of Tryz.func120 (by kernel_rfl) rfl
  · exact enters_of Tryz.func154 (by kernel_rfl) rfl
  · exact enters_of Tryz.func155 (by kernel_rfl) rfl
  · exact enters_of Tryz.func150 (by kernel_rfl) rfl
  · exact enters_of Tryz.func151 (by kernel_rfl) rfl
  · exact enters_of Tryz.func152 (by kernel_rfl) rfl
  · exact enters_of Tryz.func153 (by kernel_rfl) rfl
  · exact enters_of Tryz.func149 (by kernel_rfl) rfl
theorem first_drop (pow : Bool) (L : List Tok) (i : Nat) (s : Rd) (l : List Nat) (j : Nat) (hj : j < l.length) : firstG pow L i s (l.drop j) = match askG pow L i s (l.getD j 0) with
    | .no => firstG pow L i s (l.drop (j + 1))
    | g => g := by
  have e : l.getD j 0 = l[j] := by rw [List.getD_eq_getElem?_getD, List.getElem?_eq_getElem hj]; rfl
  rw [List.drop_eq_getElem_cons hj, e]
  rfl
theorem read_step (pow : Bool) (L : List Tok) (i m : Nat) (s : Rd) : readG pow L i (m + 1) s = match firstG pow L i s (rowOf s.may) with
    | .go s' => readG pow L (i + 1) m s'
    | .no => .bad 14 i
    | .deep => .bad 13 i := rfl

set_option maxRecDepth 100000 in
set_option maxHeartbeats 8000000 in
theorem read_v (w0 : World) (st : Value) (L : List Tok) (size : Int) (pow : Bool) (vm vw vt : Value) (w : World) (h : RdM w0 st L size pow vm vw vt zeroR w) (hL : L.length ≤ 900) :
    Calls Tryz.prog 49 #[.pointer (some ⟨w0.heap.size, 0, none⟩)] w (ReadEnd w0 st L size pow (readAll pow L)) := by
  have ho := open_v w0 st L size pow vm vw vt zeroR w h (by decide)
  have hLI : (L.length : Int) ≤ 900 := by omega
  obtain ⟨os, cs, rfl⟩ := SliceAt.slice h.toks
  obtain ⟨R, hR⟩ : ∃ R, readAll pow L = R := ⟨_, rfl⟩
  have HR : Hid (readG pow L 0 (L.length + 1) startR = R) := hR
  rw [hR]
  clear hR h
  go_enter Tryz.func49, Tryz.ntmps49
  go_wp2_with fail
  go_step3
  go_wp2_with fail
  refine ho.mono ?_
  rintro e w2 ⟨rfl, hE⟩
  have hE2 : RdI w0 (.slice os L.length cs) L size pow startR w2 := hE
  obtain ⟨a1, a2, a3, hM⟩ := hE
  have c0 := hM.c0
  clear ho hM
  go_wp2_with fail
  go_step3
  go_wp2_with fail
  clear c0
  go_loopw [13] (fun x wr => ∃ (i : Nat) (s : Rd), x = .int .i64 (i : Int) ∧ i ≤ L.length + 1 ∧ Inv s i ∧ RdI w0 (.slice os L.length cs) L size pow s wr ∧ Hid (readG pow L i (L.length + 1 - i) s = R)) (fun x _ => ((L.length : Int) + 1 - intOf x).toNat)
  case atStart => exact ⟨0, startR, rfl, by omega, inv_start, hE2, HR⟩
  case round =>
    clear hE2 HR
    obtain ⟨i, s, rfl, hiL, hInv, ⟨vm, vw, vt, hM⟩, HR⟩ := hrel
    by_cases hi : i < L.length + 1
    · have hiI : (i : Int) < (L.length : Int) + 1 := by omega
      obtain ⟨m, hm⟩ : ∃ m, L.length + 1 - i = m + 1 := ⟨L.length - i, by omega⟩
      rw [hm] at HR
      have hm2 : L.length + 1 - (i + 1) = m := by omega
      have HR2 := HR.out
      rw [read_step] at HR2
      have c3 := hM.c3
      obtain ⟨b, c, rfl⟩ := SliceAt.slice hM.lay
      have hrl := row_len s.may
      have hle : ∀ k ∈ rowOf s.may, k ≤ 11 := fun k hk => row_le hk
      have hrI : ((rowOf s.may).length : Int) ≤ 6 := by omega
      have hAsk := fun k hk => ask_t k i w0 _ L size pow _ _ _ s wr hM hL hk hInv (by omega)
      have hStep := fun k hk s' hg => inv_step (pow := pow) (L := L) (k := k) (s' := s') hInv hk hg
      have hlay := hM.lay
      have hPl := place_v i w0 _ L size pow _ _ _ s wr hM (by omega)
      have hRI := RdI.of hM
      have hFi : firstG pow L i s (rowOf s.may) = firstG pow L i s ((rowOf s.may).drop 0) := by rw [List.drop_zero]
      generalize rowOf s.may = row at *
      clear hm hM hInv HR
      go_wp2_with fail
      obtain ⟨W1, hW1⟩ : ∃ W1, W1 = wr := ⟨_, rfl⟩
      subst hW1
      clear c3
      have HR3 := Lib.hid HR2
      clear HR2
      go_loopw [21] (fun y wq => ∃ j : Nat, y = .int .i64 (j : Int) ∧ j ≤ row.length ∧ Hid (firstG pow L i s row = firstG pow L i s (row.drop j)) ∧ W1 = wq) (fun y _ => ((row.length : Int) - intOf y).toNat)
      case atStart => exact ⟨0, rfl, by omega, hFi, rfl⟩
      case round =>
        obtain ⟨j, rfl, hjr, HF, rfl⟩ := hrel
        by_cases hj : j < row.length
        · have hjI : (j : Int) < row.length := by omega
          obtain ⟨bb, rfl, x1⟩ : ∃ bb, b = some ⟨bb, 0, none⟩ ∧ W1.cell? ⟨bb, j, none⟩ = some (cellF w0.heap.size row j 0) := by
            rcases hlay with ⟨h0, _⟩ | ⟨bb, c', e, hc, hmm, hg⟩
            · omega
            · injection e with e1 e2 e3
              have := hg.1 j hj 0 (by omega)
              rw [Nat.mul_one, Nat.add_zero] at this
              exact ⟨bb, e1, this⟩
          unfold cellF at x1
          have hmem : row.getD j 0 ∈ row := by rw [List.getD_eq_getElem?_getD, List.getElem?_eq_getElem hj]; exact List.getElem_mem _
          have hfd := first_drop pow L i s row j hj
          generalize row.getD j 0 = k at *
          have hA := hAsk k hmem
          have hS := hStep k hmem
          have hen : ∀ args W, (callFunc (fnOf k) args).run Tryz.prog W = .ok (.enter (fnOf k) args) W := enters_fn k (hle k hmem)
          clear hle hAsk hStep hmem hlay
          cases hg : askG pow L i s k with
          | no =>
            rw [hg] at hA hfd
            have HF2 : Hid (firstG pow L i s row = firstG pow L i s (row.drop (j + 1))) := by show _ = _; rw [HF.out, hfd]
            clear hg hS hfd hPl
            go_wp2_with fail
            refine hA.mono ?_
            rintro e w3 ⟨rfl, rfl⟩
            clear hA
            go_wp2_with fail
            go_roundw
            case rel => exact ⟨j + 1, by simp, by omega, HF2, by first | trivial | rfl⟩
            case measure => simp only [intOf]; omega
          | go s' =>
            rw [hg] at hA hfd
            have hI2 := hS s' hg
            have HR4 : Hid (readG pow L (i + 1) m s' = R) := by
              show _ = _
              have h1 := HR3.out
              rw [HF.out, hfd] at h1
              exact h1
            clear hg hS hfd hPl HF HR3
            go_wp2_with fail
            refine hA.mono ?_
            rintro e w3 ⟨rfl, hE⟩
            clear hA
            go_wp2_with fail
            go_roundw
            case rel => exact ⟨i + 1, s', by simp, by omega, hI2, hE, by rw [hm2]; exact HR4⟩
            case measure => simp only [intOf]; omega
          | deep =>
            rw [hg] at hA hfd
            have HR4 : Hid (R = .bad 13 i) := by
              show _ = _
              have h1 := HR3.out
              rw [HF.out, hfd] at h1
              exact h1.symm
            clear hg hS hfd hPl HF HR3
            go_wp2_with fail
            refine hA.mono ?_
            rintro e w3 ⟨rfl, hE⟩
            clear hA
            go_wp2_with fail
            refine ⟨rfl, ?_⟩
            rw [HR4.out]
            exact ⟨rfl, s, hE⟩
        · have hje : j = row.length := by omega
          have hjI : ¬ (j : Int) < row.length := by omega
          have HR4 : Hid (R = .bad 14 i) := by
            show _ = _
            have h1 := HR3.out
            rw [HF.out, hje, List.drop_length] at h1
            exact h1.symm
          obtain ⟨pl, hpl⟩ : ∃ pl, placeG L size i = pl := ⟨_, rfl⟩
          rw [hpl] at hPl
          have HPL := Lib.hid hpl
          have HRI := Lib.hid hRI
          clear HF HR3 hAsk hStep hle hlay hpl hje
          go_wp2_with fail
          refine hPl.mono ?_
          rintro e w3 ⟨rfl, rfl⟩
          clear hPl
          go_wp2_with fail
          refine ⟨rfl, ?_⟩
          rw [HR4.out]
          refine ⟨?_, s, HRI.out⟩
          rw [HPL.out]
          rfl
    · have hie : i = L.length + 1 := by omega
      have hiI : ¬ (i : Int) < (L.length : Int) + 1 := by omega
      have HE : Hid (R = .done s) := by
        have h := HR.out
        rw [hie, Nat.sub_self] at h
        exact h.symm
      have hRI := RdI.of hM
      clear hM HR hie
      go_wp2_with fail
      first | go_end0 | refine bodyPost_ret (results_none rfl _ _ _) rfl ?_
      rw [HE.out]
      exact ⟨rfl, hRI⟩

end Go.Proofs.YthofogokpolhdaaGreatDoor.Parses


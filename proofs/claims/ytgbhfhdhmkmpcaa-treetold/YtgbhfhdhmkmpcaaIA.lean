/-
  Contracts of slices.Index and slices.Contains of numbers.
-/
import Derived.Test.YtgbhfhdhmkmpcaaUX
namespace Go.Proofs.Ytgbhfhdhmkmpcaa.Trees
open Go.RowKit Go.Shelf
open Go.Proofs.Ytgbhfhdhmkmpcaa.Toks (cell_lt cell_same)
set_option linter.unusedVariables false
set_option linter.unusedSimpArgs false

set_option maxRecDepth 100000 in
set_option maxHeartbeats 2000000 in
theorem index_any (s : Value) (l : List Int) (v : Int) (w : World) (hV : IV w s l) (hl : l.length ≤ 1000) :
    Calls Try.prog 39 #[s, .int .i64 v] w fun e w' => (∃ r : Int, e = .returned (.int .i64 r) ∧ (decide (0 ≤ r) = l.contains v)) ∧ w = w' := by
  obtain ⟨o, c, rfl, hc, hv⟩ := hV
  have hli : (l.length : Int) ≤ 1000 := by omega
  have hci : (l.length : Int) ≤ c := by omega
  go_enter Try.func39, Try.ntmps39
  go_wp2_with fail
  go_loopw [5, 8] (fun _ y wr => ∃ i : Nat, y = .int .i64 (i : Int) ∧ i ≤ l.length ∧ Hid ((l.take i).contains v = false) ∧ w = wr) (fun _ y _ => (l.length - intOf y).toNat)
  case atStart => exact ⟨0, rfl, by omega, by show _ = _; simp, rfl⟩
  case round =>
    obtain ⟨i, rfl, hi, HJ, rfl⟩ := hrel
    by_cases hil : i < l.length
    · have hii : (i : Int) < l.length := by omega
      obtain ⟨b, off, rfl, c0, _⟩ := hv i hil
      have hst : (l.take (i + 1)).contains v = (v == l.getD i 0) := by
        have h := HJ.out
        rw [List.take_succ_eq_append_getElem hil, List.contains_append, h, show l.getD i 0 = l[i] by rw [List.getD_eq_getElem?_getD, List.getElem?_eq_getElem hil]; rfl]
        rw [Bool.eq_iff_iff]; simp
      have HS := Lib.hid hst
      have hmem : l.getD i 0 ∈ l := by rw [List.getD_eq_getElem?_getD, List.getElem?_eq_getElem hil]; exact List.getElem_mem _
      have HM := Lib.hid hmem
      clear hst hmem hv
      generalize l.getD i 0 = x at *
      by_cases hx : v = x
      · subst hx
        have HE : Hid (l.contains v = true) := by show _ = _; simpa using HM.out
        go_wp2_with fail
        go_ret
        exact ⟨⟨_, rfl, by rw [HE.out]; exact decide_eq_true (by omega)⟩, rfl⟩
      · have hxb : (v == x) = false := by simpa using hx
        have HN : Hid ((l.take (i + 1)).contains v = false) := by show _ = _; rw [HS.out]; exact hxb
        go_wp2_with fail
        exact ⟨⟨i + 1, by simp, by omega, HN, trivial⟩, by simp only [intOf]; omega⟩
    · have hii : ¬ (i : Int) < l.length := by omega
      have HE : Hid (l.contains v = false) := by
        have h := HJ.out
        rw [List.take_of_length_le (by omega)] at h
        exact h
      go_wp2_with fail
      go_ret
      exact ⟨⟨-1, rfl, by first | exact (show decide ((0 : Int) ≤ -1) = false from rfl).trans HE.out.symm | (have h := HE.out; simpa using h)⟩, rfl⟩

set_option maxRecDepth 100000 in
theorem contains_any (s : Value) (l : List Int) (v : Int) (w : World) (hV : IV w s l) (hl : l.length ≤ 1000) :
    Calls Try.prog 29 #[s, .int .i64 v] w fun e w' => e = .returned (.bool (l.contains v)) ∧ w = w' := by
  have hI := index_any s l v w hV hl
  go_enter Try.func29, Try.ntmps29
  go_wp2_with fail
  refine hI.mono ?_
  rintro e w2 ⟨⟨r, rfl, hr⟩, rfl⟩
  have HR := Lib.hid hr
  clear hr hI hV
  go_wp2_with fail
  go_ret
  exact ⟨by rw [← HR.out]; rfl, rfl⟩

end Go.Proofs.Ytgbhfhdhmkmpcaa.Trees

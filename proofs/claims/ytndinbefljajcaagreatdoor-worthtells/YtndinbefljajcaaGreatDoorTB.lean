/-
  What the program asks of the library's texts and numbers, at any text: frac.Text; the world below stays as it was. Contract of frac.Text, by one Lean function of the numbers; the world below stays as it was.
-/
import Derived.Test.YtndinbefljajcaaGreatDoorT2
import Derived.Test.YtndinbefljajcaaGreatDoorShelf
import Derived.Lib.AppendIntMem
import Derived.Lib.AtoiErrMem
namespace Go.Proofs.YtndinbefljajcaaGreatDoor.Texts
open Go.RowKit
open Go.Proofs.YtndinbefljajcaaGreatDoor.Whole
open Go.Proofs.YtndinbefljajcaaGreatDoor.Frac
set_option linter.unusedVariables false
set_option linter.unusedSimpArgs false

def Tab (w : World) : Prop := Lib.TabIs Tryz.prog w "internal/strconv.uint64pow10" .u64 Lib.pow10Tab
theorem Tab.below {w w' : World} (h : Tab w) (hb : Below w.heap.size w w') : Tab w' := (Lib.tabBelow_of_tabIs h) w' hb

/-- A package variable of an error holds one, or nil. -/
def ErrAt (w : World) (b : Nat) : Prop := b < w.heap.size ∧ ∃ ev, w.cell? ⟨b, 0, none⟩ = some ev ∧ (ev = .nilIface ∨ ∃ te pe, ev = .iface te pe)
theorem ErrAt.below {w w' : World} {b : Nat} (h : ErrAt w b) (hb : Below w.heap.size w w') : ErrAt w' b := by
  obtain ⟨hz, ev, hc, he⟩ := h
  exact ⟨by have := hb.size; omega, ev, (hb.cell (p := ⟨b, 0, none⟩) hz).trans hc, he⟩

/-- What the package variables hold that telling a frac reads. -/
def EnvT (w : World) : Prop := OfTen w ∧ Tab w ∧ True
theorem EnvT.below {w w' : World} (h : EnvT w) (hb : Below w.heap.size w w') : EnvT w' := ⟨h.1.below hb, h.2.1.below hb, trivial⟩

theorem fmt_any (n : Int) (w : World) (hT : Tab w) (h0 : -9223372036854775808 ≤ n) (h1 : n ≤ 9223372036854775807) :
    Calls Tryz.prog 62 #[.int .i64 n, .int .i64 10] w fun e w' => e = .returned (.string (bs (Lib.itoa n))) ∧ Below w.heap.size w w' := by
  refine (Tryz.strconv_FormatInt_10 n h0 h1 w hT).mono ?_
  rintro e w' ⟨rfl, k, os, rfl⟩
  exact ⟨rfl, Lib.below_grow _ _ (Nat.le_refl _) _ _⟩

theorem dec_any (n : Int) (w : World) (hT : Tab w) (h0 : -9223372036854775808 ≤ n) (h1 : n ≤ 9223372036854775807) :
    Calls Tryz.prog 30 #[.int .i64 n] w fun e w' => e = .returned (.string (bs (Lib.itoa n))) ∧ Below w.heap.size w w' := by
  refine (Tryz.strconv_Itoa n h0 h1 w hT).mono ?_
  rintro e w' ⟨rfl, k, os, rfl⟩
  exact ⟨rfl, Lib.below_grow _ _ (Nat.le_refl _) _ _⟩

theorem end3 (e : Lib.NumEnd Int) : (∃ v, e = .ok v) ∨ e = .range ∨ ((∀ v, e ≠ .ok v) ∧ e ≠ .range) := by
  cases e <;> simp

theorem below_draws (w : World) (k : Nat) : Below w.heap.size w (w.drewN k) := by
  have := Lib.below_grow w.heap.size w (Nat.le_refl _) k #[]
  rwa [Go.Sort.grow_empty] at this

theorem bs_extract (s : List UInt8) (i j : Nat) : (bs s).extract i j = bs ((s.take j).drop i) := by
  apply ByteArray.ext
  simp [bs, List.drop_take]

end Go.Proofs.YtndinbefljajcaaGreatDoor.Texts

namespace Go.Proofs.YtndinbefljajcaaGreatDoor.Texts
open Go.RowKit
open Go.Proofs.YtndinbefljajcaaGreatDoor.Whole
open Go.Proofs.YtndinbefljajcaaGreatDoor.Frac
set_option linter.unusedVariables false
set_option linter.unusedSimpArgs false

set_option maxRecDepth 100000 in
set_option maxHeartbeats 1000000 in
theorem text_anyT (n d t : Int) (w : World) (hE : EnvT w) (h1 : n ≤ 9223372036854775807) (h2 : d ≤ 9223372036854775807) :
    Calls Tryz.prog 27 #[.agg #[.int .i64 n, .int .i64 d, .int .i64 t]] w fun e w' => e = .returned (.string (bs (textF n d t))) ∧ Below w.heap.size w w' := by
  have hA := BoxAt.new w n d t
  replace hE : EnvT (w.alloc (.cells #[.int .i64 n, .int .i64 d, .int .i64 t] 28)) := hE.below (by go_grown)
  by_cases r : rightB n d t = true
  · have rB := r
    obtain ⟨x1, x2, x3, x4, x5⟩ := right_fine h1 h2 rB
    have R := Lib.hid r
    have HT : Hid (textF n d t = textL n d t) := by show textF n d t = _; unfold textF; rw [if_pos rB]
    clear r rB
    have s1 := itoa_size n (by omega) (by omega)
    have s2 := itoa_size d (by omega) (by omega)
    have s3 := itoa_size t (by omega) (by omega)
    have s4 : (ByteArray.mk #[47]).size = 1 := rfl
    have s5 : (ByteArray.mk #[101]).size = 1 := rfl
    go_enter Tryz.func27, Tryz.ntmps27
    go_wp2_with fail
    refine (right_any n d t _ hE.1 h1 h2).mono ?_
    rintro e w1 ⟨rfl, hb⟩
    rw [R.out]
    replace hA := hA.below hb
    replace hE := hE.below hb
    clear hb
    obtain ⟨hB, c0, c1, c2, _⟩ := id hA
    go_wp2_with fail
    refine (fmt_any n _ hE.2.1 (by omega) h1).mono ?_
    rintro e w2 ⟨rfl, hb⟩
    replace hA := hA.below hb
    replace hE := hE.below hb
    clear hb hB c0 c1 c2
    obtain ⟨hB, c0, c1, c2, _⟩ := id hA
    have L1 : (ByteArray.mk #[47] ++ bs (Lib.itoa d)).size ≤ 22 := by rw [ByteArray.size_append, s4]; omega
    have L2 : (ByteArray.mk #[101] ++ bs (Lib.itoa t)).size ≤ 22 := by rw [ByteArray.size_append, s5]; omega
    have L3 : (bs (Lib.itoa n) ++ (ByteArray.mk #[47] ++ bs (Lib.itoa d))).size ≤ 43 := by rw [ByteArray.size_append]; omega
    by_cases hd : d = 1
    · have hd' : (d == 1) = true := by simp [hd]
      have hd2 : (d != 1) = false := by simp [hd]
      by_cases ht : t = 0
      · have ht' : (t == 0) = true := by simp [ht]
        have ht2 : (t != 0) = false := by simp [ht]
        have HE : Hid (bs (Lib.itoa n) = bs (textF n d t)) := by show _ = _; rw [HT.out, hd, ht]; simp [textL]
        clear hd ht
        go_wp2
        refine bodyPost_ret (v := .string (bs (Lib.itoa n))) (by simp [results, Tryz.results27, go_sem]) rfl ⟨by rw [HE.out], hB⟩
      · have ht' : (t == 0) = false := by simpa using ht
        have ht2 : (t != 0) = true := by simpa using ht
        have HE : Hid (bs (Lib.itoa n) ++ (ByteArray.mk #[101] ++ bs (Lib.itoa t)) = bs (textF n d t)) := by
          show _ ++ (bs [101] ++ _) = _; rw [HT.out, hd, bs_app, bs_app]; simp [textL, ht]
        clear hd ht
        go_wp2_with fail
        refine (dec_any t _ hE.2.1 (by omega) (by omega)).mono ?_
        rintro e w3 ⟨rfl, hb⟩
        replace hA := hA.below hb
        replace hE := hE.below hb
        clear hb hB c0 c1 c2
        obtain ⟨hB, c0, c1, c2, _⟩ := id hA
        go_wp2
        refine bodyPost_ret (v := .string (bs (Lib.itoa n) ++ (ByteArray.mk #[101] ++ bs (Lib.itoa t)))) (by simp [results, Tryz.results27, go_sem]) rfl ⟨by rw [HE.out], hB⟩
    · have hd' : (d == 1) = false := by simpa using hd
      have hd2 : (d != 1) = true := by simpa using hd
      have HD := Lib.hid hd
      clear hd
      go_wp2_with fail
      refine (fmt_any d _ hE.2.1 (by omega) (by omega)).mono ?_
      rintro e w3 ⟨rfl, hb⟩
      replace hA := hA.below hb
      replace hE := hE.below hb
      clear hb hB c0 c1 c2
      obtain ⟨hB, c0, c1, c2, _⟩ := id hA
      by_cases ht : t = 0
      · have ht' : (t == 0) = true := by simp [ht]
        have ht2 : (t != 0) = false := by simp [ht]
        have HE : Hid (bs (Lib.itoa n) ++ (ByteArray.mk #[47] ++ bs (Lib.itoa d)) = bs (textF n d t)) := by
          show _ ++ (bs [47] ++ _) = _; rw [HT.out, ht, bs_app, bs_app]; simp [textL, HD.out]
        clear ht
        go_wp2
        refine bodyPost_ret (v := .string (bs (Lib.itoa n) ++ (ByteArray.mk #[47] ++ bs (Lib.itoa d)))) (by simp [results, Tryz.results27, go_sem]) rfl ⟨by rw [HE.out], hB⟩
      · have ht' : (t == 0) = false := by simpa using ht
        have ht2 : (t != 0) = true := by simpa using ht
        have HE : Hid (bs (Lib.itoa n) ++ (ByteArray.mk #[47] ++ bs (Lib.itoa d)) ++ (ByteArray.mk #[101] ++ bs (Lib.itoa t)) = bs (textF n d t)) := by
          show _ ++ (bs [47] ++ _) ++ (bs [101] ++ _) = _; rw [HT.out, bs_app, bs_app, bs_app, bs_app]; simp [textL, HD.out, ht]
        clear ht
        go_wp2_with fail
        refine (dec_any t _ hE.2.1 (by omega) (by omega)).mono ?_
        rintro e w4 ⟨rfl, hb⟩
        replace hA := hA.below hb
        replace hE := hE.below hb
        clear hb hB c0 c1 c2
        obtain ⟨hB, c0, c1, c2, _⟩ := id hA
        go_wp2
        refine bodyPost_ret (v := .string (bs (Lib.itoa n) ++ (ByteArray.mk #[47] ++ bs (Lib.itoa d)) ++ (ByteArray.mk #[101] ++ bs (Lib.itoa t)))) (by simp [results, Tryz.results27, go_sem]) rfl ⟨by rw [HE.out], hB⟩
  · have rf : rightB n d t = false := by simpa using r
    have R := Lib.hid rf
    have HT : Hid (textF n d t = []) := by
      show textF n d t = _; unfold textF; rw [rf]; rfl
    clear r rf
    go_enter Tryz.func27, Tryz.ntmps27
    go_wp2_with fail
    refine (right_any n d t _ hE.1 h1 h2).mono ?_
    rintro e w1 ⟨rfl, hb⟩
    rw [R.out]
    replace hA := hA.below hb
    replace hE := hE.below hb
    clear hb
    obtain ⟨hB, c0, c1, c2, _⟩ := id hA
    go_wp2
    refine bodyPost_ret (v := .string (bs [])) (by simp [results, Tryz.results27, go_sem, bs]) rfl ⟨by rw [HT.out], hB⟩

end Go.Proofs.YtndinbefljajcaaGreatDoor.Texts


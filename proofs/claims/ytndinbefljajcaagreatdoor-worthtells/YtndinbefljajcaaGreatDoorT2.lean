/-
  Contract of the document's Text, by one Lean function of the numbers; the world below stays as it was.
-/
import Derived.Test.YtndinbefljajcaaGreatDoorT1
import Derived.Test.YtndinbefljajcaaGreatDoorF9
import Derived.Test.YtndinbefljajcaaGreatDoorFP
import Derived.Test.YtndinbefljajcaaGreatDoorGA
namespace Go.Proofs.YtndinbefljajcaaGreatDoor.Texts
open Go.RowKit
open Go.Proofs.YtndinbefljajcaaGreatDoor.Whole
open Go.Proofs.YtndinbefljajcaaGreatDoor.Frac
set_option linter.unusedVariables false
set_option linter.unusedSimpArgs false

/-- The text of any frac. -/
def textF (n d t : Int) : List UInt8 := if rightB n d t then textL n d t else []

/-- How the world stands within a function of one frac: its box. -/
def BoxAt (w v : World) (n d t : Int) : Prop := Below w.heap.size w v ∧ LiesF v w.heap.size n d t
theorem BoxAt.below {w v v' : World} {n d t : Int} (h : BoxAt w v n d t) (hb : Below v.heap.size v v') : BoxAt w v' n d t := ⟨Below.go h.1 hb, h.2.go hb⟩
theorem BoxAt.new (w : World) (n d t : Int) : BoxAt w (w.alloc (.cells #[.int .i64 n, .int .i64 d, .int .i64 t] 28)) n d t := by
  refine ⟨by go_grown, ⟨?_, ?_, ?_, ?_⟩⟩
  all_goals simp [go_sem]

theorem bs_size (l : List UInt8) : (bs l).size = l.length := List.size_toArray
theorem itoa_size (n : Int) (h0 : -9223372036854775808 ≤ n) (h1 : n ≤ 9223372036854775807) : (bs (Lib.itoa n)).size ≤ 21 := by
  rw [bs_size]; exact Lib.itoa_length_le n h0 h1

theorem digits_int (n : Int) (w : World) (h0 : 0 ≤ n) (h : n ≤ 9223372036854775807) :
    Calls Tryz.prog 83 #[.int .i64 n] w fun e w' => e = .returned (.string (bs (Lib.itoa n))) ∧ Below w.heap.size w w' := by
  obtain ⟨m, rfl⟩ := Int.eq_ofNat_of_zero_le h0
  have := digits_any m w (by omega)
  rw [← Lib.itoa_nonneg] at this
  exact this

set_option maxRecDepth 100000 in
set_option maxHeartbeats 1000000 in
theorem rtext_any (n d t : Int) (w : World) (h1 : n ≤ 9223372036854775807) (h2 : d ≤ 9223372036854775807) :
    Calls Tryz.prog 57 #[.agg #[.int .i64 n, .int .i64 d, .int .i64 t]] w fun e w' => e = .returned (.string (bs (textF n d t))) ∧ Below w.heap.size w w' := by
  have hA := BoxAt.new w n d t
  by_cases r : rightR n d t = true
  · have rB : rightB n d t = true := by rw [right_eq n d t h1 h2]; exact r
    obtain ⟨x1, x2, x3, x4, x5⟩ := right_fine h1 h2 rB
    have R := Lib.hid r
    have HT : Hid (textF n d t = textL n d t) := by show textF n d t = _; unfold textF; rw [if_pos rB]
    clear r rB
    have s1 := itoa_size n (by omega) (by omega)
    have s2 := itoa_size d (by omega) (by omega)
    have s3 := itoa_size t (by omega) (by omega)
    have s4 : (ByteArray.mk #[47]).size = 1 := rfl
    have s5 : (ByteArray.mk #[101]).size = 1 := rfl
    go_enter Tryz.func57, Tryz.ntmps57
    go_wp2_with fail
    refine (rright_any n d t _ h1 h2).mono ?_
    rintro e w1 ⟨rfl, hb⟩
    rw [R.out]
    replace hA := hA.below hb
    clear hb
    obtain ⟨hB, c0, c1, c2, _⟩ := id hA
    go_wp2_with fail
    refine (signed_any n _ (by omega) h1).mono ?_
    rintro e w2 ⟨rfl, hb⟩
    replace hA := hA.below hb
    clear hb hB c0 c1 c2
    obtain ⟨hB, c0, c1, c2, _⟩ := id hA
    have L1 : (bs (Lib.itoa n) ++ ByteArray.mk #[47]).size ≤ 22 := by rw [ByteArray.size_append, s4]; omega
    have L2 : (bs (Lib.itoa n) ++ ByteArray.mk #[101]).size ≤ 22 := by rw [ByteArray.size_append, s5]; omega
    have L3 : (bs (Lib.itoa n) ++ ByteArray.mk #[47] ++ bs (Lib.itoa d)).size ≤ 43 := by rw [ByteArray.size_append]; omega
    have L4 : (bs (Lib.itoa n) ++ ByteArray.mk #[47] ++ bs (Lib.itoa d) ++ ByteArray.mk #[101]).size ≤ 44 := by rw [ByteArray.size_append, s5]; omega
    by_cases hd : d = 1
    · have hd' : (d == 1) = true := by simp [hd]
      have hd2 : (d != 1) = false := by simp [hd]
      by_cases ht : t = 0
      · have ht' : (t == 0) = true := by simp [ht]
        have ht2 : (t != 0) = false := by simp [ht]
        have HE : Hid (bs (Lib.itoa n) = bs (textF n d t)) := by show _ = _; rw [HT.out, hd, ht]; simp [textL]
        clear hd ht
        go_wp2
        refine bodyPost_ret (v := .string (bs (Lib.itoa n))) (by simp [results, Tryz.results57, go_sem]) rfl ⟨by rw [HE.out], hB⟩
      · have ht' : (t == 0) = false := by simpa using ht
        have ht2 : (t != 0) = true := by simpa using ht
        have HE : Hid (bs (Lib.itoa n) ++ ByteArray.mk #[101] ++ bs (Lib.itoa t) = bs (textF n d t)) := by
          show _ ++ bs [101] ++ _ = _; rw [HT.out, hd, bs_app, bs_app]; simp [textL, ht]
        clear hd ht
        go_wp2_with fail
        refine (signed_any t _ (by omega) (by omega)).mono ?_
        rintro e w3 ⟨rfl, hb⟩
        replace hA := hA.below hb
        clear hb hB c0 c1 c2
        obtain ⟨hB, c0, c1, c2, _⟩ := id hA
        go_wp2
        refine bodyPost_ret (v := .string (bs (Lib.itoa n) ++ ByteArray.mk #[101] ++ bs (Lib.itoa t))) (by simp [results, Tryz.results57, go_sem]) rfl ⟨by rw [HE.out], hB⟩
    · have hd' : (d == 1) = false := by simpa using hd
      have hd2 : (d != 1) = true := by simpa using hd
      have HD := Lib.hid hd
      clear hd
      go_wp2_with fail
      refine (digits_int d _ (by omega) (by omega)).mono ?_
      rintro e w3 ⟨rfl, hb⟩
      replace hA := hA.below hb
      clear hb hB c0 c1 c2
      obtain ⟨hB, c0, c1, c2, _⟩ := id hA
      by_cases ht : t = 0
      · have ht' : (t == 0) = true := by simp [ht]
        have ht2 : (t != 0) = false := by simp [ht]
        have HE : Hid (bs (Lib.itoa n) ++ ByteArray.mk #[47] ++ bs (Lib.itoa d) = bs (textF n d t)) := by
          show _ ++ bs [47] ++ _ = _; rw [HT.out, ht, bs_app, bs_app]; simp [textL, HD.out]
        clear ht
        go_wp2
        refine bodyPost_ret (v := .string (bs (Lib.itoa n) ++ ByteArray.mk #[47] ++ bs (Lib.itoa d))) (by simp [results, Tryz.results57, go_sem]) rfl ⟨by rw [HE.out], hB⟩
      · have ht' : (t == 0) = false := by simpa using ht
        have ht2 : (t != 0) = true := by simpa using ht
        have HE : Hid (bs (Lib.itoa n) ++ ByteArray.mk #[47] ++ bs (Lib.itoa d) ++ ByteArray.mk #[101] ++ bs (Lib.itoa t) = bs (textF n d t)) := by
          show _ ++ bs [47] ++ _ ++ bs [101] ++ _ = _; rw [HT.out, bs_app, bs_app, bs_app, bs_app]; simp [textL, HD.out, ht]
        clear ht
        go_wp2_with fail
        refine (signed_any t _ (by omega) (by omega)).mono ?_
        rintro e w4 ⟨rfl, hb⟩
        replace hA := hA.below hb
        clear hb hB c0 c1 c2
        obtain ⟨hB, c0, c1, c2, _⟩ := id hA
        go_wp2
        refine bodyPost_ret (v := .string (bs (Lib.itoa n) ++ ByteArray.mk #[47] ++ bs (Lib.itoa d) ++ ByteArray.mk #[101] ++ bs (Lib.itoa t))) (by simp [results, Tryz.results57, go_sem]) rfl ⟨by rw [HE.out], hB⟩
  · have rf : rightR n d t = false := by simpa using r
    have R := Lib.hid rf
    have HT : Hid (textF n d t = []) := by
      show textF n d t = _; unfold textF; rw [right_eq n d t h1 h2, rf]; rfl
    clear r rf
    go_enter Tryz.func57, Tryz.ntmps57
    go_wp2_with fail
    refine (rright_any n d t _ h1 h2).mono ?_
    rintro e w1 ⟨rfl, hb⟩
    rw [R.out]
    replace hA := hA.below hb
    clear hb
    obtain ⟨hB, c0, c1, c2, _⟩ := id hA
    go_wp2
    refine bodyPost_ret (v := .string (bs [])) (by simp [results, Tryz.results57, go_sem, bs]) rfl ⟨by rw [HT.out], hB⟩

end Go.Proofs.YtndinbefljajcaaGreatDoor.Texts

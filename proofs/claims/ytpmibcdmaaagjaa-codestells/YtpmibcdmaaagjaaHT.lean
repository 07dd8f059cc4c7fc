/-
  The walk of CodesTells.
-/
import Derived.Test.YtpmibcdmaaagjaaH9
namespace Go.Proofs.Ytpmibcdmaaagjaa.Atoms
open Go.RowKit Go.Shelf Go.Proofs.Ytpmibcdmaaagjaa.Ranges
set_option linter.unusedVariables false
set_option linter.unusedSimpArgs false

attribute [local irreducible] tableRs tablePs csA csP placeI codeAtI codeI

theorem place_ge (cs : List C5) (n : Int) (s : List UInt8) : -1 ≤ placeI cs n s ∧ placeI cs n s ≤ cs.length := by
  by_cases h : 0 ≤ placeI cs n s
  · have := (place_code h).2.2; omega
  · have := place_none (cs := cs) (n := n) (c := s) (by omega); omega

set_option maxRecDepth 100000 in
set_option maxHeartbeats 4000000 in
theorem tells6_any (n p : Int) (s : List UInt8) (w : World) (hn : -9223372036854775808 ≤ n ∧ n ≤ 9223372036854775807) :
    Calls Try.prog 9 #[.int .i64 n, .int .i64 p, .string (bs s)] w fun e w' => e = .returned (.bool true) ∧ Below w.heap.size w w' := by
  have gA := fun W => findA_any n s W hn
  have gP := fun W => findP_any n s W hn
  have cA := fun W => code_any n p W hn
  have cP := fun W => prefixCode_any n p W hn
  have rA := fun W => rcodeA_any n p W hn
  have rP := fun W => rcodeP_any n p W hn
  have fA := fun W => rfindA_any n s W hn
  have fP := fun W => rfindP_any n s W hn
  unfold FoundEnd at gA gP
  have bA := place_ge csA n s
  have bP := place_ge csP n s
  rw [csA_len] at bA
  rw [csP_len] at bP
  generalize placeI csA n s = A at *
  generalize placeI csP n s = P at *
  generalize codeAtI csA n p = x at *
  generalize codeAtI csP n p = y at *
  clear hn
  go_enter Try.func9, Try.ntmps9
  go_wp2_with fail
  refine (gA _).mono ?_
  rintro e w1 ⟨rfl, hb1⟩
  go_wp2_with fail
  refine (gP _).mono ?_
  rintro e w2 ⟨rfl, hb2⟩
  go_wp2_with fail
  refine (cA _).mono ?_
  rintro e w3 ⟨rfl, hb3⟩
  go_wp2_with fail
  refine (rA _).mono ?_
  rintro e w4 ⟨rfl, hb4⟩
  go_wp2_with fail
  refine (cP _).mono ?_
  rintro e w5 ⟨rfl, hb5⟩
  go_wp2_with fail
  refine (rP _).mono ?_
  rintro e w6 ⟨rfl, hb6⟩
  go_wp2_with fail
  refine (fA _).mono ?_
  rintro e w7 ⟨rfl, hb7⟩
  go_wp2_with fail
  refine (fP _).mono ?_
  rintro e w8 ⟨rfl, hb8⟩
  have hB : Below w.heap.size w w8 := hb1.trans ((hb2.trans ((hb3.trans ((hb4.trans ((hb5.trans ((hb6.trans ((hb7.trans (hb8.mono hb7.size)).mono hb6.size)).mono hb5.size)).mono hb4.size)).mono hb3.size)).mono hb2.size)).mono hb1.size)
  go_wp2
  go_ret
  exact ⟨rfl, hB⟩

set_option maxRecDepth 100000 in
set_option maxHeartbeats 8000000 in
theorem ctells_law (n at_ : Int) (s0 : ByteArray) (w : World) (hn : -9223372036854775808 ≤ n ∧ n ≤ 9223372036854775807) (_ : -9223372036854775808 ≤ at_ ∧ at_ ≤ 9223372036854775807) (hs : s0.size ≤ maxLen) :
    Calls Try.prog 3 #[.int .i64 n, .int .i64 at_, .string s0] w fun e w' => e = .returned (.bool true) ∧ Below w.heap.size w w' := by
  obtain ⟨k, hk⟩ : ∃ a, restN n 8 = a := ⟨_, rfl⟩
  obtain ⟨i, hi⟩ : ∃ a, restN at_ 50 = a := ⟨_, rfl⟩
  have k8 : k < 8 := by rw [← hk]; exact restN_lt n 8 (by omega)
  have i50 : i < 50 := by rw [← hi]; exact restN_lt at_ 50 (by omega)
  have rn := fun W => rest6_any n 8 W (by omega) (by omega)
  have rt := fun W => rest6_any at_ 50 W (by omega) (by omega)
  rw [hk] at rn
  rw [hi] at rt
  clear hk hi
  go_enter Try.func3, Try.ntmps3
  go_wp2_with fail
  refine (awake6_yes w).mono ?_
  rintro e w1 ⟨rfl, hb1⟩
  by_cases hsz : 12 < (s0.size : Int)
  · go_wp2_with fail
    rw [← bs_of (s0.extract 0 12)]
    generalize (s0.extract 0 12).data.toList = l
    refine (rn _).mono ?_
    rintro e w' ⟨rfl, rfl⟩
    go_wp2_with fail
    refine (rt _).mono ?_
    rintro e w' ⟨rfl, rfl⟩
    go_wp2_with fail
    refine (tells6_any n at_ l _ hn).mono ?_
    rintro e w2 ⟨rfl, hb2⟩
    go_wp2_with fail
    refine (tells6_any ((k : Int) - 1) ((i : Int) - 1) l _ (by omega)).mono ?_
    rintro e w3 ⟨rfl, hb3⟩
    go_wp2_with fail
    refine (rcodeA_any ((k : Int) - 1) ((i : Int) - 1) _ (by omega)).mono ?_
    rintro e w4 ⟨rfl, hb4⟩
    go_wp2_with fail
    refine (tells6_any ((k : Int) - 1) ((i : Int) - 1) _ _ (by omega)).mono ?_
    rintro e w5 ⟨rfl, hb5⟩
    go_wp2_with fail
    refine (rcodeP_any ((k : Int) - 1) ((i : Int) - 1) _ (by omega)).mono ?_
    rintro e w6 ⟨rfl, hb6⟩
    go_wp2_with fail
    refine (tells6_any ((k : Int) - 1) ((i : Int) - 1) _ _ (by omega)).mono ?_
    rintro e w7 ⟨rfl, hb7⟩
    have hB : Below w.heap.size w w7 := hb1.trans ((hb2.trans ((hb3.trans ((hb4.trans ((hb5.trans ((hb6.trans (hb7.mono hb6.size)).mono hb5.size)).mono hb4.size)).mono hb3.size)).mono hb2.size)).mono hb1.size)
    go_wp2
    go_ret
    exact ⟨rfl, hB⟩
  · go_wp2_with fail
    clear hs hsz
    rw [← bs_of s0]
    generalize s0.data.toList = l
    refine (rn _).mono ?_
    rintro e w' ⟨rfl, rfl⟩
    go_wp2_with fail
    refine (rt _).mono ?_
    rintro e w' ⟨rfl, rfl⟩
    go_wp2_with fail
    refine (tells6_any n at_ l _ hn).mono ?_
    rintro e w2 ⟨rfl, hb2⟩
    go_wp2_with fail
    refine (tells6_any ((k : Int) - 1) ((i : Int) - 1) l _ (by omega)).mono ?_
    rintro e w3 ⟨rfl, hb3⟩
    go_wp2_with fail
    refine (rcodeA_any ((k : Int) - 1) ((i : Int) - 1) _ (by omega)).mono ?_
    rintro e w4 ⟨rfl, hb4⟩
    go_wp2_with fail
    refine (tells6_any ((k : Int) - 1) ((i : Int) - 1) _ _ (by omega)).mono ?_
    rintro e w5 ⟨rfl, hb5⟩
    go_wp2_with fail
    refine (rcodeP_any ((k : Int) - 1) ((i : Int) - 1) _ (by omega)).mono ?_
    rintro e w6 ⟨rfl, hb6⟩
    go_wp2_with fail
    refine (tells6_any ((k : Int) - 1) ((i : Int) - 1) _ _ (by omega)).mono ?_
    rintro e w7 ⟨rfl, hb7⟩
    have hB : Below w.heap.size w w7 := hb1.trans ((hb2.trans ((hb3.trans ((hb4.trans ((hb5.trans ((hb6.trans (hb7.mono hb6.size)).mono hb5.size)).mono hb4.size)).mono hb3.size)).mono hb2.size)).mono hb1.size)
    go_wp2
    go_ret
    exact ⟨rfl, hB⟩

end Go.Proofs.Ytpmibcdmaaagjaa.Atoms

/-
  Contracts of codes.Code, PrefixCode, Atom, Prefix; of drachmlaw06.rest, awake.
-/
import Derived.Test.YtpmibcdmaaagjaaH5
import Derived.Test.YtpmibcdmaaagjaaAZ
namespace Go.Proofs.Ytpmibcdmaaagjaa.Atoms
open Go.RowKit Go.Shelf Go.Proofs.Ytpmibcdmaaagjaa.Ranges
set_option linter.unusedVariables false
set_option linter.unusedSimpArgs false

attribute [local irreducible] tableRs tablePs csA csP

theorem code_any (n p : Int) (w : World) (hn : -9223372036854775808 ≤ n ∧ n ≤ 9223372036854775807) :
    Calls Try.prog 12 #[.int .i64 n, .int .i64 p] w fun e w' => e = .returned (.string (bs (codeAtI csA n p))) ∧ Below w.heap.size w w' := by
  go_enter Try.func12, Try.ntmps12
  go_wp2_with fail
  refine (ofAtoms_any n w hn).mono ?_
  rintro e w1 ⟨lb, rfl, hb, hs⟩
  go_wp2_with fail
  refine (codeAt_any _ lb csA n p _ w1 hs (enters_of Try.func34 (by kernel_rfl) rfl)).mono ?_
  rintro e w2 ⟨rfl, hb2⟩
  rw [codeL_told]
  go_wp2
  go_ret
  exact ⟨rfl, hb.trans (hb2.mono hb.size)⟩

theorem prefixCode_any (n p : Int) (w : World) (hn : -9223372036854775808 ≤ n ∧ n ≤ 9223372036854775807) :
    Calls Try.prog 14 #[.int .i64 n, .int .i64 p] w fun e w' => e = .returned (.string (bs (codeAtI csP n p))) ∧ Below w.heap.size w w' := by
  go_enter Try.func14, Try.ntmps14
  go_wp2_with fail
  refine (ofPrefixes_any n w hn).mono ?_
  rintro e w1 ⟨lb, rfl, hb, hs⟩
  go_wp2_with fail
  refine (codeAt_any _ lb csP n p _ w1 hs (enters_of Try.func40 (by kernel_rfl) rfl)).mono ?_
  rintro e w2 ⟨rfl, hb2⟩
  rw [codeL_told]
  go_wp2
  go_ret
  exact ⟨rfl, hb.trans (hb2.mono hb.size)⟩

/-- What is found: a place, and whether there is one. -/
def FoundEnd (cs : List C5) (n : Int) (s : List UInt8) (w : World) (e : Ending) (w' : World) : Prop := e = .returned (.tuple #[.int .i64 (placeI cs n s), .bool (decide (0 ≤ placeI cs n s))]) ∧ Below w.heap.size w w'

theorem findA_any (n : Int) (s : List UInt8) (w : World) (hn : -9223372036854775808 ≤ n ∧ n ≤ 9223372036854775807) :
    Calls Try.prog 13 #[.int .i64 n, .string (bs s)] w (FoundEnd csA n s w) := by
  go_enter Try.func13, Try.ntmps13
  go_wp2_with fail
  refine (ofAtoms_any n w hn).mono ?_
  rintro e w1 ⟨lb, rfl, hb, hs⟩
  go_wp2_with fail
  refine (placeOf_any _ lb csA n s _ w1 hs (enters_of Try.func34 (by kernel_rfl) rfl)).mono ?_
  rintro e w2 ⟨rfl, hb2⟩
  go_wp2
  go_ret2
  exact ⟨rfl, hb.trans (hb2.mono hb.size)⟩

theorem findP_any (n : Int) (s : List UInt8) (w : World) (hn : -9223372036854775808 ≤ n ∧ n ≤ 9223372036854775807) :
    Calls Try.prog 15 #[.int .i64 n, .string (bs s)] w (FoundEnd csP n s w) := by
  go_enter Try.func15, Try.ntmps15
  go_wp2_with fail
  refine (ofPrefixes_any n w hn).mono ?_
  rintro e w1 ⟨lb, rfl, hb, hs⟩
  go_wp2_with fail
  refine (placeOf_any _ lb csP n s _ w1 hs (enters_of Try.func40 (by kernel_rfl) rfl)).mono ?_
  rintro e w2 ⟨rfl, hb2⟩
  go_wp2
  go_ret2
  exact ⟨rfl, hb.trans (hb2.mono hb.size)⟩

set_option maxRecDepth 100000 in
theorem rest6_any (x : Int) (n : Nat) (w : World) (h : 1 ≤ n) (hn : n ≤ 1000000) :
    Calls Try.prog 8 #[.int .i64 x, .int .i64 n] w fun e w' => e = .returned (.int .i64 (restN x n)) ∧ w = w' := by
  have hn0 : (0 : Int) < n := by omega
  have hnn : ¬ (n : Int) = 0 := by omega
  have hle : (n : Int) ≤ 1000000 := by omega
  have hl : -(n : Int) < x.tmod n := Int.lt_tmod_of_pos x hn0
  have hr : x.tmod n < n := Int.tmod_lt_of_pos x hn0
  have HE := Lib.hid (rest_eq x n)
  have HN : Hid (((restN x n : Nat) : Int) = x % (n : Int)) := by
    show _ = _
    have := Int.emod_nonneg x hnn
    unfold restN; omega
  go_enter Try.func8, Try.ntmps8
  go_wp2
  go_ret
  exact ⟨by rw [HE.out, HN.out]; rfl, rfl⟩

end Go.Proofs.Ytpmibcdmaaagjaa.Atoms

/-
  Contracts of drachmref06.Code, PrefixCode, Atom, Prefix.
-/
import Derived.Test.YtpmibcdmaaagjaaH7
namespace Go.Proofs.Ytpmibcdmaaagjaa.Atoms
open Go.RowKit Go.Shelf Go.Proofs.Ytpmibcdmaaagjaa.Ranges
set_option linter.unusedVariables false
set_option linter.unusedSimpArgs false

attribute [local irreducible] tableRs tablePs csA csP placeI codeAtI codeI

/-- What the document's table is, where it is told. -/
theorem ref_table (w : World) : Calls Try.prog 19 #[] w fun e w' => ∃ ba ca bp cp, e = .returned (.agg #[.slice (some ⟨ba, 0, none⟩) 48 ca, .slice (some ⟨bp, 0, none⟩) 20 cp]) ∧ CodesIn w' ba 12 csA ∧ CodesIn w' bp 6 csP ∧ ba < w'.heap.size ∧ bp < w'.heap.size ∧ 48 ≤ ca ∧ 20 ≤ cp ∧ Below w.heap.size w w' := by
  refine (refTable_any w).mono ?_
  rintro e w1 ⟨sa, sp, S, rfl, hT, hb⟩
  have hA48 : tableRs.length = 48 := by have := csA_len; unfold csA at this; rwa [List.length_map] at this
  have hP20 : tablePs.length = 20 := by have := csP_len; unfold csP at this; rwa [List.length_map] at this
  obtain ⟨ba, ca, rfl, hga, hca⟩ : ∃ b c, sa = .slice (some ⟨b, 0, none⟩) 48 c ∧ Grid w1 b 12 tableRs.length (cellA tableRs S) ∧ 48 ≤ c := by
    rcases hT.atoms.1 with ⟨h0, _⟩ | ⟨b, c, hs, hc, _, hg⟩
    · omega
    · exact ⟨b, c, by rw [hs, hA48], hg, by omega⟩
  obtain ⟨bp, cp, rfl, hgp, hcp⟩ : ∃ b c, sp = .slice (some ⟨b, 0, none⟩) 20 c ∧ Grid w1 b 6 tablePs.length (cellP tablePs) ∧ 20 ≤ c := by
    rcases hT.prefs with ⟨h0, _⟩ | ⟨b, c, hs, hc, _, hg⟩
    · omega
    · exact ⟨b, c, by rw [hs, hP20], hg, by omega⟩
  exact ⟨ba, ca, bp, cp, rfl, codes_A hga, codes_P hgp, hga.2.2, hgp.2.2, hca, hcp, hb⟩

set_option maxRecDepth 100000 in
set_option maxHeartbeats 4000000 in
theorem rcodeA_any (n p : Int) (w : World) (hn : -9223372036854775808 ≤ n ∧ n ≤ 9223372036854775807) :
    Calls Try.prog 10 #[.int .i64 n, .int .i64 p] w fun e w' => e = .returned (.string (bs (codeAtI csA n p))) ∧ Below w.heap.size w w' := by
  go_enter Try.func10, Try.ntmps10
  go_wp2_with fail
  refine (ref_table w).mono ?_
  rintro e w1 ⟨ba, ca, bp, cp, rfl, hA, hP, la, lp, hca, hcp, hb⟩
  have hu : Below w1.heap.size w1 (w1.alloc (.cells #[.slice (some ⟨ba, 0, none⟩) 48 ca, .slice (some ⟨bp, 0, none⟩) 20 cp] 33)) := by go_grown
  have hx0 : (w1.alloc (.cells #[.slice (some ⟨ba, 0, none⟩) 48 ca, .slice (some ⟨bp, 0, none⟩) 20 cp] 33)).cell? ⟨w1.heap.size, 0, none⟩ = some (.slice (some ⟨ba, 0, none⟩) 48 ca) := by simp [go_sem]
  have hx1 : (w1.alloc (.cells #[.slice (some ⟨ba, 0, none⟩) 48 ca, .slice (some ⟨bp, 0, none⟩) 20 cp] 33)).cell? ⟨w1.heap.size, 1, none⟩ = some (.slice (some ⟨bp, 0, none⟩) 20 cp) := by simp [go_sem]
  replace hA := hA.kept (hu.block ba (by omega))
  have hBV := hb.trans (hu.mono hb.size)
  have z0 : (⟨#[]⟩ : ByteArray) = bs [] := rfl
  by_cases h1 : n < 1
  · have HE : Hid (codeAtI csA n p = []) := by show _ = _; unfold codeAtI; split; exact codeI_out (by omega) _; rfl
    go_wp2
    go_ret
    exact ⟨by rw [HE.out]; rfl, hBV⟩
  by_cases h2 : n > 5
  · have HE : Hid (codeAtI csA n p = []) := by show _ = _; unfold codeAtI; split; exact codeI_out (by omega) _; rfl
    go_wp2
    go_ret
    exact ⟨by rw [HE.out]; rfl, hBV⟩
  by_cases h3 : p < 0
  · have HE : Hid (codeAtI csA n p = []) := by show _ = _; unfold codeAtI; rw [if_neg (by omega)]
    go_wp2
    go_ret
    exact ⟨by rw [HE.out]; rfl, hBV⟩
  by_cases h4 : p ≥ 48
  · have HE : Hid (codeAtI csA n p = []) := by show _ = _; unfold codeAtI; rw [if_pos (by omega)]; exact codeI_far (by rw [csA_len]; omega)
    go_wp2
    go_ret
    exact ⟨by rw [HE.out]; rfl, hBV⟩
  obtain ⟨k, rfl⟩ : ∃ k : Nat, p = (k : Int) := ⟨p.toNat, by omega⟩
  obtain ⟨m, rfl⟩ : ∃ m : Nat, n = (m : Int) + 1 := ⟨(n - 1).toNat, by omega⟩
  have hk : k < 48 := by omega
  have hm : m < 5 := by omega
  have q := hA k (by rw [csA_len]; exact hk) m hm
  have HE : Hid (codeAtI csA ((m : Int) + 1) (k : Int) = (csA.getD k noC).get m) := by
    show _ = _
    unfold codeAtI
    rw [if_pos (by omega), Int.toNat_natCast, codeI_in (by omega), show ((m : Int) + 1 - 1).toNat = m by omega]
  generalize (csA.getD k noC).get m = x at *
  have h5 : (k : Int) < 48 := by omega
  have h6 : (m : Int) < 5 := by omega
  clear hA
  go_wp2
  go_ret
  exact ⟨by rw [HE.out]; rfl, hBV⟩

set_option maxRecDepth 100000 in
set_option maxHeartbeats 4000000 in
theorem rcodeP_any (n p : Int) (w : World) (hn : -9223372036854775808 ≤ n ∧ n ≤ 9223372036854775807) :
    Calls Try.prog 11 #[.int .i64 n, .int .i64 p] w fun e w' => e = .returned (.string (bs (codeAtI csP n p))) ∧ Below w.heap.size w w' := by
  go_enter Try.func11, Try.ntmps11
  go_wp2_with fail
  refine (ref_table w).mono ?_
  rintro e w1 ⟨ba, ca, bp, cp, rfl, hA, hP, la, lp, hca, hcp, hb⟩
  have hu : Below w1.heap.size w1 (w1.alloc (.cells #[.slice (some ⟨ba, 0, none⟩) 48 ca, .slice (some ⟨bp, 0, none⟩) 20 cp] 33)) := by go_grown
  have hx0 : (w1.alloc (.cells #[.slice (some ⟨ba, 0, none⟩) 48 ca, .slice (some ⟨bp, 0, none⟩) 20 cp] 33)).cell? ⟨w1.heap.size, 0, none⟩ = some (.slice (some ⟨ba, 0, none⟩) 48 ca) := by simp [go_sem]
  have hx1 : (w1.alloc (.cells #[.slice (some ⟨ba, 0, none⟩) 48 ca, .slice (some ⟨bp, 0, none⟩) 20 cp] 33)).cell? ⟨w1.heap.size, 1, none⟩ = some (.slice (some ⟨bp, 0, none⟩) 20 cp) := by simp [go_sem]
  replace hP := hP.kept (hu.block bp (by omega))
  have hBV := hb.trans (hu.mono hb.size)
  have z0 : (⟨#[]⟩ : ByteArray) = bs [] := rfl
  by_cases h1 : n < 1
  · have HE : Hid (codeAtI csP n p = []) := by show _ = _; unfold codeAtI; split; exact codeI_out (by omega) _; rfl
    go_wp2
    go_ret
    exact ⟨by rw [HE.out]; rfl, hBV⟩
  by_cases h2 : n > 5
  · have HE : Hid (codeAtI csP n p = []) := by show _ = _; unfold codeAtI; split; exact codeI_out (by omega) _; rfl
    go_wp2
    go_ret
    exact ⟨by rw [HE.out]; rfl, hBV⟩
  by_cases h3 : p < 0
  · have HE : Hid (codeAtI csP n p = []) := by show _ = _; unfold codeAtI; rw [if_neg (by omega)]
    go_wp2
    go_ret
    exact ⟨by rw [HE.out]; rfl, hBV⟩
  by_cases h4 : p ≥ 20
  · have HE : Hid (codeAtI csP n p = []) := by show _ = _; unfold codeAtI; rw [if_pos (by omega)]; exact codeI_far (by rw [csP_len]; omega)
    go_wp2
    go_ret
    exact ⟨by rw [HE.out]; rfl, hBV⟩
  obtain ⟨k, rfl⟩ : ∃ k : Nat, p = (k : Int) := ⟨p.toNat, by omega⟩
  obtain ⟨m, rfl⟩ : ∃ m : Nat, n = (m : Int) + 1 := ⟨(n - 1).toNat, by omega⟩
  have hk : k < 20 := by omega
  have hm : m < 5 := by omega
  have q := hP k (by rw [csP_len]; exact hk) m hm
  have HE : Hid (codeAtI csP ((m : Int) + 1) (k : Int) = (csP.getD k noC).get m) := by
    show _ = _
    unfold codeAtI
    rw [if_pos (by omega), Int.toNat_natCast, codeI_in (by omega), show ((m : Int) + 1 - 1).toNat = m by omega]
  generalize (csP.getD k noC).get m = x at *
  have h5 : (k : Int) < 20 := by omega
  have h6 : (m : Int) < 5 := by omega
  clear hP
  go_wp2
  go_ret
  exact ⟨by rw [HE.out]; rfl, hBV⟩

end Go.Proofs.Ytpmibcdmaaagjaa.Atoms

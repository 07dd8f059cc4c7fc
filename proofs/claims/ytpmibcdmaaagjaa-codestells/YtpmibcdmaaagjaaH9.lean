/-
  Contracts of drachmref06.Atom, Prefix.
-/
import Derived.Test.YtpmibcdmaaagjaaH8
namespace Go.Proofs.Ytpmibcdmaaagjaa.Atoms
open Go.RowKit Go.Shelf Go.Proofs.Ytpmibcdmaaagjaa.Ranges
set_option linter.unusedVariables false
set_option linter.unusedSimpArgs false

attribute [local irreducible] tableRs tablePs csA csP placeI codeAtI codeI

set_option maxRecDepth 100000 in
set_option maxHeartbeats 4000000 in
theorem rfindA_any (n : Int) (s : List UInt8) (w : World) (hn : -9223372036854775808 ≤ n ∧ n ≤ 9223372036854775807) :
    Calls Try.prog 17 #[.int .i64 n, .string (bs s)] w fun e w' => e = .returned (.int .i64 (placeI csA n s)) ∧ Below w.heap.size w w' := by
  go_enter Try.func17, Try.ntmps17
  go_wp2_with fail
  refine (ref_table w).mono ?_
  rintro e w1 ⟨ba, ca, bp, cp, rfl, hA, hP, la, lp, hca, hcp, hb⟩
  have hu : Below w1.heap.size w1 (w1.alloc (.cells #[.slice (some ⟨ba, 0, none⟩) 48 ca, .slice (some ⟨bp, 0, none⟩) 20 cp] 33)) := by go_grown
  have hx0 : (w1.alloc (.cells #[.slice (some ⟨ba, 0, none⟩) 48 ca, .slice (some ⟨bp, 0, none⟩) 20 cp] 33)).cell? ⟨w1.heap.size, 0, none⟩ = some (.slice (some ⟨ba, 0, none⟩) 48 ca) := by simp [go_sem]
  have hx1 : (w1.alloc (.cells #[.slice (some ⟨ba, 0, none⟩) 48 ca, .slice (some ⟨bp, 0, none⟩) 20 cp] 33)).cell? ⟨w1.heap.size, 1, none⟩ = some (.slice (some ⟨bp, 0, none⟩) 20 cp) := by simp [go_sem]
  replace hA := hA.kept (hu.block ba (by omega))
  have hBV := hb.trans (hu.mono hb.size)
  go_wp2
  generalize w1.alloc (.cells #[.slice (some ⟨ba, 0, none⟩) 48 ca, .slice (some ⟨bp, 0, none⟩) 20 cp] 33) = V at *
  have HP0 : Hid (∀ k, k ≤ 48 → (∀ x ∈ toldTo csA n k, x.2 ≠ s) → ¬(1 ≤ n ∧ n ≤ 5) ∨ k = 48 → placeI csA n s = -1) := by
    intro k hk hx hor
    unfold placeI
    refine placeL_no fun x hm => ?_
    unfold told at hm
    rw [csA_len] at hm
    rcases hor with h | h
    · rw [toldTo_out h] at hm; cases hm
    · rw [← h] at hm; exact hx x hm
  by_cases h1 : n ≥ 1
  · by_cases h2 : n ≤ 5
    · obtain ⟨m, rfl⟩ : ∃ m : Nat, n = (m : Int) + 1 := ⟨(n - 1).toNat, by omega⟩
      have hm : m < 5 := by omega
      have h6 : (m : Int) < 5 := by omega
      have HC : Hid (∀ k, codeI csA ((m : Int) + 1) k = (csA.getD k noC).get m) := fun k => by rw [codeI_in (by omega), show ((m : Int) + 1 - 1).toNat = m by omega]
      clear hn
      by_cases hse : s = []
      · have e0 : (bs s).toList.isEmpty = true := by rw [hse]; exact bs_none
        have HE : Hid (placeI csA ((m : Int) + 1) s = -1) := by show _ = _; rw [hse]; exact place_empty _ _
        clear hse HP0
        go_loopw [6] (fun x wr => ∃ k : Nat, x = .int .i64 k ∧ k ≤ 48 ∧ V = wr) (fun x _ => (48 - intOf x).toNat)
        case atStart => exact ⟨0, rfl, by omega, rfl⟩
        case round =>
          obtain ⟨k, rfl, hk, rfl⟩ := hrel
          by_cases hkl : k < 48
          · have hki : (k : Int) < 48 := by omega
            go_wp2
            go_roundw
            case rel => exact ⟨k + 1, rfl, by omega, trivial⟩
            case measure => simp only [intOf]; omega
          · have hki : ¬ (k : Int) < 48 := by omega
            go_wp2
            go_ret
            exact ⟨by rw [HE.out]; rfl, hBV⟩
      · have e0 := bs_some hse
        have HS := Lib.hid hse
        clear hse
        go_loopw [6] (fun x wr => ∃ k : Nat, x = .int .i64 k ∧ k ≤ 48 ∧ Hid (∀ x ∈ toldTo csA ((m : Int) + 1) k, x.2 ≠ s) ∧ V = wr) (fun x _ => (48 - intOf x).toNat)
        case atStart => exact ⟨0, rfl, by omega, fun x hx => (by cases hx), rfl⟩
        case round =>
          obtain ⟨k, rfl, hk, HX, rfl⟩ := hrel
          by_cases hkl : k < 48
          · have hki : (k : Int) < 48 := by omega
            have q := hA k (by rw [csA_len]; exact hkl) m hm
            obtain ⟨x, hx⟩ : ∃ x, (csA.getD k noC).get m = x := ⟨_, rfl⟩
            rw [hx] at q
            have HCX : Hid (codeI csA ((m : Int) + 1) k = x) := (HC.out k).trans hx
            clear hx
            by_cases hxs : x = s
            · have e1 : ((bs x).toList == (bs s).toList) = true := by rw [hxs]; simp
              have HE : Hid (placeI csA ((m : Int) + 1) s = (k : Int)) := by
                show _ = _
                unfold placeI
                exact placeL_first (by rw [csA_len]; exact hkl) (HCX.out.trans hxs) HS.out HX.out
              clear hxs
              go_wp2
              go_ret
              exact ⟨by rw [HE.out]; rfl, hBV⟩
            · have e1 : ((bs x).toList == (bs s).toList) = false := by rw [bs_toList, bs_toList]; simpa using hxs
              have HN := Lib.hid hxs
              clear hxs
              go_wp2
              go_roundw
              case rel =>
                refine ⟨k + 1, rfl, by omega, fun y hy => ?_, trivial⟩
                by_cases hc : codeI csA ((m : Int) + 1) k = []
                · rw [toldTo_none hc] at hy; exact HX.out y hy
                · rw [toldTo_some hc] at hy
                  rcases List.mem_append.1 hy with h | h
                  · exact HX.out y h
                  · rw [List.mem_singleton.1 h]
                    show codeI csA ((m : Int) + 1) k ≠ s
                    rw [HCX.out]; exact HN.out
              case measure => simp only [intOf]; omega
          · have hki : ¬ (k : Int) < 48 := by omega
            have HE : Hid (placeI csA ((m : Int) + 1) s = -1) := HP0.out k hk HX.out (.inr (by omega))
            go_wp2
            go_ret
            exact ⟨by rw [HE.out]; rfl, hBV⟩
    · have HE : Hid (placeI csA n s = -1) := HP0.out 0 (by omega) (fun x hx => by cases hx) (.inl (by omega))
      go_loopw [6] (fun x wr => x = .int .i64 0 ∧ V = wr) (fun x _ => 0)
      case atStart => exact ⟨rfl, rfl⟩
      case round =>
        obtain ⟨rfl, rfl⟩ := hrel
        go_wp2
        go_ret
        exact ⟨by rw [HE.out]; rfl, hBV⟩
  · have HE : Hid (placeI csA n s = -1) := HP0.out 0 (by omega) (fun x hx => by cases hx) (.inl (by omega))
    go_loopw [6] (fun x wr => x = .int .i64 0 ∧ V = wr) (fun x _ => 0)
    case atStart => exact ⟨rfl, rfl⟩
    case round =>
      obtain ⟨rfl, rfl⟩ := hrel
      go_wp2
      go_ret
      exact ⟨by rw [HE.out]; rfl, hBV⟩

set_option maxRecDepth 100000 in
set_option maxHeartbeats 4000000 in
theorem rfindP_any (n : Int) (s : List UInt8) (w : World) (hn : -9223372036854775808 ≤ n ∧ n ≤ 9223372036854775807) :
    Calls Try.prog 18 #[.int .i64 n, .string (bs s)] w fun e w' => e = .returned (.int .i64 (placeI csP n s)) ∧ Below w.heap.size w w' := by
  go_enter Try.func18, Try.ntmps18
  go_wp2_with fail
  refine (ref_table w).mono ?_
  rintro e w1 ⟨ba, ca, bp, cp, rfl, hA, hP, la, lp, hca, hcp, hb⟩
  have hu : Below w1.heap.size w1 (w1.alloc (.cells #[.slice (some ⟨ba, 0, none⟩) 48 ca, .slice (some ⟨bp, 0, none⟩) 20 cp] 33)) := by go_grown
  have hx0 : (w1.alloc (.cells #[.slice (some ⟨ba, 0, none⟩) 48 ca, .slice (some ⟨bp, 0, none⟩) 20 cp] 33)).cell? ⟨w1.heap.size, 0, none⟩ = some (.slice (some ⟨ba, 0, none⟩) 48 ca) := by simp [go_sem]
  have hx1 : (w1.alloc (.cells #[.slice (some ⟨ba, 0, none⟩) 48 ca, .slice (some ⟨bp, 0, none⟩) 20 cp] 33)).cell? ⟨w1.heap.size, 1, none⟩ = some (.slice (some ⟨bp, 0, none⟩) 20 cp) := by simp [go_sem]
  replace hP := hP.kept (hu.block bp (by omega))
  have hBV := hb.trans (hu.mono hb.size)
  go_wp2
  generalize w1.alloc (.cells #[.slice (some ⟨ba, 0, none⟩) 48 ca, .slice (some ⟨bp, 0, none⟩) 20 cp] 33) = V at *
  have HP0 : Hid (∀ k, k ≤ 20 → (∀ x ∈ toldTo csP n k, x.2 ≠ s) → ¬(1 ≤ n ∧ n ≤ 5) ∨ k = 20 → placeI csP n s = -1) := by
    intro k hk hx hor
    unfold placeI
    refine placeL_no fun x hm => ?_
    unfold told at hm
    rw [csP_len] at hm
    rcases hor with h | h
    · rw [toldTo_out h] at hm; cases hm
    · rw [← h] at hm; exact hx x hm
  by_cases h1 : n ≥ 1
  · by_cases h2 : n ≤ 5
    · obtain ⟨m, rfl⟩ : ∃ m : Nat, n = (m : Int) + 1 := ⟨(n - 1).toNat, by omega⟩
      have hm : m < 5 := by omega
      have h6 : (m : Int) < 5 := by omega
      have HC : Hid (∀ k, codeI csP ((m : Int) + 1) k = (csP.getD k noC).get m) := fun k => by rw [codeI_in (by omega), show ((m : Int) + 1 - 1).toNat = m by omega]
      clear hn
      by_cases hse : s = []
      · have e0 : (bs s).toList.isEmpty = true := by rw [hse]; exact bs_none
        have HE : Hid (placeI csP ((m : Int) + 1) s = -1) := by show _ = _; rw [hse]; exact place_empty _ _
        clear hse HP0
        go_loopw [6] (fun x wr => ∃ k : Nat, x = .int .i64 k ∧ k ≤ 20 ∧ V = wr) (fun x _ => (20 - intOf x).toNat)
        case atStart => exact ⟨0, rfl, by omega, rfl⟩
        case round =>
          obtain ⟨k, rfl, hk, rfl⟩ := hrel
          by_cases hkl : k < 20
          · have hki : (k : Int) < 20 := by omega
            go_wp2
            go_roundw
            case rel => exact ⟨k + 1, rfl, by omega, trivial⟩
            case measure => simp only [intOf]; omega
          · have hki : ¬ (k : Int) < 20 := by omega
            go_wp2
            go_ret
            exact ⟨by rw [HE.out]; rfl, hBV⟩
      · have e0 := bs_some hse
        have HS := Lib.hid hse
        clear hse
        go_loopw [6] (fun x wr => ∃ k : Nat, x = .int .i64 k ∧ k ≤ 20 ∧ Hid (∀ x ∈ toldTo csP ((m : Int) + 1) k, x.2 ≠ s) ∧ V = wr) (fun x _ => (20 - intOf x).toNat)
        case atStart => exact ⟨0, rfl, by omega, fun x hx => (by cases hx), rfl⟩
        case round =>
          obtain ⟨k, rfl, hk, HX, rfl⟩ := hrel
          by_cases hkl : k < 20
          · have hki : (k : Int) < 20 := by omega
            have q := hP k (by rw [csP_len]; exact hkl) m hm
            obtain ⟨x, hx⟩ : ∃ x, (csP.getD k noC).get m = x := ⟨_, rfl⟩
            rw [hx] at q
            have HCX : Hid (codeI csP ((m : Int) + 1) k = x) := (HC.out k).trans hx
            clear hx
            by_cases hxs : x = s
            · have e1 : ((bs x).toList == (bs s).toList) = true := by rw [hxs]; simp
              have HE : Hid (placeI csP ((m : Int) + 1) s = (k : Int)) := by
                show _ = _
                unfold placeI
                exact placeL_first (by rw [csP_len]; exact hkl) (HCX.out.trans hxs) HS.out HX.out
              clear hxs
              go_wp2
              go_ret
              exact ⟨by rw [HE.out]; rfl, hBV⟩
            · have e1 : ((bs x).toList == (bs s).toList) = false := by rw [bs_toList, bs_toList]; simpa using hxs
              have HN := Lib.hid hxs
              clear hxs
              go_wp2
              go_roundw
              case rel =>
                refine ⟨k + 1, rfl, by omega, fun y hy => ?_, trivial⟩
                by_cases hc : codeI csP ((m : Int) + 1) k = []
                · rw [toldTo_none hc] at hy; exact HX.out y hy
                · rw [toldTo_some hc] at hy
                  rcases List.mem_append.1 hy with h | h
                  · exact HX.out y h
                  · rw [List.mem_singleton.1 h]
                    show codeI csP ((m : Int) + 1) k ≠ s
                    rw [HCX.out]; exact HN.out
              case measure => simp only [intOf]; omega
          · have hki : ¬ (k : Int) < 20 := by omega
            have HE : Hid (placeI csP ((m : Int) + 1) s = -1) := HP0.out k hk HX.out (.inr (by omega))
            go_wp2
            go_ret
            exact ⟨by rw [HE.out]; rfl, hBV⟩
    · have HE : Hid (placeI csP n s = -1) := HP0.out 0 (by omega) (fun x hx => by cases hx) (.inl (by omega))
      go_loopw [6] (fun x wr => x = .int .i64 0 ∧ V = wr) (fun x _ => 0)
      case atStart => exact ⟨rfl, rfl⟩
      case round =>
        obtain ⟨rfl, rfl⟩ := hrel
        go_wp2
        go_ret
        exact ⟨by rw [HE.out]; rfl, hBV⟩
  · have HE : Hid (placeI csP n s = -1) := HP0.out 0 (by omega) (fun x hx => by cases hx) (.inl (by omega))
    go_loopw [6] (fun x wr => x = .int .i64 0 ∧ V = wr) (fun x _ => 0)
    case atStart => exact ⟨rfl, rfl⟩
    case round =>
      obtain ⟨rfl, rfl⟩ := hrel
      go_wp2
      go_ret
      exact ⟨by rw [HE.out]; rfl, hBV⟩

end Go.Proofs.Ytpmibcdmaaagjaa.Atoms

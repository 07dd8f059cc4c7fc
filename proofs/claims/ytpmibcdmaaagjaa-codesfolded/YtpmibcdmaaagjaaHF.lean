/-
  The walk of CodesFolded.
-/
import Derived.Test.YtpmibcdmaaagjaaH7
namespace Go.Proofs.Ytpmibcdmaaagjaa.Atoms
open Go.RowKit Go.Shelf Go.Proofs.Ytpmibcdmaaagjaa.Ranges
set_option linter.unusedVariables false
set_option linter.unusedSimpArgs false

/-- No code is longer than 8, and none of a folded notation has a small letter. -/
def foldB (cs : List C5) : Bool := (List.range cs.length).all fun i => (List.range 5).all fun c =>
  decide (((cs.getD i noC).get c).length ≤ 8) && (!(c == 1 || c == 3) || ((cs.getD i noC).get c).all fun b => decide (b.toNat < 97 ∨ 122 < b.toNat))
theorem small_app {x y : List UInt8} (hx : ∀ b ∈ x, b.toNat < 97 ∨ 122 < b.toNat) (hy : ∀ b ∈ y, b.toNat < 97 ∨ 122 < b.toNat) (j : Nat) (h : j < (bs x ++ bs y).size) : (bs x ++ bs y)[j].toNat < 97 ∨ 122 < (bs x ++ bs y)[j].toNat := by
  have hm : (bs x ++ bs y)[j] ∈ (x ++ y) := by
    have e : bs x ++ bs y = bs (x ++ y) := by
      apply ByteArray.ext
      simp [bs]
    have : ∀ (T : ByteArray) (e : T = bs (x ++ y)) (h : j < T.size), T[j] ∈ x ++ y := by
      intro T e h
      subst e
      have hl : j < (x ++ y).length := by rw [← bs_size]; exact h
      have : (bs (x ++ y))[j] = (x ++ y)[j] := by simp [bs, ByteArray.getElem_eq_getElem_data]
      exact (congrArg (· ∈ x ++ y) this).mpr (List.getElem_mem hl)
    exact this _ e h
  rcases List.mem_append.1 hm with h | h
  · exact hx _ h
  · exact hy _ h
theorem fold_A : foldB csA = true := by decide +kernel
theorem fold_P : foldB csP = true := by decide +kernel
theorem fold_of {cs : List C5} (h : foldB cs = true) (i c : Nat) (hi : i < cs.length) (hc : c < 5) :
    (codeI cs (1 + (c : Int)) i).length ≤ 8 ∧ ((c = 1 ∨ c = 3) → ∀ b ∈ codeI cs (1 + (c : Int)) i, b.toNat < 97 ∨ 122 < b.toNat) := by
  have h1 := List.all_eq_true.1 h i (by simpa using hi)
  have h2 := List.all_eq_true.1 h1 c (by simpa using hc)
  rw [codeI_in (by omega), show (1 + (c : Int) - 1).toNat = c by omega]
  simp only [Bool.and_eq_true, decide_eq_true_eq, Bool.or_eq_true, Bool.not_eq_true'] at h2
  refine ⟨h2.1, fun hh b hb => ?_⟩
  rcases h2.2 with h3 | h3
  · rcases hh with rfl | rfl <;> simp at h3
  · have := List.all_eq_true.1 h3 b hb
    simpa using this

attribute [local irreducible] tableRs tablePs csA csP placeI codeAtI codeI

set_option maxRecDepth 100000 in
set_option maxHeartbeats 4000000 in
theorem folded_walk (n at_ : Int) (w : World) :
    Calls Try.prog 6 #[.int .i64 n, .int .i64 at_] w fun e w' => e = .returned (.bool true) ∧ Below w.heap.size w w' := by
  obtain ⟨a, ha⟩ : ∃ a, restN at_ 48 = a := ⟨_, rfl⟩
  obtain ⟨p, hp⟩ : ∃ p, restN at_ 20 = p := ⟨_, rfl⟩
  obtain ⟨c, hc⟩ : ∃ c, restN n 5 = c := ⟨_, rfl⟩
  have a48 : a < 48 := by rw [← ha]; exact restN_lt at_ 48 (by omega)
  have p20 : p < 20 := by rw [← hp]; exact restN_lt at_ 20 (by omega)
  have c5 : c < 5 := by rw [← hc]; exact restN_lt n 5 (by omega)
  have ra := fun W => rest6_any at_ 48 W (by omega) (by omega)
  have rp := fun W => rest6_any at_ 20 W (by omega) (by omega)
  have rc := fun W => rest6_any n 5 W (by omega) (by omega)
  rw [ha] at ra
  rw [hp] at rp
  rw [hc] at rc
  clear ha hp hc
  have FA := fold_of fold_A a c (by rw [csA_len]; exact a48) c5
  have FP := fold_of fold_P p c (by rw [csP_len]; exact p20) c5
  have ia : (a : Int) < 48 := by omega
  have ip : (p : Int) < 20 := by omega
  have ic : (c : Int) < 5 := by omega
  have hA := fun W => code_any (1 + (c : Int)) a W (by omega)
  have hP := fun W => prefixCode_any (1 + (c : Int)) p W (by omega)
  have eA : codeAtI csA (1 + (c : Int)) a = codeI csA (1 + (c : Int)) a := by unfold codeAtI; rw [if_pos (by omega), Int.toNat_natCast]
  have eP : codeAtI csP (1 + (c : Int)) p = codeI csP (1 + (c : Int)) p := by unfold codeAtI; rw [if_pos (by omega), Int.toNat_natCast]
  rw [eA] at hA
  rw [eP] at hP
  clear eA eP
  generalize codeI csA (1 + (c : Int)) a = x at *
  generalize codeI csP (1 + (c : Int)) p = y at *
  have hx8 : (bs x).size ≤ 8 := by rw [bs_size]; exact FA.1
  have hy8 : (bs y).size ≤ 8 := by rw [bs_size]; exact FP.1
  have HA := Lib.hid FA.2
  have HP := Lib.hid FP.2
  clear FA FP
  go_enter Try.func6, Try.ntmps6
  go_wp2_with fail
  refine (awake6_yes w).mono ?_
  rintro e w1 ⟨rfl, hb1⟩
  go_wp2_with fail
  refine (rc _).mono ?_
  rintro e w' ⟨rfl, rfl⟩
  go_wp2_with fail
  refine (ra _).mono ?_
  rintro e w' ⟨rfl, rfl⟩
  go_wp2_with fail
  refine (hA _).mono ?_
  rintro e w2 ⟨rfl, hb2⟩
  go_wp2_with fail
  refine (rp _).mono ?_
  rintro e w' ⟨rfl, rfl⟩
  go_wp2_with fail
  refine (hP _).mono ?_
  rintro e w3 ⟨rfl, hb3⟩
  have hB := (hb1.trans (hb2.mono hb1.size)).trans (hb3.mono (Nat.le_trans hb1.size hb2.size))
  clear hb1 hb2 hb3 ra rp rc hA hP
  have HT : Hid (c = 1 ∨ c = 3 → ∀ j (h : j < (bs x ++ bs y).size), (bs x ++ bs y)[j].toNat < 97 ∨ 122 < (bs x ++ bs y)[j].toNat) := fun hh => small_app (HA.out hh) (HP.out hh)
  have hTs : (bs x ++ bs y).size ≤ 16 := by rw [ByteArray.size_append]; omega
  go_wp2
  generalize bs x ++ bs y = T at *
  clear HA HP hx8 hy8
  have hTi : (T.size : Int) ≤ 16 := by omega
  by_cases hc : c = 1 ∨ c = 3
  · have HS := Lib.hid (HT.out hc)
    have k2 : (1 + (c : Int) == 2) = true ∨ ((1 + (c : Int) == 2) = false ∧ (1 + (c : Int) == 4) = true) := by
      rcases hc with rfl | rfl
      · exact .inl rfl
      · exact .inr ⟨rfl, rfl⟩
    clear HT hc
    go_loopw [8] (fun x wr => ∃ j : Nat, x = .int .i64 j ∧ j ≤ T.size ∧ Below w.heap.size w wr) (fun x _ => (T.size - intOf x).toNat)
    case atStart => exact ⟨0, rfl, by omega, hB⟩
    case round =>
      clear hB
      obtain ⟨j, rfl, hj, hB⟩ := hrel
      by_cases hjl : j < T.size
      · have hji : (j : Int) < (T.size : Int) := by omega
        have hs := HS.out j hjl
        have hn : 97 ≤ (T[j].toNat : Int) → ¬ (T[j].toNat : Int) ≤ 122 := by omega
        rcases k2 with k2 | ⟨k2, k4⟩
        · go_wp2
          all_goals exact ⟨⟨j + 1, rfl, by omega, hB⟩, by simp only [intOf]; omega⟩
        · go_wp2
          all_goals exact ⟨⟨j + 1, rfl, by omega, hB⟩, by simp only [intOf]; omega⟩
      · have hje : j = T.size := by omega
        have hji : ¬ (j : Int) < (T.size : Int) := by omega
        clear k2
        go_wp2
        go_ret
        exact ⟨rfl, hB⟩
  · have k2 : (1 + (c : Int) == 2) = false := by rw [beq_eq_false_iff_ne]; omega
    have k4 : (1 + (c : Int) == 4) = false := by rw [beq_eq_false_iff_ne]; omega
    clear HT hc
    go_loopw [8] (fun x wr => ∃ j : Nat, x = .int .i64 j ∧ j ≤ T.size ∧ Below w.heap.size w wr) (fun x _ => (T.size - intOf x).toNat)
    case atStart => exact ⟨0, rfl, by omega, hB⟩
    case round =>
      clear hB
      obtain ⟨j, rfl, hj, hB⟩ := hrel
      by_cases hjl : j < T.size
      · have hji : (j : Int) < (T.size : Int) := by omega
        go_wp2
        go_roundw
        case rel => exact ⟨j + 1, rfl, by omega, hB⟩
        case measure => simp only [intOf]; omega
      · have hje : j = T.size := by omega
        have hji : ¬ (j : Int) < (T.size : Int) := by omega
        go_wp2
        go_ret
        exact ⟨rfl, hB⟩

theorem folded_law (n at_ : Int) (w : World) (_ : -9223372036854775808 ≤ n ∧ n ≤ 9223372036854775807) (_ : -9223372036854775808 ≤ at_ ∧ at_ ≤ 9223372036854775807) :
    Calls Try.prog 6 #[.int .i64 n, .int .i64 at_] w fun e w' => e = .returned (.bool true) ∧ Below w.heap.size w w' := folded_walk n at_ w

end Go.Proofs.Ytpmibcdmaaagjaa.Atoms

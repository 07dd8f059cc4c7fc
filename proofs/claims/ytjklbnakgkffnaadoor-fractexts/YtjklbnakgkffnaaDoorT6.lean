/-
  Contracts of the document's read and Read, by Lean functions of the text; the world below stays as it was.
-/
import Derived.Test.YtjklbnakgkffnaaDoorT5
namespace Go.Proofs.YtjklbnakgkffnaaDoor.Texts
open Go.RowKit
open Go.Proofs.YtjklbnakgkffnaaDoor.Whole
open Go.Proofs.YtjklbnakgkffnaaDoor.Frac
set_option linter.unusedVariables false
set_option linter.unusedSimpArgs false

/-- Where the document's reader stands: none: nowhere. -/
def placeA (s : List UInt8) (x : At) : Int := match x.r with
  | none => -1
  | some r => (s.length : Int) - r.length

theorem bs_get (s : List UInt8) (k : Nat) (h : k < (bs s).size) (h' : k < s.length) : (bs s)[k] = s[k] := rfl

theorem drop_cons (s : List UInt8) (k : Nat) (h : k < s.length) : s.drop k = s[k] :: s.drop (k + 1) := List.drop_eq_getElem_cons h

/-- What is read of a text, of what is behind its sign. -/
def behind (sg : Int) (s : List UInt8) (F : Nat) : At := match digRun 0 (s.drop F) with
  | none => ⟨0, none⟩
  | some (n, r) => if r.length = (s.drop F).length then ⟨0, none⟩ else ⟨sg * n, some r⟩

theorem run_stop (s : List UInt8) (j m : Nat) (hstop : ∀ h : j < s.length, ¬ isDig s[j]) : digRun m (s.drop j) = some (m, s.drop j) := by
  by_cases h : j < s.length
  · rw [drop_cons s j h]; simp only [digRun]; rw [if_neg (hstop h)]
  · rw [List.drop_eq_nil_of_le (by omega)]; rfl

theorem behind_none (sg : Int) (s : List UInt8) (F m : Nat) (HD : digRun m (s.drop F) = digRun 0 (s.drop F)) (hstop : ∀ h : F < s.length, ¬ isDig s[F]) : behind sg s F = ⟨0, none⟩ := by
  unfold behind; rw [← HD, run_stop s F m hstop]; simp

theorem behind_some (sg : Int) (s : List UInt8) (F j m : Nat) (HD : digRun m (s.drop j) = digRun 0 (s.drop F)) (hstop : ∀ h : j < s.length, ¬ isDig s[j]) (h1 : F < j) (h2 : j ≤ s.length) : behind sg s F = ⟨sg * m, some (s.drop j)⟩ := by
  unfold behind; rw [← HD, run_stop s j m hstop]
  simp only [List.length_drop]
  rw [if_neg (by omega)]

theorem behind_over (sg : Int) (s : List UInt8) (F j m : Nat) (HD : digRun m (s.drop j) = digRun 0 (s.drop F)) (h : j < s.length) (hd : isDig s[j]) (ho : 9223372036854775807 < m * 10 + (s[j].toNat - 48)) : behind sg s F = ⟨0, none⟩ := by
  unfold behind; rw [← HD, drop_cons s j h]; simp only [digRun]; rw [if_pos hd, if_pos ho]

theorem run_step (s : List UInt8) (j m : Nat) (h : j < s.length) (hd : isDig s[j]) (ho : ¬ 9223372036854775807 < m * 10 + (s[j].toNat - 48)) : digRun m (s.drop j) = digRun (m * 10 + (s[j].toNat - 48)) (s.drop (j + 1)) := by
  rw [drop_cons s j h]; simp only [digRun]; rw [if_pos hd, if_neg ho]

theorem place_drop (s : List UInt8) (n : Int) (j : Nat) (h : j ≤ s.length) : placeA s ⟨n, some (s.drop j)⟩ = j := by
  simp only [placeA, List.length_drop]; omega

set_option maxRecDepth 100000 in
set_option maxHeartbeats 1000000 in
theorem rread_any (s : List UInt8) (k : Nat) (w : World) (hs : s.length ≤ 1000) (hk : k ≤ s.length) :
    Calls Tryd.prog 34 #[.string (bs s), .int .i64 k] w fun e w' => e = .returned (.agg #[.int .i64 (readA (s.drop k)).n, .int .i64 (placeA s (readA (s.drop k)))]) ∧ Below w.heap.size w w' := by
  have hz : (bs s).size = s.length := bs_size s
  obtain ⟨sg, F, hF1, hF2, HU, hsg, hcase⟩ : ∃ (sg : Int) (F : Nat), k ≤ F ∧ F ≤ s.length ∧ Hid (unsign (s.drop k) = (sg, s.drop F)) ∧ (sg = 1 ∨ sg = -1) ∧ ((∃ h : k < (bs s).size, (((bs s)[k].toNat : Int) == 45) = true ∧ sg = -1 ∧ F = k + 1) ∨ ((∀ h : k < (bs s).size, (((bs s)[k].toNat : Int) == 45) = false) ∧ sg = 1 ∧ F = k)) := by
    by_cases h : k < s.length
    · by_cases h5 : s[k] = 45
      · refine ⟨-1, k + 1, by omega, by omega, ?_, Or.inr rfl, Or.inl ⟨by omega, ?_, rfl, rfl⟩⟩
        · show unsign _ = _; rw [drop_cons s k h]; simp only [unsign]; rw [if_pos h5]
        · show ((s[k].toNat : Int) == 45) = true
          rw [h5]; rfl
      · refine ⟨1, k, by omega, by omega, ?_, Or.inl rfl, Or.inr ⟨fun h' => ?_, rfl, rfl⟩⟩
        · show unsign _ = _; rw [drop_cons s k h]; simp only [unsign]; rw [if_neg h5]
        · show ((s[k].toNat : Int) == 45) = false
          rw [beq_eq_false_iff_ne]
          intro h6; apply h5
          apply UInt8.toNat_inj.1; show _ = 45; omega
    · have : s.drop k = [] := List.drop_eq_nil_of_le (by omega)
      refine ⟨1, k, by omega, by omega, ?_, Or.inl rfl, Or.inr ⟨fun h' => by omega, rfl, rfl⟩⟩
      show unsign _ = _; rw [this]; rfl
  have HR : Hid (readA (s.drop k) = behind sg s F) := by
    show readA _ = _
    unfold readA readL behind
    rw [HU.out]
    simp only
    cases digRun 0 (s.drop F) with
    | none => rfl
    | some p =>
      obtain ⟨n, r⟩ := p
      simp only
      by_cases hl : r.length = (s.drop F).length
      · rw [if_pos hl, if_pos hl]
      · rw [if_neg hl, if_neg hl]
  clear HU
  generalize readA (s.drop k) = RA at *
  have hcs : (k < (bs s).size ∧ True) ∨ ¬ k < (bs s).size := by by_cases h : k < (bs s).size <;> simp [h]
  rcases hcase with ⟨h, hb, hsg1, hF⟩ | ⟨hb, hsg1, hF⟩
  · subst hF
    subst hsg1
    clear hcs
    go_enter Tryd.func34, Tryd.ntmps34
    go_wp2_with fail
    go_loopw [1, 6, 8] (fun a b _ v => ∃ (j m : Nat), a = .int .i64 j ∧ b = .int .i64 m ∧ k + 1 ≤ j ∧ j ≤ s.length ∧ m ≤ 9223372036854775807 ∧ Hid (digRun m (s.drop j) = digRun 0 (s.drop (k + 1))) ∧ v = w.alloc (.cells #[.int .i64 0, .int .i64 0] 72)) (fun a _ _ _ => s.length - (intOf a).toNat)
    case atStart => exact ⟨k + 1, 0, rfl, rfl, by omega, by omega, by omega, rfl, rfl⟩
    case round =>
      obtain ⟨j, m, rfl, rfl, hj1, hj2, hm, HD, rfl⟩ := hrel
      by_cases hd : ∃ h : j < (bs s).size, 48 ≤ ((bs s)[j]'h).toNat ∧ ((bs s)[j]'h).toNat ≤ 57
      · obtain ⟨hjz, d1, d2⟩ := hd
        have hjl : j < s.length := by omega
        have D : Hid (isDig s[j]) := ⟨d1, d2⟩
        by_cases ho : 9223372036854775807 < m * 10 + (((bs s)[j]'hjz).toNat - 48)
        · have HB : Hid (RA = ⟨0, none⟩) := by show RA = _; rw [HR.out]; exact behind_over (-1) s (k + 1) j m HD.out hjl D.out ho
          go_wp2
          all_goals
            refine bodyPost_ret (v := .agg #[.int .i64 0, .int .i64 (-1)]) (by simp [results, Tryd.results34, go_sem]) rfl ⟨by rw [HB.out]; rfl, ?_⟩
            go_grown
        · have HN : Hid (digRun (m * 10 + (((bs s)[j]'hjz).toNat - 48)) (s.drop (j + 1)) = digRun 0 (s.drop (k + 1))) := by
            show _ = _; rw [← HD.out]; exact (run_step s j m hjl D.out ho).symm
          go_wp2
          refine ⟨⟨j + 1, m * 10 + (((bs s)[j]'hjz).toNat - 48), rfl, ?_, by omega, by omega, by omega, HN, trivial⟩, ?_⟩
          · congr 1; omega
          · simp only [intOf]; omega
      · have HS : Hid (∀ h : j < s.length, ¬ isDig s[j]) := fun h hh => hd ⟨by omega, hh⟩
        have h3 : (¬ j < (bs s).size) ∨ (∃ h : j < (bs s).size, ((bs s)[j]'h).toNat < 48) ∨ (∃ h : j < (bs s).size, 48 ≤ ((bs s)[j]'h).toNat ∧ 57 < ((bs s)[j]'h).toNat) := by
          by_cases h : j < (bs s).size
          · by_cases h4 : ((bs s)[j]'h).toNat < 48
            · exact Or.inr (Or.inl ⟨h, h4⟩)
            · by_cases h5 : 57 < ((bs s)[j]'h).toNat
              · exact Or.inr (Or.inr ⟨h, by omega, h5⟩)
              · exact absurd ⟨h, by omega, by omega⟩ hd
          · exact Or.inl h
        clear hd
        by_cases hjF : j = k + 1
        · have HB : Hid (RA = ⟨0, none⟩) := by show RA = _; rw [HR.out]; subst hjF; exact behind_none (-1) s _ m HD.out HS.out
          subst hjF
          clear HS
          rcases h3 with h3 | ⟨h3, h4⟩ | ⟨h3, h4, h5⟩
          all_goals
            first
              | (exfalso; omega)
              | (go_wp2
                 refine bodyPost_ret (v := .agg #[.int .i64 0, .int .i64 (-1)]) (by simp [results, Tryd.results34, go_sem]) rfl ⟨by rw [HB.out]; rfl, ?_⟩
                 go_grown)
        · have HB : Hid (RA = ⟨(-1) * m, some (s.drop j)⟩) := by show RA = _; rw [HR.out]; exact behind_some (-1) s (k + 1) j m HD.out HS.out (by omega) hj2
          have HP : Hid (placeA s RA = j) := by show placeA s RA = _; rw [HB.out]; exact place_drop s _ j hj2
          have HV : Hid (RA.n = (-1) * m) := by show RA.n = _; rw [HB.out]
          have e1 : ((j : Int) == ((k : Int) + 1)) = false := by rw [beq_eq_false_iff_ne]; omega
          clear HS hjF
          rcases h3 with h3 | ⟨h3, h4⟩ | ⟨h3, h4, h5⟩
          all_goals
            first
              | (exfalso; omega)
              | (go_wp2
                 refine bodyPost_ret (v := .agg #[.int .i64 ((-1) * m), .int .i64 j]) (by simp [results, Tryd.results34, go_sem]) rfl ⟨by rw [HP.out, HV.out], ?_⟩
                 go_grown)
  · subst hF
    subst hsg1
    rcases hcs with ⟨h, _⟩ | h
    · have hb1 := hb h
      clear hb
      go_enter Tryd.func34, Tryd.ntmps34
      go_wp2_with fail
      go_loopw [1, 6, 8] (fun a b _ v => ∃ (j m : Nat), a = .int .i64 j ∧ b = .int .i64 m ∧ F ≤ j ∧ j ≤ s.length ∧ m ≤ 9223372036854775807 ∧ Hid (digRun m (s.drop j) = digRun 0 (s.drop (F))) ∧ v = w.alloc (.cells #[.int .i64 0, .int .i64 0] 72)) (fun a _ _ _ => s.length - (intOf a).toNat)
      case atStart => exact ⟨F, 0, rfl, rfl, by omega, by omega, by omega, rfl, rfl⟩
      case round =>
        obtain ⟨j, m, rfl, rfl, hj1, hj2, hm, HD, rfl⟩ := hrel
        by_cases hd : ∃ h : j < (bs s).size, 48 ≤ ((bs s)[j]'h).toNat ∧ ((bs s)[j]'h).toNat ≤ 57
        · obtain ⟨hjz, d1, d2⟩ := hd
          have hjl : j < s.length := by omega
          have D : Hid (isDig s[j]) := ⟨d1, d2⟩
          by_cases ho : 9223372036854775807 < m * 10 + (((bs s)[j]'hjz).toNat - 48)
          · have HB : Hid (RA = ⟨0, none⟩) := by show RA = _; rw [HR.out]; exact behind_over 1 s (F) j m HD.out hjl D.out ho
            go_wp2
            all_goals
              refine bodyPost_ret (v := .agg #[.int .i64 0, .int .i64 (-1)]) (by simp [results, Tryd.results34, go_sem]) rfl ⟨by rw [HB.out]; rfl, ?_⟩
              go_grown
          · have HN : Hid (digRun (m * 10 + (((bs s)[j]'hjz).toNat - 48)) (s.drop (j + 1)) = digRun 0 (s.drop (F))) := by
              show _ = _; rw [← HD.out]; exact (run_step s j m hjl D.out ho).symm
            go_wp2
            refine ⟨⟨j + 1, m * 10 + (((bs s)[j]'hjz).toNat - 48), rfl, ?_, by omega, by omega, by omega, HN, trivial⟩, ?_⟩
            · congr 1; omega
            · simp only [intOf]; omega
        · have HS : Hid (∀ h : j < s.length, ¬ isDig s[j]) := fun h hh => hd ⟨by omega, hh⟩
          have h3 : (¬ j < (bs s).size) ∨ (∃ h : j < (bs s).size, ((bs s)[j]'h).toNat < 48) ∨ (∃ h : j < (bs s).size, 48 ≤ ((bs s)[j]'h).toNat ∧ 57 < ((bs s)[j]'h).toNat) := by
            by_cases h : j < (bs s).size
            · by_cases h4 : ((bs s)[j]'h).toNat < 48
              · exact Or.inr (Or.inl ⟨h, h4⟩)
              · by_cases h5 : 57 < ((bs s)[j]'h).toNat
                · exact Or.inr (Or.inr ⟨h, by omega, h5⟩)
                · exact absurd ⟨h, by omega, by omega⟩ hd
            · exact Or.inl h
          clear hd
          by_cases hjF : j = F
          · have HB : Hid (RA = ⟨0, none⟩) := by show RA = _; rw [HR.out]; subst hjF; exact behind_none 1 s _ m HD.out HS.out
            subst hjF
            clear HS
            rcases h3 with h3 | ⟨h3, h4⟩ | ⟨h3, h4, h5⟩
            all_goals
              first
                | (exfalso; omega)
                | (go_wp2
                   refine bodyPost_ret (v := .agg #[.int .i64 0, .int .i64 (-1)]) (by simp [results, Tryd.results34, go_sem]) rfl ⟨by rw [HB.out]; rfl, ?_⟩
                   go_grown)
          · have HB : Hid (RA = ⟨1 * m, some (s.drop j)⟩) := by show RA = _; rw [HR.out]; exact behind_some 1 s (F) j m HD.out HS.out (by omega) hj2
            have HP : Hid (placeA s RA = j) := by show placeA s RA = _; rw [HB.out]; exact place_drop s _ j hj2
            have HV : Hid (RA.n = 1 * m) := by show RA.n = _; rw [HB.out]
            have e1 : ((j : Int) == (F : Int)) = false := by rw [beq_eq_false_iff_ne]; omega
            clear HS hjF
            rcases h3 with h3 | ⟨h3, h4⟩ | ⟨h3, h4, h5⟩
            all_goals
              first
                | (exfalso; omega)
                | (go_wp2
                   refine bodyPost_ret (v := .agg #[.int .i64 (1 * m), .int .i64 j]) (by simp [results, Tryd.results34, go_sem]) rfl ⟨by rw [HP.out, HV.out], ?_⟩
                   go_grown)
    · clear hb
      go_enter Tryd.func34, Tryd.ntmps34
      go_wp2_with fail
      go_loopw [1, 6, 8] (fun a b _ v => ∃ (j m : Nat), a = .int .i64 j ∧ b = .int .i64 m ∧ F ≤ j ∧ j ≤ s.length ∧ m ≤ 9223372036854775807 ∧ Hid (digRun m (s.drop j) = digRun 0 (s.drop (F))) ∧ v = w.alloc (.cells #[.int .i64 0, .int .i64 0] 72)) (fun a _ _ _ => s.length - (intOf a).toNat)
      case atStart => exact ⟨F, 0, rfl, rfl, by omega, by omega, by omega, rfl, rfl⟩
      case round =>
        obtain ⟨j, m, rfl, rfl, hj1, hj2, hm, HD, rfl⟩ := hrel
        by_cases hd : ∃ h : j < (bs s).size, 48 ≤ ((bs s)[j]'h).toNat ∧ ((bs s)[j]'h).toNat ≤ 57
        · obtain ⟨hjz, d1, d2⟩ := hd
          exfalso; omega
        · have HS : Hid (∀ h : j < s.length, ¬ isDig s[j]) := fun h hh => hd ⟨by omega, hh⟩
          have h3 : (¬ j < (bs s).size) ∨ (∃ h : j < (bs s).size, ((bs s)[j]'h).toNat < 48) ∨ (∃ h : j < (bs s).size, 48 ≤ ((bs s)[j]'h).toNat ∧ 57 < ((bs s)[j]'h).toNat) := by
            by_cases h : j < (bs s).size
            · by_cases h4 : ((bs s)[j]'h).toNat < 48
              · exact Or.inr (Or.inl ⟨h, h4⟩)
              · by_cases h5 : 57 < ((bs s)[j]'h).toNat
                · exact Or.inr (Or.inr ⟨h, by omega, h5⟩)
                · exact absurd ⟨h, by omega, by omega⟩ hd
            · exact Or.inl h
          clear hd
          by_cases hjF : j = F
          · have HB : Hid (RA = ⟨0, none⟩) := by show RA = _; rw [HR.out]; subst hjF; exact behind_none 1 s _ m HD.out HS.out
            subst hjF
            clear HS
            rcases h3 with h3 | ⟨h3, h4⟩ | ⟨h3, h4, h5⟩
            all_goals
              first
                | (exfalso; omega)
                | (go_wp2
                   refine bodyPost_ret (v := .agg #[.int .i64 0, .int .i64 (-1)]) (by simp [results, Tryd.results34, go_sem]) rfl ⟨by rw [HB.out]; rfl, ?_⟩
                   go_grown)
          · have HB : Hid (RA = ⟨1 * m, some (s.drop j)⟩) := by show RA = _; rw [HR.out]; exact behind_some 1 s (F) j m HD.out HS.out (by omega) hj2
            have HP : Hid (placeA s RA = j) := by show placeA s RA = _; rw [HB.out]; exact place_drop s _ j hj2
            have HV : Hid (RA.n = 1 * m) := by show RA.n = _; rw [HB.out]
            have e1 : ((j : Int) == (F : Int)) = false := by rw [beq_eq_false_iff_ne]; omega
            clear HS hjF
            rcases h3 with h3 | ⟨h3, h4⟩ | ⟨h3, h4, h5⟩
            all_goals
              first
                | (exfalso; omega)
                | (go_wp2
                   refine bodyPost_ret (v := .agg #[.int .i64 (1 * m), .int .i64 j]) (by simp [results, Tryd.results34, go_sem]) rfl ⟨by rw [HP.out, HV.out], ?_⟩
                   go_grown)

end Go.Proofs.YtjklbnakgkffnaaDoor.Texts

/-
  Contract of style.Kind.
-/
import Derived.Test.YtnkfjbfllcdkbaaDoorYA
namespace Go.Proofs.YtnkfjbfllcdkbaaDoor.Style
open Go.RowKit
set_option linter.unusedVariables false
set_option linter.unusedSimpArgs false

/-- A byte that is one in every notation, not by its letters' kind. -/
def OddIs (c k : Int) : Prop :=
  (c = 37 ∧ k = 1) ∨ (c = 39 ∧ k = 1) ∨ (c = 95 ∧ k = 1) ∨ (c = 91 ∧ k = 1) ∨ (c = 93 ∧ k = 1) ∨ (c = 43 ∧ k = 3) ∨ (c = 45 ∧ k = 3) ∨ (c = 40 ∧ k = 7) ∨ (c = 41 ∧ k = 8)
def OddNo (c : Int) : Prop :=
  (c == 37) = false ∧ (c == 39) = false ∧ (c == 95) = false ∧ (c == 91) = false ∧ (c == 93) = false ∧ (c == 43) = false ∧ (c == 45) = false ∧ (c == 40) = false ∧ (c == 41) = false
theorem odd_or (c : Int) : (∃ k, OddIs c k ∧ allZ c = k ∧ k ≠ 0 ∧ smallZ c = false) ∨ OddNo c := by
  by_cases h : c = 37 ∨ c = 39 ∨ c = 95 ∨ c = 91 ∨ c = 93 ∨ c = 43 ∨ c = 45 ∨ c = 40 ∨ c = 41
  · left
    rcases h with rfl | rfl | rfl | rfl | rfl | rfl | rfl | rfl | rfl
    · exact ⟨1, by unfold OddIs; omega, by decide, by decide, by decide⟩
    · exact ⟨1, by unfold OddIs; omega, by decide, by decide, by decide⟩
    · exact ⟨1, by unfold OddIs; omega, by decide, by decide, by decide⟩
    · exact ⟨1, by unfold OddIs; omega, by decide, by decide, by decide⟩
    · exact ⟨1, by unfold OddIs; omega, by decide, by decide, by decide⟩
    · exact ⟨3, by unfold OddIs; omega, by decide, by decide, by decide⟩
    · exact ⟨3, by unfold OddIs; omega, by decide, by decide, by decide⟩
    · exact ⟨7, by unfold OddIs; omega, by decide, by decide, by decide⟩
    · exact ⟨8, by unfold OddIs; omega, by decide, by decide, by decide⟩
  · right
    unfold OddNo
    simp only [beq_eq_false_iff_ne]
    omega

set_option maxRecDepth 100000 in
set_option maxHeartbeats 1000000 in
theorem kind_odd (n c k : Int) (w : World) (hS : Styles w) (hN : isN n = true) (h : OddIs c k) (hs : smallZ c = false) :
    Calls Tryd.prog 25 #[.int .i64 n, .int .u8 c] w fun e w' => e = .returned (.int .i64 k) ∧ Below w.heap.size w w' := by
  have hO := of_any n w hS
  rw [hN] at hO
  generalize stZ n = s at hO
  obtain ⟨f, m, d, p, op, cl⟩ := s
  simp only [St.v] at hO
  clear hN hS
  rcases h with ⟨rfl, rfl⟩ | ⟨rfl, rfl⟩ | ⟨rfl, rfl⟩ | ⟨rfl, rfl⟩ | ⟨rfl, rfl⟩ | ⟨rfl, rfl⟩ | ⟨rfl, rfl⟩ | ⟨rfl, rfl⟩ | ⟨rfl, rfl⟩
  all_goals
    go_enter Tryd.func25, Tryd.ntmps25
    go_wp2_with fail
    refine hO.mono ?_
    rintro e w1 ⟨rfl, hb1⟩
    have hz1 := hb1.size
    go_wp2_with fail
    refine (isSmall_any _ _ (by omega) (by omega)).mono ?_
    rintro e w2 ⟨rfl, rfl⟩
    rw [hs]
    go_wp2
    go_ret
    exact ⟨rfl, by go_grown⟩

set_option maxRecDepth 100000 in
set_option maxHeartbeats 1000000 in
theorem kind_capital (n c : Int) (w : World) (hS : Styles w) (hN : isN n = true) (h0 : 65 ≤ c) (h1 : c ≤ 90) :
    Calls Tryd.prog 25 #[.int .i64 n, .int .u8 c] w fun e w' => e = .returned (.int .i64 1) ∧ Below w.heap.size w w' := by
  have hO := of_any n w hS
  rw [hN] at hO
  generalize stZ n = s at hO
  obtain ⟨f, m, d, p, op, cl⟩ := s
  simp only [St.v] at hO
  clear hN hS
  go_enter Tryd.func25, Tryd.ntmps25
  go_wp2_with fail
  refine hO.mono ?_
  rintro e w1 ⟨rfl, hb1⟩
  have hz1 := hb1.size
  go_wp2
  go_ret
  exact ⟨rfl, by go_grown⟩

set_option maxRecDepth 100000 in
set_option maxHeartbeats 1000000 in
theorem kind_small (n c : Int) (w : World) (hS : Styles w) (hN : isN n = true) (h0 : 97 ≤ c) (h1 : c ≤ 122) :
    Calls Tryd.prog 25 #[.int .i64 n, .int .u8 c] w fun e w' => e = .returned (.int .i64 1) ∧ Below w.heap.size w w' := by
  have hs : smallZ c = true := by unfold smallZ; exact decide_eq_true ⟨h0, h1⟩
  have hO := of_any n w hS
  rw [hN] at hO
  generalize stZ n = s at hO
  obtain ⟨f, m, d, p, op, cl⟩ := s
  simp only [St.v] at hO
  clear hN hS
  go_enter Tryd.func25, Tryd.ntmps25
  go_wp2_with fail
  refine hO.mono ?_
  rintro e w1 ⟨rfl, hb1⟩
  have hz1 := hb1.size
  go_wp2_with fail
  refine (isSmall_any _ _ (by omega) (by omega)).mono ?_
  rintro e w2 ⟨rfl, rfl⟩
  rw [hs]
  go_wp2
  go_ret
  exact ⟨rfl, by go_grown⟩

set_option maxRecDepth 100000 in
set_option maxHeartbeats 1000000 in
theorem kind_digit (n c : Int) (w : World) (hS : Styles w) (hN : isN n = true) (h0 : 48 ≤ c) (h1 : c ≤ 57) :
    Calls Tryd.prog 25 #[.int .i64 n, .int .u8 c] w fun e w' => e = .returned (.int .i64 2) ∧ Below w.heap.size w w' := by
  have hs : smallZ c = false := by unfold smallZ; exact decide_eq_false (by omega)
  have e1 : (c == 37) = false := by simp only [beq_eq_false_iff_ne]; omega
  have e2 : (c == 39) = false := by simp only [beq_eq_false_iff_ne]; omega
  have e3 : (c == 95) = false := by simp only [beq_eq_false_iff_ne]; omega
  have e4 : (c == 91) = false := by simp only [beq_eq_false_iff_ne]; omega
  have e5 : (c == 93) = false := by simp only [beq_eq_false_iff_ne]; omega
  have hO := of_any n w hS
  rw [hN] at hO
  generalize stZ n = s at hO
  obtain ⟨f, m, d, p, op, cl⟩ := s
  simp only [St.v] at hO
  clear hN hS
  go_enter Tryd.func25, Tryd.ntmps25
  go_wp2_with fail
  refine hO.mono ?_
  rintro e w1 ⟨rfl, hb1⟩
  have hz1 := hb1.size
  go_wp2_with fail
  refine (isSmall_any _ _ (by omega) (by omega)).mono ?_
  rintro e w2 ⟨rfl, rfl⟩
  rw [hs]
  go_wp2
  go_ret
  exact ⟨rfl, by go_grown⟩

set_option maxRecDepth 100000 in
set_option maxHeartbeats 1000000 in
theorem kind_own (n c : Int) (w : World) (hS : Styles w) (hN : isN n = true) (h : OddNo c) (h0 : 0 ≤ c) (h1 : c ≤ 255)
    (hr : c < 48 ∨ (57 < c ∧ c < 65) ∨ (90 < c ∧ c < 97) ∨ 122 < c) :
    Calls Tryd.prog 25 #[.int .i64 n, .int .u8 c] w fun e w' => e = .returned (.int .i64 (ownZ (stZ n) c)) ∧ Below w.heap.size w w' := by
  have hs : smallZ c = false := by unfold smallZ; exact decide_eq_false (by omega)
  obtain ⟨e1, e2, e3, e4, e5, e6, e7, e8, e9⟩ := h
  have hK := ownKind_any (stZ n) c
  have hO := of_any n w hS
  rw [hN] at hO
  generalize stZ n = s at hO hK
  obtain ⟨f, m, d, p, op, cl⟩ := s
  simp only [St.v] at hO hK
  generalize ownZ _ c = k at hK
  clear hN hS
  rcases hr with a | ⟨a, b⟩ | ⟨a, b⟩ | a
  all_goals
    go_enter Tryd.func25, Tryd.ntmps25
    go_wp2_with fail
    refine hO.mono ?_
    rintro e w1 ⟨rfl, hb1⟩
    have hz1 := hb1.size
    go_wp2_with fail
    refine (isSmall_any _ _ (by omega) (by omega)).mono ?_
    rintro e w2 ⟨rfl, rfl⟩
    rw [hs]
    go_wp2_with fail
    refine (hK _).mono ?_
    rintro e w3 ⟨rfl, hb3⟩
    go_wp2
    go_ret
    exact ⟨rfl, (hb1.alloc hz1 _).trans (hb3.mono (by rw [World.size_alloc]; omega))⟩

set_option maxRecDepth 100000 in
set_option maxHeartbeats 1000000 in
theorem kind_none (n c : Int) (w : World) (h : n < 1 ∨ 5 < n) :
    Calls Tryd.prog 25 #[.int .i64 n, .int .u8 c] w fun e w' => e = .returned (.int .i64 0) ∧ Below w.heap.size w w' := by
  have hO := of_none n w h
  simp only [St.v] at hO
  clear h
  go_enter Tryd.func25, Tryd.ntmps25
  go_wp2_with fail
  refine hO.mono ?_
  rintro e w1 ⟨rfl, hb1⟩
  have hz1 := hb1.size
  go_wp2
  go_ret
  exact ⟨rfl, by go_grown⟩

theorem kind_any (n c : Int) (w : World) (hS : Styles w) (h0 : 0 ≤ c) (h1 : c ≤ 255) :
    Calls Tryd.prog 25 #[.int .i64 n, .int .u8 c] w fun e w' => e = .returned (.int .i64 (kindZ n c)) ∧ Below w.heap.size w w' := by
  unfold kindZ
  by_cases hn : 1 ≤ n ∧ n ≤ 5
  · have hN : isN n = true := by unfold isN; exact decide_eq_true hn
    rw [if_pos hN]
    rcases odd_or c with ⟨k, hk, e1, e2, e3⟩ | hno
    · rw [e1, if_neg e2]
      exact kind_odd n c k w hS hN hk e3
    · by_cases a : 65 ≤ c ∧ c ≤ 90
      · have e : allZ c = 1 := by unfold allZ; rw [if_pos (by omega)]
        rw [e]; exact kind_capital n c w hS hN a.1 a.2
      by_cases b : 97 ≤ c ∧ c ≤ 122
      · have e : allZ c = 1 := by unfold allZ; rw [if_pos (by omega)]
        rw [e]; exact kind_small n c w hS hN b.1 b.2
      by_cases d : 48 ≤ c ∧ c ≤ 57
      · have e : allZ c = 2 := by unfold allZ; rw [if_neg (by omega), if_pos d]
        rw [e]; exact kind_digit n c w hS hN d.1 d.2
      have hno' := hno
      unfold OddNo at hno'
      simp only [beq_eq_false_iff_ne] at hno'
      have e : allZ c = 0 := by
        unfold allZ
        rw [if_neg (by omega), if_neg d, if_neg (by omega), if_neg (by omega), if_neg (by omega)]
      rw [e, if_pos rfl]
      exact kind_own n c w hS hN hno h0 h1 (by omega)
  · have hN : isN n = false := by unfold isN; exact decide_eq_false hn
    rw [hN]
    exact kind_none n c w (by omega)

end Go.Proofs.YtnkfjbfllcdkbaaDoor.Style

/-
  Contract of the document's Kind.
-/
import Derived.Test.YthofogokpolhdaaGreatDoorY6X
namespace Go.Proofs.YthofogokpolhdaaGreatDoor.Style
open Go.RowKit
set_option linter.unusedVariables false
set_option linter.unusedSimpArgs false

theorem mul_of (n : Int) (h : isN n = true) : ((stZ n).mul == 0) = false := by
  rcases st_cases n with (rfl | rfl | rfl | rfl | rfl) | ⟨_, _, e⟩
  · rfl
  · rfl
  · rfl
  · rfl
  · rfl
  · rw [e] at h; cases h

set_option maxRecDepth 100000 in
set_option maxHeartbeats 1000000 in
theorem rkind_odd (n c k : Int) (w : World) (hN : isN n = true) (h : OddIs c k) :
    Calls Tryz.prog 66 #[.int .i64 n, .int .u8 c] w fun e w' => e = .returned (.int .i64 k) ∧ Below w.heap.size w w' := by
  have hO := rof_any n w
  have hm := mul_of n hN
  generalize stZ n = s at hO hm
  obtain ⟨f, m, d, p, op, cl⟩ := s
  simp only [St.v] at hO hm
  clear hN
  rcases h with ⟨rfl, rfl⟩ | ⟨rfl, rfl⟩ | ⟨rfl, rfl⟩ | ⟨rfl, rfl⟩ | ⟨rfl, rfl⟩ | ⟨rfl, rfl⟩ | ⟨rfl, rfl⟩ | ⟨rfl, rfl⟩ | ⟨rfl, rfl⟩
  all_goals
    go_enter Tryz.func66, Tryz.ntmps66
    go_wp2_with fail
    refine hO.mono ?_
    rintro e w1 ⟨rfl, hb1⟩
    have hz1 := hb1.size
    go_wp2
    go_ret
    exact ⟨rfl, by go_grown⟩

set_option maxRecDepth 100000 in
set_option maxHeartbeats 1000000 in
theorem rkind_range (n c k : Int) (w : World) (hN : isN n = true) (h : (65 ≤ c ∧ c ≤ 90 ∧ k = 1) ∨ (97 ≤ c ∧ c ≤ 122 ∧ k = 1) ∨ (48 ≤ c ∧ c ≤ 57 ∧ k = 2)) :
    Calls Tryz.prog 66 #[.int .i64 n, .int .u8 c] w fun e w' => e = .returned (.int .i64 k) ∧ Below w.heap.size w w' := by
  have hO := rof_any n w
  have hm := mul_of n hN
  generalize stZ n = s at hO hm
  obtain ⟨f, m, d, p, op, cl⟩ := s
  simp only [St.v] at hO hm
  clear hN
  have c0 : (c == 0) = false := by simp only [beq_eq_false_iff_ne]; omega
  rcases h with ⟨a, b, rfl⟩ | ⟨a, b, rfl⟩ | ⟨a, b, rfl⟩
  · go_enter Tryz.func66, Tryz.ntmps66
    go_wp2_with fail
    refine hO.mono ?_
    rintro e w1 ⟨rfl, hb1⟩
    have hz1 := hb1.size
    go_wp2
    go_ret
    exact ⟨rfl, by go_grown⟩
  · go_enter Tryz.func66, Tryz.ntmps66
    go_wp2_with fail
    refine hO.mono ?_
    rintro e w1 ⟨rfl, hb1⟩
    have hz1 := hb1.size
    go_wp2
    go_ret
    exact ⟨rfl, by go_grown⟩
  · have e1 : (c == 37) = false := by simp only [beq_eq_false_iff_ne]; omega
    have e2 : (c == 39) = false := by simp only [beq_eq_false_iff_ne]; omega
    have e3 : (c == 95) = false := by simp only [beq_eq_false_iff_ne]; omega
    have e4 : (c == 91) = false := by simp only [beq_eq_false_iff_ne]; omega
    have e5 : (c == 93) = false := by simp only [beq_eq_false_iff_ne]; omega
    go_enter Tryz.func66, Tryz.ntmps66
    go_wp2_with fail
    refine hO.mono ?_
    rintro e w1 ⟨rfl, hb1⟩
    have hz1 := hb1.size
    go_wp2
    go_ret
    exact ⟨rfl, by go_grown⟩

/-- Which of the style's own bytes a byte is, by bools. -/
def OwnB (s : St) (c k : Int) : Prop :=
  ((c == 0) = true ∧ k = 0) ∨ ((c == 0) = false ∧ (((c == s.mul) = true ∧ k = 4) ∨ ((c == s.mul) = false ∧ (((c == s.div) = true ∧ k = 5) ∨ ((c == s.div) = false ∧ (((c == s.pow) = true ∧ k = 6) ∨ ((c == s.pow) = false ∧ (((c == s.op) = true ∧ k = 9) ∨ ((c == s.op) = false ∧ (((c == s.cl) = true ∧ k = 10) ∨ ((c == s.cl) = false ∧ k = 0)))))))))))
theorem own_b (s : St) (c : Int) : OwnB s c (ownZ s c) := by
  have := own_is s c
  unfold OwnIs at this
  unfold OwnB
  simpa only [beq_iff_eq] using this

set_option maxRecDepth 100000 in
set_option maxHeartbeats 8000000 in
theorem rkind_own (n c : Int) (w : World) (hN : isN n = true) (h : OddNo c) (h0 : 0 ≤ c) (h1 : c ≤ 255)
    (hr : c < 48 ∨ (57 < c ∧ c < 65) ∨ (90 < c ∧ c < 97) ∨ 122 < c) :
    Calls Tryz.prog 66 #[.int .i64 n, .int .u8 c] w fun e w' => e = .returned (.int .i64 (ownZ (stZ n) c)) ∧ Below w.heap.size w w' := by
  obtain ⟨e1, e2, e3, e4, e5, e6, e7, e8, e9⟩ := h
  have hB := own_b (stZ n) c
  have hO := rof_any n w
  have hm := mul_of n hN
  generalize stZ n = s at hO hm hB
  obtain ⟨f, m, d, p, op, cl⟩ := s
  simp only [St.v] at hO hm
  generalize ownZ _ c = k at hB
  simp only [OwnB] at hB
  clear hN
  rcases hr with a | ⟨a, b⟩ | ⟨a, b⟩ | a
  all_goals
    rcases hB with ⟨q0, rfl⟩ | ⟨q0, ⟨q1, rfl⟩ | ⟨q1, ⟨q2, rfl⟩ | ⟨q2, ⟨q3, rfl⟩ | ⟨q3, ⟨q4, rfl⟩ | ⟨q4, ⟨q5, rfl⟩ | ⟨q5, rfl⟩⟩⟩⟩⟩⟩
    all_goals
      go_enter Tryz.func66, Tryz.ntmps66
      go_wp2_with fail
      refine hO.mono ?_
      rintro e w1 ⟨rfl, hb1⟩
      have hz1 := hb1.size
      go_wp2
      go_ret
      exact ⟨rfl, by go_grown⟩

set_option maxRecDepth 100000 in
set_option maxHeartbeats 1000000 in
theorem rkind_none (n c : Int) (w : World) (h : n < 1 ∨ 5 < n) :
    Calls Tryz.prog 66 #[.int .i64 n, .int .u8 c] w fun e w' => e = .returned (.int .i64 0) ∧ Below w.heap.size w w' := by
  have hO := rof_any n w
  rcases st_cases n with a | ⟨_, e, _⟩
  · omega
  rw [e] at hO
  simp only [St.v] at hO
  clear h e
  go_enter Tryz.func66, Tryz.ntmps66
  go_wp2_with fail
  refine hO.mono ?_
  rintro e w1 ⟨rfl, hb1⟩
  have hz1 := hb1.size
  go_wp2
  go_ret
  exact ⟨rfl, by go_grown⟩

theorem rkind_any (n c : Int) (w : World) (h0 : 0 ≤ c) (h1 : c ≤ 255) :
    Calls Tryz.prog 66 #[.int .i64 n, .int .u8 c] w fun e w' => e = .returned (.int .i64 (kindZ n c)) ∧ Below w.heap.size w w' := by
  unfold kindZ
  by_cases hn : 1 ≤ n ∧ n ≤ 5
  · have hN : isN n = true := by unfold isN; exact decide_eq_true hn
    rw [if_pos hN]
    rcases odd_or c with ⟨k, hk, e1, e2, e3⟩ | hno
    · rw [e1, if_neg e2]
      exact rkind_odd n c k w hN hk
    · by_cases a : 65 ≤ c ∧ c ≤ 90
      · have e : allZ c = 1 := by unfold allZ; rw [if_pos (by omega)]
        rw [e]; exact rkind_range n c 1 w hN (.inl ⟨a.1, a.2, rfl⟩)
      by_cases b : 97 ≤ c ∧ c ≤ 122
      · have e : allZ c = 1 := by unfold allZ; rw [if_pos (by omega)]
        rw [e]; exact rkind_range n c 1 w hN (.inr (.inl ⟨b.1, b.2, rfl⟩))
      by_cases d : 48 ≤ c ∧ c ≤ 57
      · have e : allZ c = 2 := by unfold allZ; rw [if_neg (by omega), if_pos d]
        rw [e]; exact rkind_range n c 2 w hN (.inr (.inr ⟨d.1, d.2, rfl⟩))
      have hno' := hno
      unfold OddNo at hno'
      simp only [beq_eq_false_iff_ne] at hno'
      have e : allZ c = 0 := by
        unfold allZ
        rw [if_neg (by omega), if_neg d, if_neg (by omega), if_neg (by omega), if_neg (by omega)]
      rw [e, if_pos rfl]
      exact rkind_own n c w hN hno h0 h1 (by omega)
  · have hN : isN n = false := by unfold isN; exact decide_eq_false hn
    rw [hN]
    exact rkind_none n c w (by omega)

end Go.Proofs.YthofogokpolhdaaGreatDoor.Style

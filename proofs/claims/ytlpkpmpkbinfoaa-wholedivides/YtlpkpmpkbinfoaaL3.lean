/-
  The walk of the law WholeDivides: it returns true, for every two arguments of its kind; old memory stays.
-/
import Derived.Test.YtlpkpmpkbinfoaaW4
import Derived.WalkSmall
namespace Go.Proofs.Ytlpkpmpkbinfoaa.Whole
open Go.RowKit
set_option linter.unusedVariables false

set_option maxHeartbeats 400000 in
theorem divides_out (a b : Int) (w : World) (h : a < -9223372036854775807 ∨ b < -9223372036854775807) :
    Calls Try.prog 6 #[.int .i64 a, .int .i64 b] w fun e w' => e = .returned (.bool true) ∧ Below w.heap.size w w' := by
  by_cases h1 : a < -9223372036854775807
  · go_enter Try.func6, Try.ntmps6
    go_wp2_with fail
    refine (awake_yes _).mono ?_
    rintro e w' ⟨rfl, n0, rfl⟩
    go_wp2_with fail
    refine (gcd_no _ _ _ h).mono ?_
    rintro e w' ⟨rfl, rfl⟩
    go_wp2_with fail
    go_ret
    exact ⟨rfl, below_drewN (Below.refl _ _) _⟩
  · have h2 : b < -9223372036854775807 := by omega
    have e1 : decide (a < -9223372036854775807) = false := by simp; omega
    go_enter Try.func6, Try.ntmps6
    go_wp2_with fail
    refine (awake_yes _).mono ?_
    rintro e w' ⟨rfl, n0, rfl⟩
    go_wp2_with fail
    refine (gcd_no _ _ _ h).mono ?_
    rintro e w' ⟨rfl, rfl⟩
    go_wp2_with fail
    go_ret
    exact ⟨rfl, below_drewN (Below.refl _ _) _⟩

set_option maxHeartbeats 400000 in
theorem divides_zero (w : World) :
    Calls Try.prog 6 #[.int .i64 0, .int .i64 0] w fun e w' => e = .returned (.bool true) ∧ Below w.heap.size w w' := by
  go_enter Try.func6, Try.ntmps6
  go_wp2_with fail
  refine (awake_yes _).mono ?_
  rintro e w' ⟨rfl, n0, rfl⟩
  go_wp2_with fail
  refine (gcd_yes _ _ _ (by omega) (by omega) (by omega) (by omega)).mono ?_
  rintro e w' ⟨rfl, n, rfl⟩
  rw [show ((Int.gcd 0 0 : Nat) : Int) = 0 from rfl]
  go_wp2_with fail
  go_ret
  exact ⟨rfl, below_drewN (Below.refl _ _) _⟩

/-- What the greatest common divisor g of two numbers, not both 0, is: it divides both; what is left of both has none but 1. -/
theorem gcd_facts (a b : Int) (h : ¬(a = 0 ∧ b = 0)) : 1 ≤ ((Int.gcd a b : Nat) : Int) ∧ a.tmod (Int.gcd a b : Nat) = 0 ∧ b.tmod (Int.gcd a b : Nat) = 0 ∧ Int.gcd (a.tdiv (Int.gcd a b : Nat)) (b.tdiv (Int.gcd a b : Nat)) = 1 := by
  have h1 : 0 < Int.gcd a b := by
    rcases Nat.eq_zero_or_pos (Int.gcd a b) with h0 | h0
    · exact absurd (Int.gcd_eq_zero_iff.1 h0) h
    · exact h0
  refine ⟨by omega, ?_, ?_, ?_⟩
  · exact Int.tmod_eq_zero_of_dvd (Int.gcd_dvd_left a b)
  · exact Int.tmod_eq_zero_of_dvd (Int.gcd_dvd_right a b)
  · rw [Int.tdiv_eq_ediv_of_dvd (Int.gcd_dvd_left a b), Int.tdiv_eq_ediv_of_dvd (Int.gcd_dvd_right a b)]
    exact Int.gcd_ediv_gcd_ediv_gcd h1

theorem tdiv_small (a g : Int) (_hg : 1 ≤ g) : (a.tdiv g).natAbs ≤ a.natAbs := by
  rw [Int.natAbs_tdiv]; exact Nat.div_le_self _ _

set_option maxHeartbeats 400000 in
theorem divides_told (a b : Int) (w : World) (ha : -9223372036854775807 ≤ a) (hb : -9223372036854775807 ≤ b) (a2 : a ≤ 9223372036854775807) (b2 : b ≤ 9223372036854775807) (h0 : ¬(a = 0 ∧ b = 0)) :
    Calls Try.prog 6 #[.int .i64 a, .int .i64 b] w fun e w' => e = .returned (.bool true) ∧ Below w.heap.size w w' := by
  obtain ⟨g1, g2, g3, g4⟩ := gcd_facts a b h0
  have hle : ((Int.gcd a b : Nat) : Int) ≤ 9223372036854775807 := by
    by_cases z : a = 0
    · have : Int.gcd a b = b.natAbs := by rw [z]; simp
      omega
    · have := Int.gcd_le_natAbs_left b z
      omega
  have hc := Int.gcd_comm b a
  have G := Lib.hid (rfl : Int.gcd a b = Int.gcd a b)
  have t1 := tdiv_small a _ g1
  have t2 := tdiv_small b _ g1
  have hz : Int.gcd a 0 = a.natAbs := by simp
  have HC := Lib.hid hc
  have HZ := Lib.hid hz
  have H4 := Lib.hid g4
  clear hc hz g4 G
  have ez : (((Int.gcd a b : Nat) : Int) == 0) = false := by simp only [beq_eq_false_iff_ne]; omega
  have hq1 : -9223372036854775807 ≤ a.tdiv (Int.gcd a b : Nat) := by omega
  have hq2 : a.tdiv (Int.gcd a b : Nat) ≤ 9223372036854775807 := by omega
  have hq3 : -9223372036854775807 ≤ b.tdiv (Int.gcd a b : Nat) := by omega
  have hq4 : b.tdiv (Int.gcd a b : Nat) ≤ 9223372036854775807 := by omega
  have hab : a ≠ 0 ∨ b ≠ 0 := by omega
  clear t1 t2 h0
  generalize hG : ((Int.gcd a b : Nat) : Int) = g at *
  have HG := Lib.hid hG
  clear hG
  have e2 : (a.tmod g != 0) = false := by simp [g2]
  have e3 : (b.tmod g != 0) = false := by simp [g3]
  clear g2 g3
  go_enter Try.func6, Try.ntmps6
  go_wp2_with fail
  refine (awake_yes _).mono ?_
  rintro e w' ⟨rfl, n0, rfl⟩
  go_wp2_with fail
  refine (gcd_yes _ _ _ (by omega) (by omega) (by omega) (by omega)).mono ?_
  rintro e w' ⟨rfl, n, rfl⟩
  rw [HG.out]
  have hl : a = 0 → (b == 0) = false := by intro h; simp; omega
  have c1 : ∀ W, Calls Try.prog 14 #[.int .i64 (a.tdiv g), .int .i64 (b.tdiv g)] W fun e w' => e = .returned (.int .i64 1) ∧ ∃ n, w' = W.drewN n := fun W => by
    have := gcd_yes (a.tdiv g) (b.tdiv g) W hq1 hq3 hq2 hq4
    rw [H4.out] at this; exact this
  have c2 : ∀ W, Calls Try.prog 14 #[.int .i64 b, .int .i64 a] W fun e w' => e = .returned (.int .i64 g) ∧ ∃ n, w' = W.drewN n := fun W => by
    have := gcd_yes b a W hb ha b2 a2
    rw [HC.out, HG.out] at this; exact this
  have C1 := Lib.hid c1
  have C2 := Lib.hid c2
  clear c1 c2
  by_cases hz0 : a = 0
  · have eb := hl hz0
    have HA := Lib.hid hz0
    have ea : (a == 0) = true := by simpa using hz0
    have s1 : ((a.natAbs : Int) == a) = true := by simp; omega
    have s3 : 0 ≤ (a.natAbs : Int) := by omega
    clear hl hab hz0
    go_wp2_with fail
    refine (gcd_yes _ _ _ (by omega) (by omega) (by omega) (by omega)).mono ?_
    rintro e w' ⟨rfl, n1, rfl⟩
    rw [HZ.out]
    go_wp2_with fail
    have hbel := below_drewN (Below.refl w.heap.size w) (n0 + n + n1)
    have HB := Lib.hid hbel
    clear hbel
    generalize w.drewN (n0 + n + n1) = W at *
    have hw1 : IntKind.i64.wrap (a.tdiv g) = a.tdiv g := IntWalk.i64_in _ ⟨by omega, by omega⟩
    have hw2 : IntKind.i64.wrap (b.tdiv g) = b.tdiv g := IntWalk.i64_in _ ⟨by omega, by omega⟩
    have hw3 : IntKind.i64.wrap (-a) = -a := IntWalk.i64_in _ ⟨by omega, by omega⟩
    go_quiet ((first
      | (go_at_call_of 14 (Value.int IntKind.i64 (a.tdiv g)); exact Calls.quiet_of (C1.out _))
      | (go_at_call_of 14 (Value.int IntKind.i64 b); exact Calls.quiet_of (C2.out _))))
    go_wp2
    go_ret
    exact ⟨rfl, below_drewN HB.out _⟩
  · have ea : (a == 0) = false := by simpa using hz0
    clear hl hab
    by_cases sa : a < 0
    · have s1 : ((a.natAbs : Int) == a) = false := by simp; omega
      have s2 : ((a.natAbs : Int) == -a) = true := by simp; omega
      have s3 : 0 ≤ (a.natAbs : Int) := by omega
      go_wp2_with fail
      refine (gcd_yes _ _ _ (by omega) (by omega) (by omega) (by omega)).mono ?_
      rintro e w' ⟨rfl, n1, rfl⟩
      rw [HZ.out]
      go_wp2_with fail
      have hbel := below_drewN (Below.refl w.heap.size w) (n0 + n + n1)
      have HB := Lib.hid hbel
      clear hbel
      generalize w.drewN (n0 + n + n1) = W at *
      have hw1 : IntKind.i64.wrap (a.tdiv g) = a.tdiv g := IntWalk.i64_in _ ⟨by omega, by omega⟩
      have hw2 : IntKind.i64.wrap (b.tdiv g) = b.tdiv g := IntWalk.i64_in _ ⟨by omega, by omega⟩
      have hw3 : IntKind.i64.wrap (-a) = -a := IntWalk.i64_in _ ⟨by omega, by omega⟩
      go_quiet ((first
        | (go_at_call_of 14 (Value.int IntKind.i64 (a.tdiv g)); exact Calls.quiet_of (C1.out _))
        | (go_at_call_of 14 (Value.int IntKind.i64 b); exact Calls.quiet_of (C2.out _))))
      go_wp2
      go_ret
      exact ⟨rfl, below_drewN HB.out _⟩
    · have s1 : ((a.natAbs : Int) == a) = true := by simp; omega
      have s3 : 0 ≤ (a.natAbs : Int) := by omega
      clear sa
      go_wp2_with fail
      refine (gcd_yes _ _ _ (by omega) (by omega) (by omega) (by omega)).mono ?_
      rintro e w' ⟨rfl, n1, rfl⟩
      rw [HZ.out]
      go_wp2_with fail
      have hbel := below_drewN (Below.refl w.heap.size w) (n0 + n + n1)
      have HB := Lib.hid hbel
      clear hbel
      generalize w.drewN (n0 + n + n1) = W at *
      have hw1 : IntKind.i64.wrap (a.tdiv g) = a.tdiv g := IntWalk.i64_in _ ⟨by omega, by omega⟩
      have hw2 : IntKind.i64.wrap (b.tdiv g) = b.tdiv g := IntWalk.i64_in _ ⟨by omega, by omega⟩
      have hw3 : IntKind.i64.wrap (-a) = -a := IntWalk.i64_in _ ⟨by omega, by omega⟩
      go_quiet ((first
        | (go_at_call_of 14 (Value.int IntKind.i64 (a.tdiv g)); exact Calls.quiet_of (C1.out _))
        | (go_at_call_of 14 (Value.int IntKind.i64 b); exact Calls.quiet_of (C2.out _))))
      go_wp2
      go_ret
      exact ⟨rfl, below_drewN HB.out _⟩

theorem divides_walk (a b : Int) (w : World) (ba : -9223372036854775808 ≤ a ∧ a ≤ 9223372036854775807) (bb : -9223372036854775808 ≤ b ∧ b ≤ 9223372036854775807) :
    Calls Try.prog 6 #[.int .i64 a, .int .i64 b] w fun e w' => e = .returned (.bool true) ∧ Below w.heap.size w w' := by
  by_cases h : a < -9223372036854775807 ∨ b < -9223372036854775807
  · exact divides_out a b w h
  by_cases h0 : a = 0 ∧ b = 0
  · obtain ⟨rfl, rfl⟩ := h0; exact divides_zero w
  · exact divides_told a b w (by omega) (by omega) (by omega) (by omega) h0
end Go.Proofs.Ytlpkpmpkbinfoaa.Whole

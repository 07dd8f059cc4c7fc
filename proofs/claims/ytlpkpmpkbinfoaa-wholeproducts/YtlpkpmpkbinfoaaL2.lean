/-
  The walk of the law WholeProducts: it returns true, for every two arguments of its kind; old memory stays.
-/
import Derived.Test.YtlpkpmpkbinfoaaW4
import Derived.WalkSmall
namespace Go.Proofs.Ytlpkpmpkbinfoaa.Whole
open Go.RowKit
set_option linter.unusedVariables false

theorem over_div (x y : Int) (hy : 1 ≤ y) (h : 9223372036854775807 < x * y) : 9223372036854775807 / y < x := by
  exact (Int.ediv_lt_iff_lt_mul (by omega)).2 h

theorem over_neg (x b : Int) (hb : b < 0) (h : decide (9223372036854775807 / -b < x) = true) : decide (wrap64 (-Int.tdiv 9223372036854775807 b) < x) = true := by
  have e : -Int.tdiv 9223372036854775807 b = 9223372036854775807 / -b := by
    rw [← Int.tdiv_neg, Int.tdiv_eq_ediv_of_nonneg (by omega)]
  have h1 : 0 ≤ (9223372036854775807 : Int) / -b := Int.ediv_nonneg (by omega) (by omega)
  have h2 : (9223372036854775807 : Int) / -b ≤ 9223372036854775807 := Int.ediv_le_self _ (by omega)
  rw [e, IntWalk.wrap64_in _ ⟨by omega, h2⟩]; exact h

set_option maxHeartbeats 400000 in
theorem products_out (a b : Int) (w : World) (a2 : a ≤ 9223372036854775807) (b2 : b ≤ 9223372036854775807) (h : b = 0 ∨ a < -9223372036854775807 ∨ b < -9223372036854775807) :
    Calls Try.prog 5 #[.int .i64 a, .int .i64 b] w fun e w' => e = .returned (.bool true) ∧ Below w.heap.size w w' := by
  by_cases h0 : b = 0
  · subst h0
    by_cases h1 : a < -9223372036854775807
    · go_enter Try.func5, Try.ntmps5
      go_wp2_with fail
      refine (awake_yes _).mono ?_
      rintro e w' ⟨rfl, n0, rfl⟩
      go_wp2_with fail
      refine (mul_no _ _ _ (by omega) (by omega) (by omega)).mono ?_
      rintro e w' ⟨rfl, rfl⟩
      go_wp2_with fail
      go_ret
      exact ⟨rfl, below_drewN (Below.refl _ _) _⟩
    · go_enter Try.func5, Try.ntmps5
      go_wp2_with fail
      refine (awake_yes _).mono ?_
      rintro e w' ⟨rfl, n0, rfl⟩
      go_wp2_with fail
      refine (mul_core a 0 0 _ (by omega) (by omega) (by omega) (by omega) (Lib.hid (Int.mul_zero a)) (by omega) (by omega)).mono ?_
      rintro e w' ⟨rfl, rfl⟩
      go_wp2_with fail
      go_ret
      exact ⟨rfl, below_drewN (Below.refl _ _) _⟩
  · have e0 : (b == 0) = false := by simpa using h0
    have e1 : (b != 0) = true := by simpa using h0
    have h' : a < -9223372036854775807 ∨ b < -9223372036854775807 ∨ a * b < -9223372036854775807 ∨ 9223372036854775807 < a * b := by omega
    have H := Lib.hid h'
    clear h'
    by_cases h1 : a < -9223372036854775807
    · go_enter Try.func5, Try.ntmps5
      go_wp2_with fail
      refine (awake_yes _).mono ?_
      rintro e w' ⟨rfl, n0, rfl⟩
      go_wp2_with fail
      refine (mul_no _ _ _ (by omega) (by omega) H.out).mono ?_
      rintro e w' ⟨rfl, rfl⟩
      go_wp2_with fail
      go_ret
      exact ⟨rfl, below_drewN (Below.refl _ _) _⟩
    · have h2 : b < -9223372036854775807 := by omega
      have e2 : decide (a < -9223372036854775807) = false := by simp; omega
      go_enter Try.func5, Try.ntmps5
      go_wp2_with fail
      refine (awake_yes _).mono ?_
      rintro e w' ⟨rfl, n0, rfl⟩
      go_wp2_with fail
      refine (mul_no _ _ _ (by omega) (by omega) H.out).mono ?_
      rintro e w' ⟨rfl, rfl⟩
      go_wp2_with fail
      go_ret
      exact ⟨rfl, below_drewN (Below.refl _ _) _⟩

set_option maxHeartbeats 400000 in
theorem products_told (a b p : Int) (w : World) (ha : -9223372036854775807 ≤ a) (hb : -9223372036854775807 ≤ b) (a2 : a ≤ 9223372036854775807) (b2 : b ≤ 9223372036854775807) (hb0 : b ≠ 0) (hp : Hid (a * b = p)) (h1 : -9223372036854775807 ≤ p) (h2 : p ≤ 9223372036854775807) :
    Calls Try.prog 5 #[.int .i64 a, .int .i64 b] w fun e w' => e = .returned (.bool true) ∧ Below w.heap.size w w' := by
  have e0 : (b == 0) = false := by simpa using hb0
  have hq : p.tdiv b = a := by rw [← hp.out]; exact Int.mul_tdiv_cancel a hb0
  have hr : p.tmod b = 0 := by rw [← hp.out]; exact Int.mul_tmod_left a b
  go_enter Try.func5, Try.ntmps5
  go_wp2_with fail
  refine (awake_yes _).mono ?_
  rintro e w' ⟨rfl, n0, rfl⟩
  go_wp2_with fail
  refine (mul_core a b p _ ha hb a2 b2 hp h1 h2).mono ?_
  rintro e w' ⟨rfl, rfl⟩
  go_wp2_with fail
  go_ret
  exact ⟨rfl, below_drewN (Below.refl _ _) _⟩

set_option maxHeartbeats 400000 in
theorem products_refused (a b : Int) (w : World) (ha : -9223372036854775807 ≤ a) (hb : -9223372036854775807 ≤ b) (a2 : a ≤ 9223372036854775807) (b2 : b ≤ 9223372036854775807) (hb0 : b ≠ 0) (h : Hid (a * b < -9223372036854775807 ∨ 9223372036854775807 < a * b)) :
    Calls Try.prog 5 #[.int .i64 a, .int .i64 b] w fun e w' => e = .returned (.bool true) ∧ Below w.heap.size w w' := by
  have e0 : (b == 0) = false := by simpa using hb0
  have hn : Hid (a < -9223372036854775807 ∨ b < -9223372036854775807 ∨ a * b < -9223372036854775807 ∨ 9223372036854775807 < a * b) := .inr (.inr h)
  have hx : ∀ x y : Int, 1 ≤ y → x * y = (a * b).natAbs → decide (9223372036854775807 / y < x) = true := by
    intro x y hy e
    have := h.out
    simp only [decide_eq_true_eq]
    apply over_div x y hy
    rw [e]; generalize a * b = p at *; omega
  by_cases sa : a < 0 <;> by_cases sb : b < 0
  · have hd := over_neg _ b sb <| hx (-a) (-b) (by omega) (by rw [Int.neg_mul_neg, Int.natAbs_of_nonneg (Int.mul_nonneg_of_nonpos_of_nonpos (by omega) (by omega))])
    clear hx
    go_enter Try.func5, Try.ntmps5
    go_wp2_with fail
    refine (awake_yes _).mono ?_
    rintro e w' ⟨rfl, n0, rfl⟩
    go_wp2_with fail
    refine (mul_no _ _ _ a2 b2 hn.out).mono ?_
    rintro e w' ⟨rfl, rfl⟩
    go_wp2_with fail
    go_ret
    exact ⟨rfl, below_drewN (Below.refl _ _) _⟩
  · have hd := hx (-a) b (by omega) (by rw [Int.neg_mul, Int.ofNat_natAbs_of_nonpos (Int.mul_nonpos_of_nonpos_of_nonneg (by omega) (by omega))])
    clear hx
    go_enter Try.func5, Try.ntmps5
    go_wp2_with fail
    refine (awake_yes _).mono ?_
    rintro e w' ⟨rfl, n0, rfl⟩
    go_wp2_with fail
    refine (mul_no _ _ _ a2 b2 hn.out).mono ?_
    rintro e w' ⟨rfl, rfl⟩
    go_wp2_with fail
    go_ret
    exact ⟨rfl, below_drewN (Below.refl _ _) _⟩
  · have hd := over_neg _ b sb <| hx a (-b) (by omega) (by rw [Int.mul_neg, Int.ofNat_natAbs_of_nonpos (Int.mul_nonpos_of_nonneg_of_nonpos (by omega) (by omega))])
    clear hx
    go_enter Try.func5, Try.ntmps5
    go_wp2_with fail
    refine (awake_yes _).mono ?_
    rintro e w' ⟨rfl, n0, rfl⟩
    go_wp2_with fail
    refine (mul_no _ _ _ a2 b2 hn.out).mono ?_
    rintro e w' ⟨rfl, rfl⟩
    go_wp2_with fail
    go_ret
    exact ⟨rfl, below_drewN (Below.refl _ _) _⟩
  · have hd := hx a b (by omega) (by rw [Int.natAbs_of_nonneg (Int.mul_nonneg (by omega) (by omega))])
    clear hx
    go_enter Try.func5, Try.ntmps5
    go_wp2_with fail
    refine (awake_yes _).mono ?_
    rintro e w' ⟨rfl, n0, rfl⟩
    go_wp2_with fail
    refine (mul_no _ _ _ a2 b2 hn.out).mono ?_
    rintro e w' ⟨rfl, rfl⟩
    go_wp2_with fail
    go_ret
    exact ⟨rfl, below_drewN (Below.refl _ _) _⟩

theorem products_walk (a b : Int) (w : World) (ba : -9223372036854775808 ≤ a ∧ a ≤ 9223372036854775807) (bb : -9223372036854775808 ≤ b ∧ b ≤ 9223372036854775807) :
    Calls Try.prog 5 #[.int .i64 a, .int .i64 b] w fun e w' => e = .returned (.bool true) ∧ Below w.heap.size w w' := by
  obtain ⟨a1, a2⟩ := ba
  obtain ⟨b1, b2⟩ := bb
  by_cases h : b = 0 ∨ a < -9223372036854775807 ∨ b < -9223372036854775807
  · exact products_out a b w a2 b2 h
  by_cases h' : -9223372036854775807 ≤ a * b ∧ a * b ≤ 9223372036854775807
  · exact products_told a b (a * b) w (by omega) (by omega) a2 b2 (by omega) (Lib.hid rfl) h'.1 h'.2
  · exact products_refused a b w (by omega) (by omega) a2 b2 (by omega) (by show _ ∨ _; generalize a * b = p at *; omega)
end Go.Proofs.Ytlpkpmpkbinfoaa.Whole

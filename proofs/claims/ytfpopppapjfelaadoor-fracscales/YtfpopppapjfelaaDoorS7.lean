/-
  The walk of drachmlaw02.FracScales: it returns true, whatever its arguments are; the world below stays as it was.
-/
import Derived.Test.YtfpopppapjfelaaDoorF9
namespace Go.Proofs.YtfpopppapjfelaaDoor.Frac
open Go.RowKit
open Go.Proofs.YtfpopppapjfelaaDoor.Whole
set_option linter.unusedVariables false

set_option maxRecDepth 100000 in
set_option maxHeartbeats 1000000 in
theorem scales_walk (n0 n1 ten by' : Int) (w : World) (hT : OfTen w) (h0 : -9223372036854775808 ≤ n0 ∧ n0 ≤ 9223372036854775807) (h1 : -9223372036854775808 ≤ n1 ∧ n1 ≤ 9223372036854775807) (h2 : -9223372036854775808 ≤ ten ∧ ten ≤ 9223372036854775807) (h3 : -9223372036854775808 ≤ by' ∧ by' ≤ 9223372036854775807) :
    Calls Tryd.prog 9 #[.agg #[.int .i64 n0, .int .i64 n1], .int .i64 ten, .int .i64 by'] w fun e w' => e = .returned (.bool true) ∧ Below w.heap.size w w' := by
  have hB : Below w.heap.size w (w.alloc (.cells #[.int .i64 n0, .int .i64 n1] 50)) := by go_grown
  have c0 : (w.alloc (.cells #[.int .i64 n0, .int .i64 n1] 50)).cell? ⟨w.heap.size, 0, none⟩ = some (.int .i64 n0) := by simp [go_sem]
  have c1 : (w.alloc (.cells #[.int .i64 n0, .int .i64 n1] 50)).cell? ⟨w.heap.size, 1, none⟩ = some (.int .i64 n1) := by simp [go_sem]
  have hz : w.heap.size < (w.alloc (.cells #[.int .i64 n0, .int .i64 n1] 50)).heap.size := by simp
  go_enter Tryd.func9, Tryd.ntmps9
  go_wp2_with fail
  refine (awake2_yes _ (hT.below hB)).mono ?_
  rintro e w1 ⟨rfl, hb⟩
  replace hB := Below.go hB hb
  replace c0 := (hb.cell (p := ⟨w.heap.size, 0, none⟩) hz).trans c0
  replace c1 := (hb.cell (p := ⟨w.heap.size, 1, none⟩) hz).trans c1
  clear hb hz
  have q1 := tmod_in ten 901 (by omega)
  have q2 := tmod_in by' 1000 (by omega)
  go_wp2_with fail
  have ba : -1073741824 ≤ n0 / 8589934592 ∧ n0 / 8589934592 ≤ 1073741824 := by omega
  have bb : -1073741824 ≤ n1 / 8589934592 ∧ n1 / 8589934592 ≤ 1073741824 := by omega
  have bk : 1 ≤ 1 + by'.tmod 1000 % 1000 ∧ 1 + by'.tmod 1000 % 1000 ≤ 1000 := by omega
  generalize n0 / 8589934592 = a at *
  generalize n1 / 8589934592 = b at *
  generalize ten.tmod 901 = t at *
  generalize 1 + by'.tmod 1000 % 1000 = k at *
  clear h0 h1 h2 h3 q2 c0 c1
  have m1 : (a * k).natAbs ≤ 1073741824000 := by
    rw [Int.natAbs_mul]
    exact Nat.mul_le_mul (show a.natAbs ≤ 1073741824 by omega) (show k.natAbs ≤ 1000 by omega)
  have m2 : (b * k).natAbs ≤ 1073741824000 := by
    rw [Int.natAbs_mul]
    exact Nat.mul_le_mul (show b.natAbs ≤ 1073741824 by omega) (show k.natAbs ≤ 1000 by omega)
  have m3 : -1073741824000 ≤ a * k ∧ a * k ≤ 1073741824000 := by omega
  have m4 : -1073741824000 ≤ b * k ∧ b * k ≤ 1073741824000 := by omega
  by_cases hb0 : b = 0
  · subst hb0
    have z : ∀ x s : Int, -9223372036854775807 ≤ x → makeG x 0 s = ⟨0, 0, 0, 11⟩ := fun x s hx => by
      unfold makeG; rw [if_neg (by omega), if_pos rfl]
    have E0 := Lib.hid (z a t (by omega))
    have E1 := Lib.hid (z (a * k) t (by omega))
    have E2 := Lib.hid (z (a * 10) (t - 1) (by omega))
    clear z m1 m2
    refine (make_any _ _ _ _ (hT.below hB) (by omega) (by omega)).mono ?_
    rintro e w2 ⟨rfl, hb⟩
    rw [E0.out]
    unfold Got.v
    replace hB := Below.got hB hb 0 0 0
    clear hb
    go_wp2_with fail
    refine (make_any _ _ _ _ (hT.below hB) (by omega) (by omega)).mono ?_
    rintro e w3 ⟨rfl, hb⟩
    rw [E1.out]
    unfold Got.v
    replace hB := Below.got hB hb 0 0 0
    clear hb
    go_wp2_with fail
    refine (make_any _ _ _ _ (hT.below hB) (by omega) (by omega)).mono ?_
    rintro e w4 ⟨rfl, hb⟩
    rw [E2.out]
    unfold Got.v
    replace hB := Below.got hB hb 0 0 0
    clear hb
    go_wp2_with fail
    refine (make_any _ _ _ _ (hT.below hB) (by omega) (by omega)).mono ?_
    rintro e w5 ⟨rfl, hb⟩
    rw [E0.out]
    unfold Got.v
    replace hB := Below.go hB hb
    have hz := hB.size
    clear hb
    go_wp2
    go_ret
    exact ⟨by simp, by go_grown⟩
  · have z0 : (b == 0) = false := by simpa using hb0
    have E1 := Lib.hid (make_scale a b k t hb0 bk.1 (by omega) (by omega))
    have E2 := Lib.hid (make_ten a b t hb0 (by omega) (by omega) (by omega) (by omega))
    have E3 := Lib.hid (make_neg a b t hb0 (by omega) (by omega))
    have e4 := make_err a b t hb0 (by omega) (by omega)
    have e5 := make_small a b t
    clear hb0 m1 m2
    refine (make_any _ _ _ _ (hT.below hB) (by omega) (by omega)).mono ?_
    rintro e w2 ⟨rfl, hb⟩
    generalize hG : makeG a b t = G at *
    clear hG
    unfold Got.v
    have l1 := LiesF.new w2 G.n G.d G.t
    replace hB := Below.got hB hb G.n G.d G.t
    clear hb
    go_wp2_with fail
    refine (make_any _ _ _ _ (hT.below hB) (by omega) (by omega)).mono ?_
    rintro e w3 ⟨rfl, hb⟩
    rw [E1.out]
    unfold Got.v
    have l2 := LiesF.new w3 G.n G.d G.t
    replace l1 := (l1.go hb).put (.cells #[.int .i64 G.n, .int .i64 G.d, .int .i64 G.t] 24)
    replace hB := Below.got hB hb G.n G.d G.t
    clear hb
    go_wp2_with fail
    refine (make_any _ _ _ _ (hT.below hB) (by omega) (by omega)).mono ?_
    rintro e w4 ⟨rfl, hb⟩
    rw [E2.out]
    unfold Got.v
    have l3 := LiesF.new w4 G.n G.d G.t
    replace l1 := (l1.go hb).put (.cells #[.int .i64 G.n, .int .i64 G.d, .int .i64 G.t] 24)
    replace l2 := (l2.go hb).put (.cells #[.int .i64 G.n, .int .i64 G.d, .int .i64 G.t] 24)
    replace hB := Below.got hB hb G.n G.d G.t
    clear hb
    go_wp2_with fail
    refine (make_any _ _ _ _ (hT.below hB) (by omega) (by omega)).mono ?_
    rintro e w5 ⟨rfl, hb⟩
    rw [E3.out]
    unfold Got.v Got.neg
    obtain ⟨a0, a1, a2, az⟩ := l1.go hb
    obtain ⟨b0, b1, b2, bz⟩ := l2.go hb
    obtain ⟨c0, c1, c2, cz⟩ := l3.go hb
    replace hB := Below.go hB hb
    have hz := hB.size
    clear hb l1 l2 l3
    rcases e4 with e4 | e4
    · have e6 : (G.e == 0) = true := by simp [e4]
      clear e4
      go_wp2
      go_ret
      exact ⟨by simp, by go_grown⟩
    · have e6 : (G.e == 0) = false := by simp [e4]
      have e7 : (G.e == 10) = true := by simp [e4]
      clear e4
      go_wp2
      go_ret
      exact ⟨by simp, by go_grown⟩
end Go.Proofs.YtfpopppapjfelaaDoor.Frac

/-
  The walk of drachmlaw02.FracBack: it returns true, whatever its arguments are; the world below stays as it was.
-/
import Derived.Test.YtfpopppapjfelaaDoorG7
import Derived.Test.YtfpopppapjfelaaDoorBM
namespace Go.Proofs.YtfpopppapjfelaaDoor.Frac
open Go.RowKit
open Go.Proofs.YtfpopppapjfelaaDoor.Whole
set_option linter.unusedVariables false

theorem spec_small (a b c : Int) (h1 : a ≤ 9223372036854775807) (h2 : b ≤ 9223372036854775807) : (specG a b c).n ≤ 9223372036854775807 ∧ (specG a b c).d ≤ 9223372036854775807 := by
  unfold specG
  by_cases he : (makeG a b c).e = 0
  · rw [if_pos he]; exact ⟨by have := make_small a b c; omega, make_dsmall a b c h1 h2⟩
  · rw [if_neg he]; decide

theorem mulG_fine (n1 d1 t1 n2 d2 t2 : Int) (h1 : n1 ≤ 9223372036854775807) (h2 : d1 ≤ 9223372036854775807) (h3 : n2 ≤ 9223372036854775807) (h4 : d2 ≤ 9223372036854775807) (r1 : rightB n1 d1 t1 = true) (r2 : rightB n2 d2 t2 = true) : (mulG n1 d1 t1 n2 d2 t2).Fine := by
  have f1 := right_fine h1 h2 r1
  have f2 := right_fine h3 h4 r2
  unfold mulG; rw [if_neg (by rw [r1, r2]; simp)]
  exact join_fine (parts_ok n2 d2 t2 f2.1 f2.2.1 f2.2.2.1 (by omega) (by omega)) 1 (parts_ok n1 d1 t1 f1.1 f1.2.1 f1.2.2.1 (by omega) (by omega))

theorem zero_right : rightB 0 1 0 = true := by rw [right_eq _ _ _ (by omega) (by omega)]; decide

theorem div_zero_is (n d t : Int) (r : rightB n d t = true) : divG n d t 0 1 0 = ⟨0, 0, 0, 11⟩ := by
  unfold divG; rw [if_neg (by rw [r, zero_right]; simp), if_pos rfl]

/-- In the world v the block b holds six whole numbers. -/
def Lies6 (v : World) (b : Nat) (a0 a1 a2 a3 a4 a5 : Int) : Prop := v.cell? ⟨b, 0, none⟩ = some (.int .i64 a0) ∧ v.cell? ⟨b, 1, none⟩ = some (.int .i64 a1) ∧ v.cell? ⟨b, 2, none⟩ = some (.int .i64 a2) ∧ v.cell? ⟨b, 3, none⟩ = some (.int .i64 a3) ∧ v.cell? ⟨b, 4, none⟩ = some (.int .i64 a4) ∧ v.cell? ⟨b, 5, none⟩ = some (.int .i64 a5) ∧ b < v.heap.size
theorem Lies6.go {v v1 : World} {b : Nat} {a0 a1 a2 a3 a4 a5 : Int} (h : Lies6 v b a0 a1 a2 a3 a4 a5) (hb : Below v.heap.size v v1) : Lies6 v1 b a0 a1 a2 a3 a4 a5 := by
  obtain ⟨h0, h1, h2, h3, h4, h5, hz⟩ := h
  exact ⟨(hb.cell (p := ⟨b, 0, none⟩) hz).trans h0, (hb.cell (p := ⟨b, 1, none⟩) hz).trans h1, (hb.cell (p := ⟨b, 2, none⟩) hz).trans h2, (hb.cell (p := ⟨b, 3, none⟩) hz).trans h3, (hb.cell (p := ⟨b, 4, none⟩) hz).trans h4, (hb.cell (p := ⟨b, 5, none⟩) hz).trans h5, by have := hb.size; omega⟩
theorem Lies6.put {v : World} {b : Nat} {a0 a1 a2 a3 a4 a5 : Int} (h : Lies6 v b a0 a1 a2 a3 a4 a5) (o : Obj) : Lies6 (v.alloc o) b a0 a1 a2 a3 a4 a5 := h.go (by go_grown)

set_option maxRecDepth 100000 in
set_option maxHeartbeats 2000000 in
theorem back_walk (s0 s1 s2 s3 s4 s5 : Int) (w : World) (hT : OfTen w) (h0 : -9223372036854775808 ≤ s0 ∧ s0 ≤ 9223372036854775807) (h1 : -9223372036854775808 ≤ s1 ∧ s1 ≤ 9223372036854775807) (h2 : -9223372036854775808 ≤ s2 ∧ s2 ≤ 9223372036854775807) (h3 : -9223372036854775808 ≤ s3 ∧ s3 ≤ 9223372036854775807) (h4 : -9223372036854775808 ≤ s4 ∧ s4 ≤ 9223372036854775807) (h5 : -9223372036854775808 ≤ s5 ∧ s5 ≤ 9223372036854775807) :
    Calls Tryd.prog 5 #[.agg #[.int .i64 s0, .int .i64 s1, .int .i64 s2, .int .i64 s3, .int .i64 s4, .int .i64 s5]] w fun e w' => e = .returned (.bool true) ∧ Below w.heap.size w w' := by
  have hB : Below w.heap.size w (w.alloc (.cells #[.int .i64 s0, .int .i64 s1, .int .i64 s2, .int .i64 s3, .int .i64 s4, .int .i64 s5] 34)) := by go_grown
  have l0 : Lies6 (w.alloc (.cells #[.int .i64 s0, .int .i64 s1, .int .i64 s2, .int .i64 s3, .int .i64 s4, .int .i64 s5] 34)) w.heap.size s0 s1 s2 s3 s4 s5 := by
    refine ⟨?_, ?_, ?_, ?_, ?_, ?_, ?_⟩
    all_goals simp [go_sem]
  obtain ⟨ra, ea⟩ := spec_right s0 s1 s2 h0.2 h1.2
  obtain ⟨rb, eb⟩ := spec_right s3 s4 s5 h3.2 h4.2
  obtain ⟨a1, a2⟩ := spec_small s0 s1 s2 h0.2 h1.2
  obtain ⟨b1, b2⟩ := spec_small s3 s4 s5 h3.2 h4.2
  go_enter Tryd.func5, Tryd.ntmps5
  go_wp2_with fail
  refine (awake2_yes _ (hT.below hB)).mono ?_
  rintro e w1 ⟨rfl, hb⟩
  replace hB := Below.go hB hb
  replace l0 := l0.go hb
  clear hb
  obtain ⟨q0, q1, q2, q3, q4, q5, qz⟩ := id l0
  go_wp2_with fail
  refine (spec_any s0 s1 s2 _ h0.2 h1.2 h2.1 h2.2).mono ?_
  rintro e w2 ⟨rfl, hb⟩
  generalize specG s0 s1 s2 = A at *
  have l1 := LiesF.new w2 A.n A.d A.t
  replace hB := Below.got hB hb A.n A.d A.t
  replace l0 := (l0.go hb).put (.cells #[.int .i64 A.n, .int .i64 A.d, .int .i64 A.t] 24)
  clear hb q0 q1 q2 q3 q4 q5 qz
  obtain ⟨q0, q1, q2, q3, q4, q5, qz⟩ := id l0
  go_wp2_with fail
  refine (spec_any s3 s4 s5 _ h3.2 h4.2 h5.1 h5.2).mono ?_
  rintro e w3 ⟨rfl, hb⟩
  generalize specG s3 s4 s5 = B at *
  have l2 := LiesF.new w3 B.n B.d B.t
  replace hB := Below.got hB hb B.n B.d B.t
  replace l1 := (l1.go hb).put (.cells #[.int .i64 B.n, .int .i64 B.d, .int .i64 B.t] 24)
  clear hb q0 q1 q2 q3 q4 q5 qz l0 h0 h1 h2 h3 h4 h5
  have HC := Lib.hid (mul_comm B.n B.d B.t A.n A.d A.t)
  have e1 := mul_err A.n A.d A.t B.n B.d B.t ra rb
  have fi := mulG_fine A.n A.d A.t B.n B.d B.t a1 a2 b1 b2 ra rb
  have FI := Lib.hid fi
  have HZ := Lib.hid (div_zero_is A.n A.d A.t ra)
  have HK : Hid (B.n ≠ 0 → (mulG A.n A.d A.t B.n B.d B.t).e = 0 → rightB (mulG A.n A.d A.t B.n B.d B.t).n (mulG A.n A.d A.t B.n B.d B.t).d (mulG A.n A.d A.t B.n B.d B.t).t = true ∧ divG (mulG A.n A.d A.t B.n B.d B.t).n (mulG A.n A.d A.t B.n B.d B.t).d (mulG A.n A.d A.t B.n B.d B.t).t B.n B.d B.t = ⟨A.n, A.d, A.t, 0⟩) :=
    fun hn he => mul_back A.n A.d A.t B.n B.d B.t a1 a2 b1 b2 ra rb hn he
  clear fi ra rb ea eb
  obtain ⟨q0, q1, q2, _⟩ := id l1
  obtain ⟨p0, p1, p2, _⟩ := id l2
  go_wp2_with fail
  refine (mul_any _ _ _ _ _ _ _ (hT.below hB) a1 a2 b1 b2).mono ?_
  rintro e w4 ⟨rfl, hb⟩
  generalize mulG A.n A.d A.t B.n B.d B.t = M at *
  unfold Got.v
  have l3 := LiesF.new w4 M.n M.d M.t
  replace hB := Below.got hB hb M.n M.d M.t
  replace l1 := (l1.go hb).put (.cells #[.int .i64 M.n, .int .i64 M.d, .int .i64 M.t] 24)
  replace l2 := (l2.go hb).put (.cells #[.int .i64 M.n, .int .i64 M.d, .int .i64 M.t] 24)
  clear hb q0 q1 q2 p0 p1 p2
  obtain ⟨q0, q1, q2, _⟩ := id l1
  obtain ⟨p0, p1, p2, _⟩ := id l2
  go_wp2_with fail
  refine (mul_any _ _ _ _ _ _ _ (hT.below hB) b1 b2 a1 a2).mono ?_
  rintro e w5 ⟨rfl, hb⟩
  rw [HC.out]
  unfold Got.v
  have l4 := LiesF.new w5 M.n M.d M.t
  replace hB := Below.got hB hb M.n M.d M.t
  replace l1 := (l1.go hb).put (.cells #[.int .i64 M.n, .int .i64 M.d, .int .i64 M.t] 24)
  replace l2 := (l2.go hb).put (.cells #[.int .i64 M.n, .int .i64 M.d, .int .i64 M.t] 24)
  replace l3 := (l3.go hb).put (.cells #[.int .i64 M.n, .int .i64 M.d, .int .i64 M.t] 24)
  clear hb q0 q1 q2 p0 p1 p2
  obtain ⟨q0, q1, q2, _⟩ := id l1
  go_wp2_with fail
  refine (div_any _ _ _ _ _ _ _ (hT.below hB) a1 a2 (by omega) (by omega)).mono ?_
  rintro e w6 ⟨rfl, hb⟩
  rw [HZ.out]
  unfold Got.v
  replace hB := Below.got hB hb 0 0 0
  replace l1 := (l1.go hb).put (.cells #[.int .i64 0, .int .i64 0, .int .i64 0] 24)
  replace l2 := (l2.go hb).put (.cells #[.int .i64 0, .int .i64 0, .int .i64 0] 24)
  replace l3 := (l3.go hb).put (.cells #[.int .i64 0, .int .i64 0, .int .i64 0] 24)
  replace l4 := (l4.go hb).put (.cells #[.int .i64 0, .int .i64 0, .int .i64 0] 24)
  clear hb q0 q1 q2
  obtain ⟨q0, q1, q2, _⟩ := id l3
  obtain ⟨p0, p1, p2, _⟩ := id l4
  obtain ⟨m0, m1, m2, _⟩ := id l2
  rcases e1 with e1 | e1
  · have e6 : (M.e != 0) = false := by simp [e1]
    have e7 : (M.e == 0) = true := by simp [e1]
    by_cases hn : B.n = 0
    · have z0 : (B.n == 0) = true := by simpa using hn
      clear hn e1
      go_wp2
      go_ret
      exact ⟨by simp, hB⟩
    · have z0 : (B.n == 0) = false := by simpa using hn
      obtain ⟨k1, k2⟩ := HK.out hn e1
      obtain ⟨f1, f2, f3, f4, f5⟩ := FI.out e1
      have K1 := Lib.hid k1
      have K2 := Lib.hid k2
      clear hn e1 k1 k2
      go_wp2_with fail
      refine (div_any _ _ _ _ _ _ _ (hT.below hB) (by omega) f3 b1 b2).mono ?_
      rintro e w7 ⟨rfl, hb⟩
      rw [K2.out]
      unfold Got.v
      replace hB := Below.got hB hb A.n A.d A.t
      replace l1 := (l1.go hb).put (.cells #[.int .i64 A.n, .int .i64 A.d, .int .i64 A.t] 24)
      replace l3 := (l3.go hb).put (.cells #[.int .i64 A.n, .int .i64 A.d, .int .i64 A.t] 24)
      have l6 := LiesF.new w7 A.n A.d A.t
      clear hb q0 q1 q2 p0 p1 p2 m0 m1 m2 l2 l4
      obtain ⟨q0, q1, q2, _⟩ := id l1
      obtain ⟨p0, p1, p2, _⟩ := id l3
      obtain ⟨m0, m1, m2, _⟩ := id l6
      go_wp2_with fail
      refine (right_any _ _ _ _ (hT.below hB) (by omega) f3).mono ?_
      rintro e w8 ⟨rfl, hb⟩
      rw [K1.out]
      replace hB := Below.go hB hb
      clear hb
      go_wp2
      go_ret
      exact ⟨by simp, hB⟩
  · have e6 : (M.e != 0) = true := by simp [e1]
    have e7 : (M.e == 0) = false := by simp [e1]
    have e8 : (M.e == 10) = true := by simp [e1]
    clear e1
    go_wp2
    go_ret
    exact ⟨by simp, hB⟩

end Go.Proofs.YtfpopppapjfelaaDoor.Frac

/-
  Contracts of the document's answer for exact numbers, third part: drachmref02.Make, Right, turned; each by one Lean function of the numbers; the world below stays as it was.
-/
import Derived.Test.YtjklbnakgkffnaaDoorG2
namespace Go.Proofs.YtjklbnakgkffnaaDoor.Frac
open Go.RowKit
open Go.Proofs.YtjklbnakgkffnaaDoor.Whole
set_option linter.unusedVariables false
set_option linter.unusedSimpArgs false

theorem RoomG.new (w : World) : RoomG (w.alloc (.cells #[.int .i64 0, .int .i64 0, .int .i64 0, .int .i64 0] 30)) w.heap.size := by
  refine ⟨?_, ?_, ?_, ?_, fun j => ?_, ?_⟩
  all_goals simp [go_sem]

set_option maxRecDepth 100000 in
set_option maxHeartbeats 1000000 in
theorem rmake_any (num den ten : Int) (w : World) (h1 : num ≤ 9223372036854775807) (h2 : den ≤ 9223372036854775807) (ht : -9223372036854775808 ≤ ten) (ht' : ten ≤ 9223372036854775807) :
    Calls Tryd.prog 38 #[.int .i64 num, .int .i64 den, .int .i64 ten] w fun e w' => e = .returned (makeR num den ten).r ∧ Below w.heap.size w w' := by
  unfold makeR
  by_cases b1 : num < -9223372036854775807
  · rw [if_pos (.inl b1)]
    by_cases b2 : den < -9223372036854775807
    · go_enter Tryd.func38, Tryd.ntmps38
      go_wp2_with (go_at_call 71; ((with_reducible refine (rfits_no _ _ (by omega)).mono ?_); rintro e w' ⟨rfl, rfl⟩))
      refine bodyPost_ret (v := (⟨0, 0, 0, 1⟩ : Got).r) (by simp [results, Tryd.results38, go_sem, Got.r]) rfl ⟨rfl, ?_⟩
      go_grown
    · go_enter Tryd.func38, Tryd.ntmps38
      go_wp2_with (first
        | (go_at_call_of 71 (Value.int IntKind.i64 num); ((with_reducible refine (rfits_no _ _ b1).mono ?_); rintro e w' ⟨rfl, rfl⟩))
        | (go_at_call_of 71 (Value.int IntKind.i64 den); ((with_reducible refine (rfits_yes _ _ (by omega)).mono ?_); rintro e w' ⟨rfl, rfl⟩)))
      refine bodyPost_ret (v := (⟨0, 0, 0, 1⟩ : Got).r) (by simp [results, Tryd.results38, go_sem, Got.r]) rfl ⟨rfl, ?_⟩
      go_grown
  by_cases b2 : den < -9223372036854775807
  · rw [if_pos (.inr b2)]
    go_enter Tryd.func38, Tryd.ntmps38
    go_wp2_with (first
      | (go_at_call_of 71 (Value.int IntKind.i64 den); ((with_reducible refine (rfits_no _ _ b2).mono ?_); rintro e w' ⟨rfl, rfl⟩))
      | (go_at_call_of 71 (Value.int IntKind.i64 num); ((with_reducible refine (rfits_yes _ _ (by omega)).mono ?_); rintro e w' ⟨rfl, rfl⟩)))
    refine bodyPost_ret (v := (⟨0, 0, 0, 1⟩ : Got).r) (by simp [results, Tryd.results38, go_sem, Got.r]) rfl ⟨rfl, ?_⟩
    go_grown
  rw [if_neg (by omega)]
  by_cases hd : den = 0
  · rw [if_pos hd]
    subst hd
    go_enter Tryd.func38, Tryd.ntmps38
    go_wp2_with (go_at_call 71; ((with_reducible refine (rfits_yes _ _ (by omega)).mono ?_); rintro e w' ⟨rfl, rfl⟩))
    refine bodyPost_ret (v := (⟨0, 0, 0, 11⟩ : Got).r) (by simp [results, Tryd.results38, go_sem, Got.r]) rfl ⟨rfl, ?_⟩
    go_grown
  rw [if_neg hd]
  have zd : (den == 0) = false := by simpa using hd
  by_cases hn : num = 0
  · rw [if_pos hn]
    subst hn
    clear hd
    go_enter Tryd.func38, Tryd.ntmps38
    go_wp2_with (go_at_call 71; ((with_reducible refine (rfits_yes _ _ (by omega)).mono ?_); rintro e w' ⟨rfl, rfl⟩))
    refine bodyPost_ret (v := (⟨0, 1, 0, 0⟩ : Got).r) (by simp [results, Tryd.results38, go_sem, Got.r]) rfl ⟨rfl, ?_⟩
    go_grown
  rw [if_neg hn]
  have zn : (num == 0) = false := by simpa using hn
  have ok := ofS_ok num den hn hd (by omega) (by omega)
  have HD := Lib.hid hd
  have HN := Lib.hid hn
  clear hd hn
  generalize hG : formS (ofS num den) ten = G
  have HG := Lib.hid hG
  clear hG
  have hR := RoomG.new w
  have hB : Below w.heap.size w (w.alloc (.cells #[.int .i64 0, .int .i64 0, .int .i64 0, .int .i64 0] 30)) := by go_grown
  go_enter Tryd.func38, Tryd.ntmps38
  go_wp2_with (go_at_call 71; ((with_reducible refine (rfits_yes _ _ (by omega)).mono ?_); rintro e w' ⟨rfl, rfl⟩))
  refine (of_any num den _ (by omega) (by omega) HN.out HD.out).mono ?_
  rintro e w1 ⟨rfl, hb⟩
  replace hR := hR.below hb hR.2.2.2.2.2
  replace hB := Below.go hB hb
  clear hb
  go_wp2_with fail
  refine (rform_any _ _ _ (ok.more (by omega)) ht ht').mono ?_
  rintro e w2 ⟨rfl, hb⟩
  replace hR := hR.below hb hR.2.2.2.2.2
  replace hB := Below.go hB hb
  clear hb
  rw [HG.out]
  obtain ⟨r0, r1, r2, r3, rf, rz⟩ := hR
  unfold Got.r
  go_wp2
  refine bodyPost_ret (v := G.r) (by simp [results, Tryd.results38, go_sem, Got.r, r0, r1, r2, r3]) rfl ⟨rfl, ?_⟩
  go_grown

theorem rightR_is (n d t : Int) (hn : n ≠ 0) (h : -9223372036854775807 ≤ n) : rightR n d t = (decide (1 ≤ d) && decide (¬ d % 2 = 0) && decide (¬ d % 5 = 0) && decide (¬ n.tmod 10 = 0) && decide (((Int.gcd n d : Nat) : Int) = 1) && decide (-1000 ≤ t) && decide (t ≤ 1000)) := by
  have e1 : (n % 10 = 0) = (n.tmod 10 = 0) := propext (tmod_zero n 10).symm
  have e2 : (Int.gcd n d = 1) = (((Int.gcd n d : Nat) : Int) = 1) := propext (by omega)
  unfold rightR
  rw [if_neg hn, Bool.eq_iff_iff]
  simp [e1, e2, h]

set_option maxRecDepth 100000 in
set_option maxHeartbeats 1000000 in
theorem rright_any (n d t : Int) (w : World) (h1 : n ≤ 9223372036854775807) (h2 : d ≤ 9223372036854775807) :
    Calls Tryd.prog 39 #[.agg #[.int .i64 n, .int .i64 d, .int .i64 t]] w fun e w' => e = .returned (.bool (rightR n d t)) ∧ Below w.heap.size w w' := by
  by_cases b1 : n < -9223372036854775807
  · have z0 : (n == 0) = false := by simp only [beq_eq_false_iff_ne]; omega
    have HR : Hid (rightR n d t = false) := by
      show rightR n d t = false
      unfold rightR; rw [if_neg (by omega)]; simp; omega
    go_enter Tryd.func39, Tryd.ntmps39
    go_wp2_with (go_at_call 71; ((with_reducible refine (rfits_no _ _ (by omega)).mono ?_); rintro e w' ⟨rfl, rfl⟩))
    all_goals go_ret
    all_goals exact ⟨by rw [HR.out]; rfl, by go_grown⟩
  by_cases hn : n = 0
  · subst hn
    go_enter Tryd.func39, Tryd.ntmps39
    go_wp2_with (go_at_call 71; ((with_reducible refine (rfits_yes _ _ (by omega)).mono ?_); rintro e w' ⟨rfl, rfl⟩))
    all_goals go_ret
    all_goals refine ⟨?_, by go_grown⟩
    all_goals first | (simp [rightR, *]; done) | (simp [rightR, *]; exact Bool.eq_iff_iff.2 (by simp))
  have z0 : (n == 0) = false := by simpa using hn
  have HN := Lib.hid hn
  clear hn
  go_enter Tryd.func39, Tryd.ntmps39
  go_wp2_with (first
    | (go_at_call 71; ((with_reducible refine (rfits_yes _ _ (by omega)).mono ?_); rintro e w' ⟨rfl, rfl⟩))
    | (go_at_call 74; ((with_reducible refine (rgcd_yes _ _ _ (by omega) (by omega) (by omega) (by omega)).mono ?_); rintro e w' ⟨rfl, rfl⟩)))
  all_goals go_ret
  all_goals refine ⟨?_, by go_grown⟩
  all_goals
    rw [rightR_is n d t HN.out (by omega)]
    first | (simp [*]; done) | (simp [*]; omega)

end Go.Proofs.YtjklbnakgkffnaaDoor.Frac

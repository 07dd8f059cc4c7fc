/-
  Contracts of the document's answer for exact numbers, second part: drachmref02.form, Make; each by one Lean function of the numbers; the world below stays as it was.
-/
import Derived.Test.YtjklbnakgkffnaaDoorG1
namespace Go.Proofs.YtjklbnakgkffnaaDoor.Frac
open Go.RowKit
open Go.Proofs.YtjklbnakgkffnaaDoor.Whole
set_option linter.unusedVariables false
set_option linter.unusedSimpArgs false

set_option maxRecDepth 100000 in
set_option maxHeartbeats 2000000 in
theorem rform_five (s p q two ten N : Int) (M : Nat) (w : World) (hM : 0 < M) (hM' : M ≤ 2000000) (hs : s = 1 ∨ s = -1) (hp : 1 ≤ p) (hp' : p ≤ 9223372036854775807) (h1 : -1000000 ≤ two) (h2 : two ≤ 1000000) (ht : -9223372036854775808 ≤ ten) (ht' : ten ≤ 9223372036854775807) (hN : N = p * 5 ^ M) :
    Calls Tryd.prog 72 #[.agg #[.int .i64 s, .int .i64 p, .int .i64 q, .int .i64 two, .int .i64 (two + M)], .int .i64 ten] w fun e w' => e = .returned (if 9223372036854775807 < N then over else if ten < -2000 ∨ 2000 < ten ∨ ten + two < -1000 ∨ 1000 < ten + two then over else ⟨s * N, q, ten + two, 0⟩ : Got).r ∧ Below w.heap.size w w' := by
  have HN := Lib.hid hN
  clear hN
  generalize hG : (if 9223372036854775807 < N then over else if ten < -2000 ∨ 2000 < ten ∨ ten + two < -1000 ∨ 1000 < ten + two then over else ⟨s * N, q, ten + two, 0⟩ : Got) = G
  have HG := Lib.hid hG
  clear hG
  have hA := FormAt.new w ⟨s, p, q, two, two + M⟩
  go_enter Tryd.func72, Tryd.ntmps72
  go_wp2
  go_loopw [8, 9] (fun a b v => ∃ (m : Int) (k : Nat), a = .int .i64 m ∧ b = .int .i64 k ∧ k ≤ M ∧ 1 ≤ m ∧ m ≤ 9223372036854775807 ∧ Hid (m = p * 5 ^ k) ∧ FormAt w v ⟨s, p, q, two, two + M⟩) (fun _ b _ => M - (intOf b).toNat)
  case atStart => exact ⟨p, 0, rfl, rfl, by omega, hp, hp', by show p = p * 5 ^ 0; simp, hA⟩
  case round =>
    clear hA
    obtain ⟨m, k, rfl, rfl, hk, hm, hm', HK, hA⟩ := hrel
    obtain ⟨b0, ⟨l0, l1, l2, l3, l4, l5⟩, r0, r1, r2, r3, rf, rz⟩ := id hA
    by_cases hlt : k < M
    · obtain ⟨y, hye⟩ : ∃ y, y = p * 5 ^ (k + 1) := ⟨_, rfl⟩
      have HY := Lib.hid hye
      have HM : Hid (m * 5 = y) := by show m * 5 = y; rw [HK.out, hye, pow_step]
      have hy1 : 1 ≤ y := by rw [← HM.out]; omega
      clear hye
      by_cases hfit : y ≤ 9223372036854775807
      · go_wp2_with fail
        refine (rmul_yes _ _ _ (by omega) (by omega) (by omega) (by omega) (by rw [HM.out]; omega) (by rw [HM.out]; omega)).mono ?_
        rw [HM.out]
        rintro e w1 ⟨rfl, rfl⟩
        go_wp2
        go_roundw
        case rel => exact ⟨y, k + 1, rfl, by go_num, by omega, hy1, hfit, HY, hA.below (by go_grown)⟩
        case measure => simp only [intOf]; omega
      · have HO : Hid (G = over) := by
          show G = over
          rw [← HG.out, if_pos]
          have := pow_mono p 5 (k + 1) M (by omega) (by omega)
          rw [← HN.out, ← HY.out] at this
          have hn : 0 ≤ N := by rw [HN.out]; exact Int.mul_nonneg (by omega) (Int.pow_nonneg (by omega))
          omega
        have rz2 : w.heap.size + 1 < wr.heap.size + 1 := by omega
        go_wp2_with fail
        refine (rmul_no _ _ _ (by omega) (by omega) (.inr (.inr (by rw [HM.out]; omega)))).mono ?_
        rintro e w1 ⟨rfl, rfl⟩
        go_wp2
        refine bodyPost_ret (v := over.r) (by simp [results, Tryd.results72, go_sem, over, Got.r, r0, r1, r2, r3, rz, rz2]) rfl ⟨by rw [HO.out], ?_⟩
        go_grown
    · obtain rfl : k = M := by omega
      have HE : Hid (m = N) := by show m = N; rw [HK.out, HN.out]
      obtain rfl := HE.out
      by_cases hf : ten < -2000 ∨ 2000 < ten ∨ ten + two < -1000 ∨ 1000 < ten + two
      · have HO : Hid (G = over) := by
          show G = over
          rw [← HG.out, if_neg (by omega), if_pos hf]
        go_wp2
        all_goals
          refine bodyPost_ret (v := over.r) (by simp [results, Tryd.results72, go_sem, over, Got.r, r0, r1, r2, r3, rz]) rfl ⟨by rw [HO.out], ?_⟩
          go_grown
      · have HO : Hid (G = ⟨s * m, q, ten + two, 0⟩) := by
          show G = _
          rw [← HG.out, if_neg (by omega), if_neg hf]
        have t1 : -2000 ≤ ten ∧ ten ≤ 2000 ∧ -1000 ≤ ten + two ∧ ten + two ≤ 1000 := by omega
        clear hf
        have hsm : -9223372036854775807 ≤ s * m ∧ s * m ≤ 9223372036854775807 := by rcases hs with rfl | rfl <;> omega
        clear hs
        · go_wp2
          refine bodyPost_ret (v := (⟨s * m, q, ten + two, 0⟩ : Got).r) (by simp [results, Tryd.results72, go_sem, over, Got.r, r0, r1, r2, r3, rz]) rfl ⟨by rw [HO.out], ?_⟩
          go_grown

set_option maxRecDepth 100000 in
set_option maxHeartbeats 2000000 in
theorem rform_two (s p q five ten N : Int) (M : Nat) (w : World)  (hM' : M ≤ 2000000) (hs : s = 1 ∨ s = -1) (hp : 1 ≤ p) (hp' : p ≤ 9223372036854775807) (h1 : -1000000 ≤ five) (h2 : five ≤ 1000000) (ht : -9223372036854775808 ≤ ten) (ht' : ten ≤ 9223372036854775807) (hN : N = p * 2 ^ M) :
    Calls Tryd.prog 72 #[.agg #[.int .i64 s, .int .i64 p, .int .i64 q, .int .i64 (five + M), .int .i64 five], .int .i64 ten] w fun e w' => e = .returned (if 9223372036854775807 < N then over else if ten < -2000 ∨ 2000 < ten ∨ ten + five < -1000 ∨ 1000 < ten + five then over else ⟨s * N, q, ten + five, 0⟩ : Got).r ∧ Below w.heap.size w w' := by
  have HN := Lib.hid hN
  clear hN
  generalize hG : (if 9223372036854775807 < N then over else if ten < -2000 ∨ 2000 < ten ∨ ten + five < -1000 ∨ 1000 < ten + five then over else ⟨s * N, q, ten + five, 0⟩ : Got) = G
  have HG := Lib.hid hG
  clear hG
  have hA := FormAt.new w ⟨s, p, q, five + M, five⟩
  go_enter Tryd.func72, Tryd.ntmps72
  go_wp2
  go_loopw [8, 9] (fun a b v => ∃ (m : Int) (k : Nat), a = .int .i64 m ∧ b = .int .i64 k ∧ k ≤ M ∧ 1 ≤ m ∧ m ≤ 9223372036854775807 ∧ Hid (m = p * 2 ^ k) ∧ FormAt w v ⟨s, p, q, five + M, five⟩) (fun _ b _ => M - (intOf b).toNat)
  case atStart => exact ⟨p, 0, rfl, rfl, by omega, hp, hp', by show p = p * 2 ^ 0; simp, hA⟩
  case round =>
    clear hA
    obtain ⟨m, k, rfl, rfl, hk, hm, hm', HK, hA⟩ := hrel
    obtain ⟨b0, ⟨l0, l1, l2, l3, l4, l5⟩, r0, r1, r2, r3, rf, rz⟩ := id hA
    by_cases hlt : k < M
    · obtain ⟨y, hye⟩ : ∃ y, y = p * 2 ^ (k + 1) := ⟨_, rfl⟩
      have HY := Lib.hid hye
      have HM : Hid (m * 2 = y) := by show m * 2 = y; rw [HK.out, hye, pow_step]
      have hy1 : 1 ≤ y := by rw [← HM.out]; omega
      clear hye
      by_cases hfit : y ≤ 9223372036854775807
      · go_wp2_with fail
        refine (rmul_yes _ _ _ (by omega) (by omega) (by omega) (by omega) (by rw [HM.out]; omega) (by rw [HM.out]; omega)).mono ?_
        rw [HM.out]
        rintro e w1 ⟨rfl, rfl⟩
        go_wp2
        go_roundw
        case rel => exact ⟨y, k + 1, rfl, by go_num, by omega, hy1, hfit, HY, hA.below (by go_grown)⟩
        case measure => simp only [intOf]; omega
      · have HO : Hid (G = over) := by
          show G = over
          rw [← HG.out, if_pos]
          have := pow_mono p 2 (k + 1) M (by omega) (by omega)
          rw [← HN.out, ← HY.out] at this
          have hn : 0 ≤ N := by rw [HN.out]; exact Int.mul_nonneg (by omega) (Int.pow_nonneg (by omega))
          omega
        have rz2 : w.heap.size + 1 < wr.heap.size + 1 := by omega
        go_wp2_with fail
        refine (rmul_no _ _ _ (by omega) (by omega) (.inr (.inr (by rw [HM.out]; omega)))).mono ?_
        rintro e w1 ⟨rfl, rfl⟩
        go_wp2
        refine bodyPost_ret (v := over.r) (by simp [results, Tryd.results72, go_sem, over, Got.r, r0, r1, r2, r3, rz, rz2]) rfl ⟨by rw [HO.out], ?_⟩
        go_grown
    · obtain rfl : k = M := by omega
      have HE : Hid (m = N) := by show m = N; rw [HK.out, HN.out]
      obtain rfl := HE.out
      by_cases hf : ten < -2000 ∨ 2000 < ten ∨ ten + five < -1000 ∨ 1000 < ten + five
      · have HO : Hid (G = over) := by
          show G = over
          rw [← HG.out, if_neg (by omega), if_pos hf]
        go_wp2
        all_goals
          refine bodyPost_ret (v := over.r) (by simp [results, Tryd.results72, go_sem, over, Got.r, r0, r1, r2, r3, rz]) rfl ⟨by rw [HO.out], ?_⟩
          go_grown
      · have HO : Hid (G = ⟨s * m, q, ten + five, 0⟩) := by
          show G = _
          rw [← HG.out, if_neg (by omega), if_neg hf]
        have t1 : -2000 ≤ ten ∧ ten ≤ 2000 ∧ -1000 ≤ ten + five ∧ ten + five ≤ 1000 := by omega
        clear hf
        have hsm : -9223372036854775807 ≤ s * m ∧ s * m ≤ 9223372036854775807 := by rcases hs with rfl | rfl <;> omega
        clear hs
        · go_wp2
          refine bodyPost_ret (v := (⟨s * m, q, ten + five, 0⟩ : Got).r) (by simp [results, Tryd.results72, go_sem, over, Got.r, r0, r1, r2, r3, rz]) rfl ⟨by rw [HO.out], ?_⟩
          go_grown

theorem rform_any (x : Sp) (ten : Int) (w : World) (hx : x.Ok 1000000) (ht : -9223372036854775808 ≤ ten) (ht' : ten ≤ 9223372036854775807) :
    Calls Tryd.prog 72 #[x.v, .int .i64 ten] w fun e w' => e = .returned (formS x ten).r ∧ Below w.heap.size w w' := by
  obtain ⟨s, p, q, two, five⟩ := x
  obtain ⟨hs, h1, h2, h3, h4, h5, h6, h7, h8⟩ := hx
  simp only at hs h1 h2 h3 h4 h5 h6 h7 h8
  unfold formS topS leastS Sp.v
  simp only []
  by_cases hlt : two < five
  · rw [if_pos hlt, if_pos hlt]
    obtain ⟨M, hM⟩ : ∃ M : Nat, five = two + M := ⟨(five - two).toNat, by omega⟩
    subst hM
    rw [show (two + (M : Int) - two).toNat = M from by omega]
    exact rform_five s p q two ten _ M w (by omega) (by omega) hs h1 h2 h5 h6 ht ht' rfl
  · rw [if_neg hlt, if_neg hlt]
    obtain ⟨M, hM⟩ : ∃ M : Nat, two = five + M := ⟨(two - five).toNat, by omega⟩
    subst hM
    rw [show (five + (M : Int) - five).toNat = M from by omega]
    exact rform_two s p q five ten _ M w (by omega) hs h1 h2 h7 h8 ht ht' rfl

end Go.Proofs.YtjklbnakgkffnaaDoor.Frac

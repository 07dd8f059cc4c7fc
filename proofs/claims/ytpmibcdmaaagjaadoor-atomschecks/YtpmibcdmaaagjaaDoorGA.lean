/-
  Contracts of the document's answer for exact numbers, first part: drachmref02.of, form; each by one Lean function of the numbers; the world below stays as it was. Contracts of the document's answer for exact numbers, second part: drachmref02.form, Make; each by one Lean function of the numbers; the world below stays as it was. Contracts of the document's answer for exact numbers, third part: drachmref02.Make, Right, turned; each by one Lean function of the numbers; the world below stays as it was.
-/
import Derived.Test.YtpmibcdmaaagjaaDoorF9
import Derived.Test.YtpmibcdmaaagjaaDoorFP
namespace Go.Proofs.YtpmibcdmaaagjaaDoor.Frac
open Go.RowKit
open Go.Proofs.YtpmibcdmaaagjaaDoor.Whole
set_option linter.unusedVariables false
set_option linter.unusedSimpArgs false

def Sp.v (x : Sp) : Value := .agg #[.int .i64 x.s, .int .i64 x.p, .int .i64 x.q, .int .i64 x.two, .int .i64 x.five]
def Got.r (g : Got) : Value := .agg #[.int .i64 g.n, .int .i64 g.d, .int .i64 g.t, .int .i64 g.e]

/-- Without its sign, and the sign. -/
def AbsIs (n A s : Int) : Prop := n < 0 ∧ A = -n ∧ s = -1 ∨ 0 ≤ n ∧ A = n ∧ s = 1

set_option maxRecDepth 100000 in
set_option maxHeartbeats 2000000 in
theorem of_core (num den A B s1 s2 : Int) (w : World) (h1 : AbsIs num A s1) (h2 : AbsIs den B s2) (hA : 1 ≤ A) (hA' : A ≤ 9223372036854775807) (hB : 1 ≤ B) (hB' : B ≤ 9223372036854775807) :
    Calls Tryd.prog 44 #[.int .i64 num, .int .i64 den] w fun e w' => e = .returned (ofA (s1 * s2) A B).v ∧ Below w.heap.size w w' := by
  have a2 := spL_le A 2 (by omega) (by omega)
  have b2 := spL_le B 2 (by omega) (by omega)
  have HA : Hid (A ≠ 0) := by show A ≠ 0; omega
  have HB : Hid (B ≠ 0) := by show B ≠ 0; omega
  have HA2 : Hid (spL A 2 ≠ 0) := spL_ne A 2 (by omega) HA.out
  have HB2 : Hid (spL B 2 ≠ 0) := spL_ne B 2 (by omega) HB.out
  have a5 := spL_le (spL A 2) 5 (by omega) HA2.out
  have b5 := spL_le (spL B 2) 5 (by omega) HB2.out
  have ta := spT_lt A 2 (by omega) HA.out (by omega)
  have tb := spT_lt B 2 (by omega) HB.out (by omega)
  have ta5 := spT_lt (spL A 2) 5 (by omega) HA2.out (by omega)
  have tb5 := spT_lt (spL B 2) 5 (by omega) HB2.out (by omega)
  have g1 := gcd_pos_r (spL (spL A 2) 5) (spL (spL B 2) 5) (odd_pos B hB)
  unfold ofA Sp.v
  generalize hg : ((Int.gcd (spL (spL A 2) 5) (spL (spL B 2) 5) : Nat) : Int) = g at *
  have HG := Lib.hid hg
  clear hg
  have zg : (g == 0) = false := by simp only [beq_eq_false_iff_ne]; omega
  have d1 := tdiv_small (spL (spL A 2) 5) g g1
  have d2 := tdiv_small (spL (spL B 2) 5) g g1
  rcases h1 with ⟨h1, rfl, rfl⟩ | ⟨h1, rfl, rfl⟩ <;> rcases h2 with ⟨h2, rfl, rfl⟩ | ⟨h2, rfl, rfl⟩
  all_goals
    go_enter Tryd.func44, Tryd.ntmps44
    go_wp2_with fail
    refine (rsplit_yes _ _ _ (by omega) (by omega) (by omega) (by omega) HA.out).mono ?_
    rintro e w1 ⟨rfl, rfl⟩
    go_wp2_with fail
    refine (rsplit_yes _ _ _ (by omega) (by omega) (by omega) (by omega) HA2.out).mono ?_
    rintro e w1 ⟨rfl, rfl⟩
    go_wp2_with fail
    refine (rsplit_yes _ _ _ (by omega) (by omega) (by omega) (by omega) HB.out).mono ?_
    rintro e w1 ⟨rfl, rfl⟩
    go_wp2_with fail
    refine (rsplit_yes _ _ _ (by omega) (by omega) (by omega) (by omega) HB2.out).mono ?_
    rintro e w1 ⟨rfl, rfl⟩
    go_wp2_with fail
    refine (rgcd_yes _ _ _ (by omega) (by omega) (by omega) (by omega)).mono ?_
    rintro e w1 ⟨rfl, rfl⟩
    rw [HG.out]
    go_wp2
    go_returns
    refine ⟨rfl, ?_⟩
    go_grown

theorem sign_abs (n : Int) (h : n ≠ 0) : AbsIs n n.natAbs n.sign := by
  rcases Int.lt_or_le n 0 with h' | h'
  · exact .inl ⟨h', by omega, Int.sign_eq_neg_one_of_neg h'⟩
  · exact .inr ⟨h', by omega, Int.sign_eq_one_of_pos (by omega)⟩

theorem of_any (num den : Int) (w : World) (h1 : num.natAbs ≤ 9223372036854775807) (h2 : den.natAbs ≤ 9223372036854775807) (hn : num ≠ 0) (hd : den ≠ 0) :
    Calls Tryd.prog 44 #[.int .i64 num, .int .i64 den] w fun e w' => e = .returned (ofS num den).v ∧ Below w.heap.size w w' :=
  of_core num den _ _ _ _ w (sign_abs num hn) (sign_abs den hd) (by omega) (by omega) (by omega) (by omega)

/-- In the world v the block b holds the document's number taken apart. -/
def LiesS (v : World) (b : Nat) (x : Sp) : Prop := v.cell? ⟨b, 0, none⟩ = some (.int .i64 x.s) ∧ v.cell? ⟨b, 1, none⟩ = some (.int .i64 x.p) ∧ v.cell? ⟨b, 2, none⟩ = some (.int .i64 x.q) ∧ v.cell? ⟨b, 3, none⟩ = some (.int .i64 x.two) ∧ v.cell? ⟨b, 4, none⟩ = some (.int .i64 x.five) ∧ b < v.heap.size

theorem LiesS.below {v v' : World} {b B : Nat} {x : Sp} (h : LiesS v b x) (hb : Below B v v') (hB : b < B) : LiesS v' b x := by
  obtain ⟨h0, h1, h2, h3, h4, hz⟩ := h
  exact ⟨(hb.cell (p := ⟨b, 0, none⟩) hB).trans h0, (hb.cell (p := ⟨b, 1, none⟩) hB).trans h1, (hb.cell (p := ⟨b, 2, none⟩) hB).trans h2, (hb.cell (p := ⟨b, 3, none⟩) hB).trans h3, (hb.cell (p := ⟨b, 4, none⟩) hB).trans h4, by have := hb.size; omega⟩

/-- In the world v the block b is room for the document's answer. -/
def RoomG (v : World) (b : Nat) : Prop :=
  v.cell? ⟨b, 0, none⟩ = some (.int .i64 0) ∧ v.cell? ⟨b, 1, none⟩ = some (.int .i64 0) ∧ v.cell? ⟨b, 2, none⟩ = some (.int .i64 0) ∧ v.cell? ⟨b, 3, none⟩ = some (.int .i64 0) ∧ (∀ j, v.frozen? ⟨b, j, none⟩ = false) ∧ b < v.heap.size

theorem RoomG.below {v v' : World} {b B : Nat} (h : RoomG v b) (hb : Below B v v') (hB : b < B) : RoomG v' b := by
  obtain ⟨h0, h1, h2, h4, h3, hz⟩ := h
  exact ⟨(hb.cell (p := ⟨b, 0, none⟩) hB).trans h0, (hb.cell (p := ⟨b, 1, none⟩) hB).trans h1, (hb.cell (p := ⟨b, 2, none⟩) hB).trans h2, (hb.cell (p := ⟨b, 3, none⟩) hB).trans h4, fun j => (hb.frozen (p := ⟨b, j, none⟩) hB).trans (h3 j), by have := hb.size; omega⟩

/-- How form's world stands: its number in a box, and room for the answer. -/
def FormAt (w v : World) (x : Sp) : Prop := Below w.heap.size w v ∧ LiesS v w.heap.size x ∧ RoomG v (w.heap.size + 1)

theorem FormAt.below {w v v' : World} {x : Sp} (h : FormAt w v x) (hb : Below v.heap.size v v') : FormAt w v' x := by
  obtain ⟨h1, h2, h3⟩ := h
  exact ⟨Below.go h1 hb, h2.below hb h2.2.2.2.2.2, h3.below hb h3.2.2.2.2.2⟩

theorem FormAt.new (w : World) (x : Sp) : FormAt w ((w.alloc (.cells #[.int .i64 x.s, .int .i64 x.p, .int .i64 x.q, .int .i64 x.two, .int .i64 x.five] 88)).alloc (.cells #[.int .i64 0, .int .i64 0, .int .i64 0, .int .i64 0] 70)) x := by
  refine ⟨by go_grown, ⟨?_, ?_, ?_, ?_, ?_, ?_⟩, ⟨?_, ?_, ?_, ?_, fun j => ?_, ?_⟩⟩
  all_goals simp [go_sem]

end Go.Proofs.YtpmibcdmaaagjaaDoor.Frac

namespace Go.Proofs.YtpmibcdmaaagjaaDoor.Frac
open Go.RowKit
open Go.Proofs.YtpmibcdmaaagjaaDoor.Whole
set_option linter.unusedVariables false
set_option linter.unusedSimpArgs false

set_option maxRecDepth 100000 in
set_option maxHeartbeats 2000000 in
theorem rform_five (s p q two ten N : Int) (M : Nat) (w : World) (hM : 0 < M) (hM' : M ≤ 2000000) (hs : s = 1 ∨ s = -1) (hp : 1 ≤ p) (hp' : p ≤ 9223372036854775807) (h1 : -1000000 ≤ two) (h2 : two ≤ 1000000) (ht : -9223372036854775808 ≤ ten) (ht' : ten ≤ 9223372036854775807) (hN : N = p * 5 ^ M) :
    Calls Tryd.prog 43 #[.agg #[.int .i64 s, .int .i64 p, .int .i64 q, .int .i64 two, .int .i64 (two + M)], .int .i64 ten] w fun e w' => e = .returned (if 9223372036854775807 < N then over else if ten < -2000 ∨ 2000 < ten ∨ ten + two < -1000 ∨ 1000 < ten + two then over else ⟨s * N, q, ten + two, 0⟩ : Got).r ∧ Below w.heap.size w w' := by
  have HN := Lib.hid hN
  clear hN
  generalize hG : (if 9223372036854775807 < N then over else if ten < -2000 ∨ 2000 < ten ∨ ten + two < -1000 ∨ 1000 < ten + two then over else ⟨s * N, q, ten + two, 0⟩ : Got) = G
  have HG := Lib.hid hG
  clear hG
  have hA := FormAt.new w ⟨s, p, q, two, two + M⟩
  go_enter Tryd.func43, Tryd.ntmps43
  go_wp2
  go_loopw [8, 9] (fun a b v => ∃ (m : Int) (k : Nat), a = .int .i64 m ∧ b = .int .i64 k ∧ k ≤ M ∧ 1 ≤ m ∧ m ≤ 9223372036854775807 ∧ Hid (m = p * 5 ^ k) ∧ FormAt w v ⟨s, p, q, two, two + M⟩) (fun _ b _ => M - (intOf b).toNat)
  case atStart => exact ⟨p, 0, rfl, rfl, by omega, hp, hp', by show p = p * 5 ^ 0; simp, hA⟩
  case round =>
    clear hA
    obtain ⟨m, k, rfl, rfl, hk, hm, hm', HK, hA⟩ := hrel
    obtain ⟨b0, ⟨l0, l1, l2, l3, l4, l5⟩, r0, r1, r2, r3, rf, rz⟩ := id hA
    by_cases hlt : k < M
    · obtain ⟨y, hye⟩ : ∃ y, y = p * 5 ^ (k + 1) := ⟨_, rfl⟩
      have HY := Lib.hid hye
      have HM : Hid (m * 5 = y) := by show m * 5 = y; rw [HK.out, hye, pow_step]
      have hy1 : 1 ≤ y := by rw [← HM.out]; omega
      clear hye
      by_cases hfit : y ≤ 9223372036854775807
      · go_wp2_with fail
        refine (rmul_yes _ _ _ (by omega) (by omega) (by omega) (by omega) (by rw [HM.out]; omega) (by rw [HM.out]; omega)).mono ?_
        rw [HM.out]
        rintro e w1 ⟨rfl, rfl⟩
        go_wp2
        go_roundw
        case rel => exact ⟨y, k + 1, rfl, by go_num, by omega, hy1, hfit, HY, hA.below (by go_grown)⟩
        case measure => simp only [intOf]; omega
      · have HO : Hid (G = over) := by
          show G = over
          rw [← HG.out, if_pos]
          have := pow_mono p 5 (k + 1) M (by omega) (by omega)
          rw [← HN.out, ← HY.out] at this
          have hn : 0 ≤ N := by rw [HN.out]; exact Int.mul_nonneg (by omega) (Int.pow_nonneg (by omega))
          omega
        have rz2 : w.heap.size + 1 < wr.heap.size + 1 := by omega
        go_wp2_with fail
        refine (rmul_no _ _ _ (by omega) (by omega) (.inr (.inr (by rw [HM.out]; omega)))).mono ?_
        rintro e w1 ⟨rfl, rfl⟩
        go_wp2
        refine bodyPost_ret (v := over.r) (by simp [results, Tryd.results43, go_sem, over, Got.r, r0, r1, r2, r3, rz, rz2]) rfl ⟨by rw [HO.out], ?_⟩
        go_grown
    · obtain rfl : k = M := by omega
      have HE : Hid (m = N) := by show m = N; rw [HK.out, HN.out]
      obtain rfl := HE.out
      by_cases hf : ten < -2000 ∨ 2000 < ten ∨ ten + two < -1000 ∨ 1000 < ten + two
      · have HO : Hid (G = over) := by
          show G = over
          rw [← HG.out, if_neg (by omega), if_pos hf]
        go_wp2
        all_goals
          refine bodyPost_ret (v := over.r) (by simp [results, Tryd.results43, go_sem, over, Got.r, r0, r1, r2, r3, rz]) rfl ⟨by rw [HO.out], ?_⟩
          go_grown
      · have HO : Hid (G = ⟨s * m, q, ten + two, 0⟩) := by
          show G = _
          rw [← HG.out, if_neg (by omega), if_neg hf]
        have t1 : -2000 ≤ ten ∧ ten ≤ 2000 ∧ -1000 ≤ ten + two ∧ ten + two ≤ 1000 := by omega
        clear hf
        have hsm : -9223372036854775807 ≤ s * m ∧ s * m ≤ 9223372036854775807 := by rcases hs with rfl | rfl <;> omega
        clear hs
        · go_wp2
          refine bodyPost_ret (v := (⟨s * m, q, ten + two, 0⟩ : Got).r) (by simp [results, Tryd.results43, go_sem, over, Got.r, r0, r1, r2, r3, rz]) rfl ⟨by rw [HO.out], ?_⟩
          go_grown

set_option maxRecDepth 100000 in
set_option maxHeartbeats 2000000 in
theorem rform_two (s p q five ten N : Int) (M : Nat) (w : World)  (hM' : M ≤ 2000000) (hs : s = 1 ∨ s = -1) (hp : 1 ≤ p) (hp' : p ≤ 9223372036854775807) (h1 : -1000000 ≤ five) (h2 : five ≤ 1000000) (ht : -9223372036854775808 ≤ ten) (ht' : ten ≤ 9223372036854775807) (hN : N = p * 2 ^ M) :
    Calls Tryd.prog 43 #[.agg #[.int .i64 s, .int .i64 p, .int .i64 q, .int .i64 (five + M), .int .i64 five], .int .i64 ten] w fun e w' => e = .returned (if 9223372036854775807 < N then over else if ten < -2000 ∨ 2000 < ten ∨ ten + five < -1000 ∨ 1000 < ten + five then over else ⟨s * N, q, ten + five, 0⟩ : Got).r ∧ Below w.heap.size w w' := by
  have HN := Lib.hid hN
  clear hN
  generalize hG : (if 9223372036854775807 < N then over else if ten < -2000 ∨ 2000 < ten ∨ ten + five < -1000 ∨ 1000 < ten + five then over else ⟨s * N, q, ten + five, 0⟩ : Got) = G
  have HG := Lib.hid hG
  clear hG
  have hA := FormAt.new w ⟨s, p, q, five + M, five⟩
  go_enter Tryd.func43, Tryd.ntmps43
  go_wp2
  go_loopw [8, 9] (fun a b v => ∃ (m : Int) (k : Nat), a = .int .i64 m ∧ b = .int .i64 k ∧ k ≤ M ∧ 1 ≤ m ∧ m ≤ 9223372036854775807 ∧ Hid (m = p * 2 ^ k) ∧ FormAt w v ⟨s, p, q, five + M, five⟩) (fun _ b _ => M - (intOf b).toNat)
  case atStart => exact ⟨p, 0, rfl, rfl, by omega, hp, hp', by show p = p * 2 ^ 0; simp, hA⟩
  case round =>
    clear hA
    obtain ⟨m, k, rfl, rfl, hk, hm, hm', HK, hA⟩ := hrel
    obtain ⟨b0, ⟨l0, l1, l2, l3, l4, l5⟩, r0, r1, r2, r3, rf, rz⟩ := id hA
    by_cases hlt : k < M
    · obtain ⟨y, hye⟩ : ∃ y, y = p * 2 ^ (k + 1) := ⟨_, rfl⟩
      have HY := Lib.hid hye
      have HM : Hid (m * 2 = y) := by show m * 2 = y; rw [HK.out, hye, pow_step]
      have hy1 : 1 ≤ y := by rw [← HM.out]; omega
      clear hye
      by_cases hfit : y ≤ 9223372036854775807
      · go_wp2_with fail
        refine (rmul_yes _ _ _ (by omega) (by omega) (by omega) (by omega) (by rw [HM.out]; omega) (by rw [HM.out]; omega)).mono ?_
        rw [HM.out]
        rintro e w1 ⟨rfl, rfl⟩
        go_wp2
        go_roundw
        case rel => exact ⟨y, k + 1, rfl, by go_num, by omega, hy1, hfit, HY, hA.below (by go_grown)⟩
        case measure => simp only [intOf]; omega
      · have HO : Hid (G = over) := by
          show G = over
          rw [← HG.out, if_pos]
          have := pow_mono p 2 (k + 1) M (by omega) (by omega)
          rw [← HN.out, ← HY.out] at this
          have hn : 0 ≤ N := by rw [HN.out]; exact Int.mul_nonneg (by omega) (Int.pow_nonneg (by omega))
          omega
        have rz2 : w.heap.size + 1 < wr.heap.size + 1 := by omega
        go_wp2_with fail
        refine (rmul_no _ _ _ (by omega) (by omega) (.inr (.inr (by rw [HM.out]; omega)))).mono ?_
        rintro e w1 ⟨rfl, rfl⟩
        go_wp2
        refine bodyPost_ret (v := over.r) (by simp [results, Tryd.results43, go_sem, over, Got.r, r0, r1, r2, r3, rz, rz2]) rfl ⟨by rw [HO.out], ?_⟩
        go_grown
    · obtain rfl : k = M := by omega
      have HE : Hid (m = N) := by show m = N; rw [HK.out, HN.out]
      obtain rfl := HE.out
      by_cases hf : ten < -2000 ∨ 2000 < ten ∨ ten + five < -1000 ∨ 1000 < ten + five
      · have HO : Hid (G = over) := by
          show G = over
          rw [← HG.out, if_neg (by omega), if_pos hf]
        go_wp2
        all_goals
          refine bodyPost_ret (v := over.r) (by simp [results, Tryd.results43, go_sem, over, Got.r, r0, r1, r2, r3, rz]) rfl ⟨by rw [HO.out], ?_⟩
          go_grown
      · have HO : Hid (G = ⟨s * m, q, ten + five, 0⟩) := by
          show G = _
          rw [← HG.out, if_neg (by omega), if_neg hf]
        have t1 : -2000 ≤ ten ∧ ten ≤ 2000 ∧ -1000 ≤ ten + five ∧ ten + five ≤ 1000 := by omega
        clear hf
        have hsm : -9223372036854775807 ≤ s * m ∧ s * m ≤ 9223372036854775807 := by rcases hs with rfl | rfl <;> omega
        clear hs
        · go_wp2
          refine bodyPost_ret (v := (⟨s * m, q, ten + five, 0⟩ : Got).r) (by simp [results, Tryd.results43, go_sem, over, Got.r, r0, r1, r2, r3, rz]) rfl ⟨by rw [HO.out], ?_⟩
          go_grown

theorem rform_any (x : Sp) (ten : Int) (w : World) (hx : x.Ok 1000000) (ht : -9223372036854775808 ≤ ten) (ht' : ten ≤ 9223372036854775807) :
    Calls Tryd.prog 43 #[x.v, .int .i64 ten] w fun e w' => e = .returned (formS x ten).r ∧ Below w.heap.size w w' := by
  obtain ⟨s, p, q, two, five⟩ := x
  obtain ⟨hs, h1, h2, h3, h4, h5, h6, h7, h8⟩ := hx
  simp only at hs h1 h2 h3 h4 h5 h6 h7 h8
  unfold formS topS leastS Sp.v
  simp only []
  by_cases hlt : two < five
  · rw [if_pos hlt, if_pos hlt]
    obtain ⟨M, hM⟩ : ∃ M : Nat, five = two + M := ⟨(five - two).toNat, by omega⟩
    subst hM
    rw [show (two + (M : Int) - two).toNat = M from by omega]
    exact rform_five s p q two ten _ M w (by omega) (by omega) hs h1 h2 h5 h6 ht ht' rfl
  · rw [if_neg hlt, if_neg hlt]
    obtain ⟨M, hM⟩ : ∃ M : Nat, two = five + M := ⟨(two - five).toNat, by omega⟩
    subst hM
    rw [show (five + (M : Int) - five).toNat = M from by omega]
    exact rform_two s p q five ten _ M w (by omega) hs h1 h2 h7 h8 ht ht' rfl

end Go.Proofs.YtpmibcdmaaagjaaDoor.Frac

namespace Go.Proofs.YtpmibcdmaaagjaaDoor.Frac
open Go.RowKit
open Go.Proofs.YtpmibcdmaaagjaaDoor.Whole
set_option linter.unusedVariables false
set_option linter.unusedSimpArgs false

theorem RoomG.new (w : World) : RoomG (w.alloc (.cells #[.int .i64 0, .int .i64 0, .int .i64 0, .int .i64 0] 70)) w.heap.size := by
  refine ⟨?_, ?_, ?_, ?_, fun j => ?_, ?_⟩
  all_goals simp [go_sem]

set_option maxRecDepth 100000 in
set_option maxHeartbeats 1000000 in
theorem rmake_any (num den ten : Int) (w : World) (h1 : num ≤ 9223372036854775807) (h2 : den ≤ 9223372036854775807) (ht : -9223372036854775808 ≤ ten) (ht' : ten ≤ 9223372036854775807) :
    Calls Tryd.prog 35 #[.int .i64 num, .int .i64 den, .int .i64 ten] w fun e w' => e = .returned (makeR num den ten).r ∧ Below w.heap.size w w' := by
  unfold makeR
  by_cases b1 : num < -9223372036854775807
  · rw [if_pos (.inl b1)]
    by_cases b2 : den < -9223372036854775807
    · go_enter Tryd.func35, Tryd.ntmps35
      go_wp2_with (go_at_call 42; ((with_reducible refine (rfits_no _ _ (by omega)).mono ?_); rintro e w' ⟨rfl, rfl⟩))
      refine bodyPost_ret (v := (⟨0, 0, 0, 1⟩ : Got).r) (by simp [results, Tryd.results35, go_sem, Got.r]) rfl ⟨rfl, ?_⟩
      go_grown
    · go_enter Tryd.func35, Tryd.ntmps35
      go_wp2_with (first
        | (go_at_call_of 42 (Value.int IntKind.i64 num); ((with_reducible refine (rfits_no _ _ b1).mono ?_); rintro e w' ⟨rfl, rfl⟩))
        | (go_at_call_of 42 (Value.int IntKind.i64 den); ((with_reducible refine (rfits_yes _ _ (by omega)).mono ?_); rintro e w' ⟨rfl, rfl⟩)))
      refine bodyPost_ret (v := (⟨0, 0, 0, 1⟩ : Got).r) (by simp [results, Tryd.results35, go_sem, Got.r]) rfl ⟨rfl, ?_⟩
      go_grown
  by_cases b2 : den < -9223372036854775807
  · rw [if_pos (.inr b2)]
    go_enter Tryd.func35, Tryd.ntmps35
    go_wp2_with (first
      | (go_at_call_of 42 (Value.int IntKind.i64 den); ((with_reducible refine (rfits_no _ _ b2).mono ?_); rintro e w' ⟨rfl, rfl⟩))
      | (go_at_call_of 42 (Value.int IntKind.i64 num); ((with_reducible refine (rfits_yes _ _ (by omega)).mono ?_); rintro e w' ⟨rfl, rfl⟩)))
    refine bodyPost_ret (v := (⟨0, 0, 0, 1⟩ : Got).r) (by simp [results, Tryd.results35, go_sem, Got.r]) rfl ⟨rfl, ?_⟩
    go_grown
  rw [if_neg (by omega)]
  by_cases hd : den = 0
  · rw [if_pos hd]
    subst hd
    go_enter Tryd.func35, Tryd.ntmps35
    go_wp2_with (go_at_call 42; ((with_reducible refine (rfits_yes _ _ (by omega)).mono ?_); rintro e w' ⟨rfl, rfl⟩))
    refine bodyPost_ret (v := (⟨0, 0, 0, 11⟩ : Got).r) (by simp [results, Tryd.results35, go_sem, Got.r]) rfl ⟨rfl, ?_⟩
    go_grown
  rw [if_neg hd]
  have zd : (den == 0) = false := by simpa using hd
  by_cases hn : num = 0
  · rw [if_pos hn]
    subst hn
    clear hd
    go_enter Tryd.func35, Tryd.ntmps35
    go_wp2_with (go_at_call 42; ((with_reducible refine (rfits_yes _ _ (by omega)).mono ?_); rintro e w' ⟨rfl, rfl⟩))
    refine bodyPost_ret (v := (⟨0, 1, 0, 0⟩ : Got).r) (by simp [results, Tryd.results35, go_sem, Got.r]) rfl ⟨rfl, ?_⟩
    go_grown
  rw [if_neg hn]
  have zn : (num == 0) = false := by simpa using hn
  have ok := ofS_ok num den hn hd (by omega) (by omega)
  have HD := Lib.hid hd
  have HN := Lib.hid hn
  clear hd hn
  generalize hG : formS (ofS num den) ten = G
  have HG := Lib.hid hG
  clear hG
  have hR := RoomG.new w
  have hB : Below w.heap.size w (w.alloc (.cells #[.int .i64 0, .int .i64 0, .int .i64 0, .int .i64 0] 70)) := by go_grown
  go_enter Tryd.func35, Tryd.ntmps35
  go_wp2_with (go_at_call 42; ((with_reducible refine (rfits_yes _ _ (by omega)).mono ?_); rintro e w' ⟨rfl, rfl⟩))
  refine (of_any num den _ (by omega) (by omega) HN.out HD.out).mono ?_
  rintro e w1 ⟨rfl, hb⟩
  replace hR := hR.below hb hR.2.2.2.2.2
  replace hB := Below.go hB hb
  clear hb
  go_wp2_with fail
  refine (rform_any _ _ _ (ok.more (by omega)) ht ht').mono ?_
  rintro e w2 ⟨rfl, hb⟩
  replace hR := hR.below hb hR.2.2.2.2.2
  replace hB := Below.go hB hb
  clear hb
  rw [HG.out]
  obtain ⟨r0, r1, r2, r3, rf, rz⟩ := hR
  unfold Got.r
  go_wp2
  refine bodyPost_ret (v := G.r) (by simp [results, Tryd.results35, go_sem, Got.r, r0, r1, r2, r3]) rfl ⟨rfl, ?_⟩
  go_grown

theorem rightR_is (n d t : Int) (hn : n ≠ 0) (h : -9223372036854775807 ≤ n) : rightR n d t = (decide (1 ≤ d) && decide (¬ d % 2 = 0) && decide (¬ d % 5 = 0) && decide (¬ n.tmod 10 = 0) && decide (((Int.gcd n d : Nat) : Int) = 1) && decide (-1000 ≤ t) && decide (t ≤ 1000)) := by
  have e1 : (n % 10 = 0) = (n.tmod 10 = 0) := propext (tmod_zero n 10).symm
  have e2 : (Int.gcd n d = 1) = (((Int.gcd n d : Nat) : Int) = 1) := propext (by omega)
  unfold rightR
  rw [if_neg hn, Bool.eq_iff_iff]
  simp [e1, e2, h]

end Go.Proofs.YtpmibcdmaaagjaaDoor.Frac


/-
  Plain mathematics: what is multiplied, and divided by the same, is what it was; a power is a product of so many. No program in this text.
-/
import Derived.Test.YtfpopppapjfelaaDoorHM
namespace Go.Proofs.YtfpopppapjfelaaDoor.Frac
open Go.Proofs.YtfpopppapjfelaaDoor.Whole
set_option linter.unusedVariables false

theorem times_comm (x y : Pt) : timesP x y = timesP y x := by
  have eN : timesN x y = timesN y x := by unfold timesN; rw [Int.mul_comm]
  have eD : timesD x y = timesD y x := by unfold timesD; rw [Int.mul_comm]
  unfold timesP
  rw [eN, eD, Int.add_comm x.e2, Int.add_comm x.e5]

theorem mul_comm (n1 d1 t1 n2 d2 t2 : Int) : mulG n1 d1 t1 n2 d2 t2 = mulG n2 d2 t2 n1 d1 t1 := by
  unfold mulG
  by_cases h : rightB n1 d1 t1 = false ∨ rightB n2 d2 t2 = false
  · rw [if_pos h, if_pos (Or.symm h)]
  · rw [if_neg h, if_neg (fun k => h (Or.symm k))]
    unfold joinP
    rw [times_comm]
    cases timesP (partsP n2 d2 t2) (partsP n1 d1 t1) with
    | none => rfl
    | some z => rfl

/-- The parts of a form are what it was made of. -/
theorem parts_form (p : Pt) (h : Fit p.n p.d) (he : (formP p).e = 0) : partsP (formP p).n (formP p).d (formP p).t = p := by
  have hn : p.n ≠ 0 := fun h0 => h.n2 (by rw [h0]; decide)
  unfold formP at *
  rw [if_neg hn] at *
  have at_ : ∀ N t : Int, (formAt N p.d t).e = 0 → formAt N p.d t = ⟨N, p.d, t, 0⟩ := by
    intro N t hz
    unfold formAt at *
    split at hz
    · exact absurd hz (by decide)
    · rename_i hf
      rw [if_neg hf]
      split at hz
      · rename_i hf2
        rw [if_pos hf2]
      · exact absurd hz (by decide)
  by_cases hle : p.e2 ≤ p.e5
  · rw [if_pos hle] at *
    rw [at_ _ _ he]
    simp only []
    have hN : p.n * 5 ^ (p.e5 - p.e2).toNat ≠ 0 := Int.mul_ne_zero hn (Int.pow_ne_zero (by decide))
    obtain ⟨a, b, c⟩ := odd_is (p.n * 5 ^ (p.e5 - p.e2).toNat) p.n 0 (p.e5 - p.e2).toNat hN (by simp) h.n2 h.n5
    rw [parts_eq _ _ _ hN, a, b, c]
    obtain ⟨pn, pd, e2, e5⟩ := p
    simp only at *
    congr 1 <;> omega
  · rw [if_neg hle] at *
    rw [at_ _ _ he]
    simp only []
    have hN : p.n * 2 ^ (p.e2 - p.e5).toNat ≠ 0 := Int.mul_ne_zero hn (Int.pow_ne_zero (by decide))
    obtain ⟨a, b, c⟩ := odd_is (p.n * 2 ^ (p.e2 - p.e5).toNat) p.n (p.e2 - p.e5).toNat 0 hN (by simp) h.n2 h.n5
    rw [parts_eq _ _ _ hN, a, b, c]
    obtain ⟨pn, pd, e2, e5⟩ := p
    simp only at *
    congr 1 <;> omega

theorem good_fit {n d t : Int} (hn : n ≠ 0) (h : Good n d t) : Fit (partsP n d t).n (partsP n d t).d := by
  have d1 := h.d1
  rw [← canon_good hn h]
  exact canon_fit n d t hn (by omega)

theorem co_of_dvd {a b c d : Int} (h : Int.gcd a b = 1) (h1 : c ∣ a) (h2 : d ∣ b) : Int.gcd c d = 1 := by
  have g1 : ((Int.gcd c d : Nat) : Int) ∣ a := Int.dvd_trans (Int.gcd_dvd_left _ _) h1
  have g2 : ((Int.gcd c d : Nat) : Int) ∣ b := Int.dvd_trans (Int.gcd_dvd_right _ _) h2
  have := Int.dvd_gcd g1 g2
  rw [h] at this
  exact Nat.dvd_one.1 this

theorem tdiv_of (g a : Int) (hg : g ≠ 0) : (g * a).tdiv g = a := Int.mul_tdiv_cancel_left a hg

/-- Both numbers, with what they have in common taken out. -/
theorem times_split (x y : Pt) (hx : Fit x.n x.d) (hy : Fit y.n y.d) : ∃ g h : Int, ∃ a b c e : Int, 1 ≤ g ∧ 1 ≤ h ∧ x.n = g * a ∧ y.d = g * e ∧ y.n = h * b ∧ x.d = h * c ∧ timesN x y = a * b ∧ timesD x y = c * e ∧
    Int.gcd a e = 1 ∧ Int.gcd b c = 1 ∧ Int.gcd a c = 1 ∧ Int.gcd b e = 1 ∧ Int.gcd a h = 1 ∧ Int.gcd g c = 1 := by
  have g1 := gcd_pos_r x.n y.d hy.d1
  have h1 := gcd_pos_r y.n x.d hx.d1
  obtain ⟨a, ha⟩ : ((Int.gcd x.n y.d : Nat) : Int) ∣ x.n := Int.gcd_dvd_left _ _
  obtain ⟨e, he⟩ : ((Int.gcd x.n y.d : Nat) : Int) ∣ y.d := Int.gcd_dvd_right _ _
  obtain ⟨b, hb⟩ : ((Int.gcd y.n x.d : Nat) : Int) ∣ y.n := Int.gcd_dvd_left _ _
  obtain ⟨c, hc⟩ : ((Int.gcd y.n x.d : Nat) : Int) ∣ x.d := Int.gcd_dvd_right _ _
  have eN : timesN x y = a * b := by
    unfold timesN
    generalize hg : ((Int.gcd x.n y.d : Nat) : Int) = g at *
    generalize hh : ((Int.gcd y.n x.d : Nat) : Int) = h at *
    rw [ha, hb, tdiv_of g a (by omega), tdiv_of h b (by omega)]
  have eD : timesD x y = c * e := by
    unfold timesD
    generalize hg : ((Int.gcd x.n y.d : Nat) : Int) = g at *
    generalize hh : ((Int.gcd y.n x.d : Nat) : Int) = h at *
    rw [hc, he, tdiv_of h c (by omega), tdiv_of g e (by omega)]
  have k1 : Int.gcd a e = 1 := by
    have := Int.gcd_ediv_gcd_ediv_gcd (i := x.n) (j := y.d) (by omega)
    generalize hg : ((Int.gcd x.n y.d : Nat) : Int) = g at *
    rw [ha, he, Int.mul_ediv_cancel_left _ (by omega), Int.mul_ediv_cancel_left _ (by omega)] at this
    exact this
  have k2 : Int.gcd b c = 1 := by
    have := Int.gcd_ediv_gcd_ediv_gcd (i := y.n) (j := x.d) (by omega)
    generalize hg : ((Int.gcd y.n x.d : Nat) : Int) = g at *
    rw [hb, hc, Int.mul_ediv_cancel_left _ (by omega), Int.mul_ediv_cancel_left _ (by omega)] at this
    exact this
  have da : a ∣ x.n := ⟨_, by rw [Int.mul_comm]; exact ha⟩
  have dc : c ∣ x.d := ⟨_, by rw [Int.mul_comm]; exact hc⟩
  have db : b ∣ y.n := ⟨_, by rw [Int.mul_comm]; exact hb⟩
  have de : e ∣ y.d := ⟨_, by rw [Int.mul_comm]; exact he⟩
  exact ⟨_, _, a, b, c, e, g1, h1, ha, he, hb, hc, eN, eD, k1, k2, co_of_dvd hx.co da dc, co_of_dvd hy.co db de, co_of_dvd hx.co da ⟨c, hc⟩, co_of_dvd hx.co ⟨a, ha⟩ dc⟩

theorem co_two (a b c e : Int) (h1 : Int.gcd a e = 1) (h2 : Int.gcd b c = 1) (h3 : Int.gcd a c = 1) (h4 : Int.gcd b e = 1) : Int.gcd (a * b) (c * e) = 1 := by
  refine co_mul _ _ _ ?_ ?_
  · rw [Int.gcd_comm]; exact co_mul _ _ _ (by rw [Int.gcd_comm]; exact h3) (by rw [Int.gcd_comm]; exact h1)
  · rw [Int.gcd_comm]; exact co_mul _ _ _ (by rw [Int.gcd_comm]; exact h2) (by rw [Int.gcd_comm]; exact h4)

theorem factor_mod (g a k : Int) (h : (g * a) % k ≠ 0) : a % k ≠ 0 := fun h0 => h (mul_mod0 g a k h0)

theorem pos_factor (g e : Int) (hg : 1 ≤ g) (h : 1 ≤ g * e) : 1 ≤ e := by
  rcases Int.lt_or_le 0 e with h0 | h0
  · omega
  · exfalso
    have := Int.mul_nonpos_of_nonneg_of_nonpos (show 0 ≤ g by omega) h0
    omega

theorem times_fit {x y z : Pt} (hx : Fit x.n x.d) (hy : Fit y.n y.d) (h : timesP x y = some z) : Fit z.n z.d := by
  obtain ⟨g, h', a, b, c, e, g1, h1, xa, ye, yb, xc, eN, eD, k1, k2, k3, k4, _, _⟩ := times_split x y hx hy
  unfold timesP at h
  split at h
  · simp only [Option.some.injEq] at h
    subst h
    show Fit (timesN x y) (timesD x y)
    rw [eN, eD]
    have e1 := pos_factor g e g1 (by rw [← ye]; exact hy.d1)
    have c1 := pos_factor h' c h1 (by rw [← xc]; exact hx.d1)
    exact ⟨mod2_mul _ _ (factor_mod g a 2 (by rw [← xa]; exact hx.n2)) (factor_mod h' b 2 (by rw [← yb]; exact hy.n2)),
      mod5_mul _ _ (factor_mod g a 5 (by rw [← xa]; exact hx.n5)) (factor_mod h' b 5 (by rw [← yb]; exact hy.n5)), one_mul_le _ _ c1 e1,
      mod2_mul _ _ (factor_mod h' c 2 (by rw [← xc]; exact hx.d2)) (factor_mod g e 2 (by rw [← ye]; exact hy.d2)),
      mod5_mul _ _ (factor_mod h' c 5 (by rw [← xc]; exact hx.d5)) (factor_mod g e 5 (by rw [← ye]; exact hy.d5)), co_two a b c e k1 k2 k3 k4⟩
  · exact absurd h (by simp)

theorem turn_sign (y : Pt) (h : y.n ≠ 0) : turnP y = ⟨y.n.sign * y.d, (y.n.natAbs : Int), -y.e2, -y.e5⟩ := by
  unfold turnP
  by_cases hn : y.n < 0
  · rw [if_pos hn, Int.sign_eq_neg_one_of_neg hn, show ((y.n.natAbs : Nat) : Int) = -y.n from by omega]
    congr 1; omega
  · rw [if_neg hn, Int.sign_eq_one_of_pos (by omega), show ((y.n.natAbs : Nat) : Int) = y.n from by omega]
    congr 1; omega

theorem gcd_abs_scale (a h b : Int) : Int.gcd (a * b) (h * (b.natAbs : Int)) = Int.gcd a h * b.natAbs := by
  have : Int.gcd (a * b) (h * (b.natAbs : Int)) = Int.gcd (a * b) (h * b) := by
    unfold Int.gcd
    rw [Int.natAbs_mul, Int.natAbs_mul, Int.natAbs_mul, Int.natAbs_natCast]
  rw [this, Int.gcd_mul_right]

theorem times_back {x y z : Pt} (hx : Fit x.n x.d) (hy : Fit y.n y.d) (ox : x.n.natAbs ≤ 9223372036854775807) (oy : x.d ≤ 9223372036854775807) (h : timesP x y = some z) : timesP z (turnP y) = some x := by
  obtain ⟨g, h', a, b, c, e, g1, h1, xa, ye, yb, xc, eN, eD, k1, k2, k3, k4, k5, k6⟩ := times_split x y hx hy
  have hyn : y.n ≠ 0 := fun h0 => hy.n2 (by rw [h0]; decide)
  have hb0 : b ≠ 0 := fun h0 => hyn (by rw [yb, h0]; simp)
  have e1 := pos_factor g e g1 (by rw [← ye]; exact hy.d1)
  have hs := sign_cases y.n hyn
  have sb : b.sign = y.n.sign := by rw [yb, Int.sign_mul, Int.sign_eq_one_of_pos (show 0 < h' by omega), Int.one_mul]
  have pab : ((y.n.natAbs : Nat) : Int) = h' * (b.natAbs : Int) := by
    rw [yb, Int.natAbs_mul, Int.natCast_mul]
    congr 1; omega
  unfold timesP at h
  split at h
  · simp only [Option.some.injEq] at h
    rw [eN, eD] at h
    have G1 : Int.gcd z.n (y.n.natAbs : Int) = b.natAbs := by
      rw [← h, pab]
      show Int.gcd (a * b) (h' * (b.natAbs : Int)) = b.natAbs
      rw [gcd_abs_scale, k5, Nat.one_mul]
    have G2 : Int.gcd (y.n.sign * y.d) z.d = e.natAbs := by
      rw [← h, ye]
      show Int.gcd (y.n.sign * (g * e)) (c * e) = e.natAbs
      rw [sign_gcd _ _ _ hs, Int.gcd_mul_right, k6, Nat.one_mul]
    have zb : ((b.natAbs : Nat) : Int) ≠ 0 := by omega
    have ze : ((e.natAbs : Nat) : Int) = e := by omega
    have bs : b = (b.natAbs : Int) * b.sign := by rw [Int.mul_comm]; exact (Int.sign_mul_natAbs b).symm
    have tN : timesN z ⟨y.n.sign * y.d, (y.n.natAbs : Int), -y.e2, -y.e5⟩ = x.n := by
      unfold timesN
      simp only []
      rw [G1, G2, ze, ye, ← h]
      show (a * b).tdiv (b.natAbs : Int) * (y.n.sign * (g * e)).tdiv e = x.n
      have q1 : (a * b).tdiv (b.natAbs : Int) = a * b.sign := by
        have hm : a * b = (b.natAbs : Int) * (a * b.sign) := by
          rw [Int.mul_comm a b.sign, ← Int.mul_assoc, ← bs, Int.mul_comm]
        rw [hm]; exact tdiv_of _ _ zb
      have q2 : (y.n.sign * (g * e)).tdiv e = y.n.sign * g := by
        rw [show y.n.sign * (g * e) = e * (y.n.sign * g) from by ac_rfl]; exact tdiv_of _ _ (by omega)
      rw [q1, q2, sb, xa]
      rcases hs with h2 | h2 <;> rw [h2]
      · rw [Int.mul_one, Int.one_mul, Int.mul_comm]
      · rw [show (-1 : Int) * g = -g from by omega, show a * -1 = -a from by omega, Int.neg_mul_neg, Int.mul_comm]
    have tD : timesD z ⟨y.n.sign * y.d, (y.n.natAbs : Int), -y.e2, -y.e5⟩ = x.d := by
      unfold timesD
      simp only []
      rw [G1, G2, ze, pab, ← h]
      show (c * e).tdiv e * (h' * (b.natAbs : Int)).tdiv (b.natAbs : Int) = x.d
      rw [Int.mul_comm c e, tdiv_of e c (by omega), Int.mul_comm h', tdiv_of _ _ zb, xc, Int.mul_comm]
    have hd := hx.d1
    rw [turn_sign y hyn]
    unfold timesP
    rw [tN, tD, if_pos ⟨ox, by omega⟩, ← h]
    obtain ⟨xn, xd, xe2, xe5⟩ := x
    simp only []
    congr 2 <;> omega
  · exact absurd h (by simp)

theorem right_zero_is {d t : Int} (h2 : d ≤ 9223372036854775807) (h : rightB 0 d t = true) : d = 1 ∧ t = 0 := by
  rw [right_eq 0 d t (by omega) h2] at h
  exact rightR_zero h

theorem right_good_of {n d t : Int} (h1 : n ≤ 9223372036854775807) (h2 : d ≤ 9223372036854775807) (hn : n ≠ 0) (h : rightB n d t = true) : Good n d t := by
  have f := right_fine h1 h2 h
  rw [right_eq n d t h1 h2] at h
  exact (right_good n d t hn (by omega)).1 h

/-- A form without an error is right. -/
theorem form_is_right {B : Int} (p : Pt) (h : Fit p.n p.d) (hb : p.Ok B) (he : (formP p).e = 0) : rightB (formP p).n (formP p).d (formP p).t = true := by
  obtain ⟨f1, f2, f3, f4, f5, f6⟩ := form_right p h he
  obtain ⟨g1, g2, g3, g4, g5⟩ := form_fine hb he
  rw [right_eq _ _ _ (by omega) g3]
  exact (right_good _ _ _ f1 (by omega)).2 ⟨by rw [f3]; exact h.d1, by rw [f3]; exact h.d2, by rw [f3]; exact h.d5, f2, by rw [f3]; exact f4, f5, f6⟩

/-- What is multiplied, and divided by the same, is what it was. -/
theorem mul_back (n1 d1 t1 n2 d2 t2 : Int) (h1 : n1 ≤ 9223372036854775807) (h2 : d1 ≤ 9223372036854775807) (h3 : n2 ≤ 9223372036854775807) (h4 : d2 ≤ 9223372036854775807) (r1 : rightB n1 d1 t1 = true) (r2 : rightB n2 d2 t2 = true) (hn : n2 ≠ 0)
    (he : (mulG n1 d1 t1 n2 d2 t2).e = 0) : rightB (mulG n1 d1 t1 n2 d2 t2).n (mulG n1 d1 t1 n2 d2 t2).d (mulG n1 d1 t1 n2 d2 t2).t = true ∧ divG (mulG n1 d1 t1 n2 d2 t2).n (mulG n1 d1 t1 n2 d2 t2).d (mulG n1 d1 t1 n2 d2 t2).t n2 d2 t2 = ⟨n1, d1, t1, 0⟩ := by
  have f1 := right_fine h1 h2 r1
  have f2 := right_fine h3 h4 r2
  have g2 := right_good_of h3 h4 hn r2
  have o2 := parts_ok n2 d2 t2 f2.1 f2.2.1 f2.2.2.1 (by omega) (by omega)
  have em : mulG n1 d1 t1 n2 d2 t2 = joinP (partsP n1 d1 t1) 1 (partsP n2 d2 t2) := by
    unfold mulG; rw [if_neg (by rw [r1, r2]; simp)]
  rw [em] at he ⊢
  by_cases z1 : n1 = 0
  · subst z1
    obtain ⟨rfl, rfl⟩ := right_zero_is h2 r1
    rw [parts_zero, join_zero_l _ _ _ (o2.more (by omega))]
    refine ⟨by rw [right_eq _ _ _ (by simp) (by simp)]; decide, ?_⟩
    unfold divG
    rw [if_neg (by rw [r2]; rw [show rightB 0 1 0 = true from by rw [right_eq _ _ _ (by simp) (by simp)]; decide]; simp), if_neg hn, parts_zero]
    exact join_zero_l _ _ _ ((turn_ok o2 (parts_ne n2 d2 t2 hn)).more (by omega))
  · have g1 := right_good_of h1 h2 z1 r1
    have o1 := parts_ok n1 d1 t1 f1.1 f1.2.1 f1.2.2.1 (by omega) (by omega)
    have fit1 := good_fit z1 g1
    have fit2 := good_fit hn g2
    have je : joinP (partsP n1 d1 t1) 1 (partsP n2 d2 t2) = match timesP (partsP n1 d1 t1) (partsP n2 d2 t2) with | none => over | some z => formP z := by
      unfold joinP; cases timesP (partsP n1 d1 t1) (partsP n2 d2 t2) <;> rfl
    rw [je] at he ⊢
    cases ht : timesP (partsP n1 d1 t1) (partsP n2 d2 t2) with
    | none => rw [ht] at he; exact absurd he (by decide)
    | some z =>
      rw [ht] at he
      simp only at he ⊢
      have fz := times_fit fit1 fit2 ht
      have oz := times_ok o1 o2 ht
      have rz := form_is_right z fz oz he
      refine ⟨rz, ?_⟩
      unfold divG
      rw [if_neg (by rw [rz, r2]; simp), if_neg hn, parts_form z fz he]
      unfold joinP
      rw [times_back fit1 fit2 o1.1 o1.2.2.1 ht]
      simp only [joinP]
      exact good_form z1 g1 f1.1

theorem mul_err (n1 d1 t1 n2 d2 t2 : Int) (r1 : rightB n1 d1 t1 = true) (r2 : rightB n2 d2 t2 = true) : (mulG n1 d1 t1 n2 d2 t2).e = 0 ∨ (mulG n1 d1 t1 n2 d2 t2).e = 10 := by
  unfold mulG; rw [if_neg (by rw [r1, r2]; simp)]
  exact join_err _ _ _

end Go.Proofs.YtfpopppapjfelaaDoor.Frac

/-
  Plain mathematics: products, quotients and powers of exact numbers are the document's answer. No program in this text.
-/
import Derived.Test.YtfpopppapjfelaaDoorGN
namespace Go.Proofs.YtfpopppapjfelaaDoor.Frac
open Go.Proofs.YtfpopppapjfelaaDoor.Whole
set_option linter.unusedVariables false

/-- The document's number taken apart, times a power of ten, as the program holds it. -/
def toPt (X : Sp) (t : Int) : Pt := ⟨X.s * X.p, X.q, X.two + t, X.five + t⟩

theorem sign_gcd_r (s a b : Int) (hs : s = 1 ∨ s = -1) : Int.gcd a (s * b) = Int.gcd a b := by
  rw [Int.gcd_comm, sign_gcd s b a hs, Int.gcd_comm]

theorem abs_sign (s a : Int) (hs : s = 1 ∨ s = -1) : (s * a).natAbs = a.natAbs := by
  rcases hs with rfl | rfl
  · simp
  · rw [show (-1 : Int) * a = -a from by omega, Int.natAbs_neg]

theorem pos_quo (p q : Int) (g : Nat) (hp : 1 ≤ p) (hg : (g : Int) ∣ p) : 1 ≤ p.tdiv g := tdiv_pos p g hp hg

theorem one_mul_le (a b : Int) (ha : 1 ≤ a) (hb : 1 ≤ b) : 1 ≤ a * b := by
  have := Int.mul_le_mul ha hb (by omega) (by omega)
  omega

theorem times_rel (X Y : Sp) (t u : Int) {B C : Int} (hX : X.Ok B) (hY : Y.Ok C) : timesP (toPt X t) (toPt Y u) = (timesR X Y).map (toPt · (t + u)) := by
  have eN : timesN (toPt X t) (toPt Y u) = X.s * Y.s * (X.p.tdiv (Int.gcd X.p Y.q) * Y.p.tdiv (Int.gcd Y.p X.q)) := by
    unfold timesN toPt
    simp only []
    rw [sign_gcd X.s _ _ hX.1, sign_gcd Y.s _ _ hY.1, sign_tdiv X.s _ _ hX.1, sign_tdiv Y.s _ _ hY.1]
    ac_rfl
  have eD : timesD (toPt X t) (toPt Y u) = X.q.tdiv (Int.gcd Y.p X.q) * Y.q.tdiv (Int.gcd X.p Y.q) := by
    unfold timesD toPt
    simp only []
    rw [sign_gcd X.s _ _ hX.1, sign_gcd Y.s _ _ hY.1]
  have p1 := one_mul_le _ _ (pos_quo X.p Y.q (Int.gcd X.p Y.q) hX.2.1 (Int.gcd_dvd_left _ _)) (pos_quo Y.p X.q (Int.gcd Y.p X.q) hY.2.1 (Int.gcd_dvd_left _ _))
  have p2 := one_mul_le _ _ (pos_quo X.q Y.p (Int.gcd Y.p X.q) hX.2.2.2.1 (Int.gcd_dvd_right _ _)) (pos_quo Y.q X.p (Int.gcd X.p Y.q) hY.2.2.2.1 (Int.gcd_dvd_right _ _))
  have aN : (timesN (toPt X t) (toPt Y u)).natAbs = (X.p.tdiv (Int.gcd X.p Y.q) * Y.p.tdiv (Int.gcd Y.p X.q)).natAbs := by
    rw [eN]; exact abs_sign _ _ (sign_mul_cases _ _ hX.1 hY.1)
  unfold timesP timesR
  by_cases hf : X.p.tdiv (Int.gcd X.p Y.q) * Y.p.tdiv (Int.gcd Y.p X.q) ≤ 9223372036854775807 ∧ X.q.tdiv (Int.gcd Y.p X.q) * Y.q.tdiv (Int.gcd X.p Y.q) ≤ 9223372036854775807
  · rw [if_pos hf, if_pos (by rw [aN, eD]; omega), eN, eD]
    simp only [Option.map_some, toPt]
    congr 2 <;> omega
  · rw [if_neg hf, if_neg (by rw [aN, eD]; omega)]
    rfl

theorem timesR_ok {B C : Int} {X Y Z : Sp} (hX : X.Ok B) (hY : Y.Ok C) (h : timesR X Y = some Z) : Z.Ok (B + C) := by
  have p1 := one_mul_le _ _ (pos_quo X.p Y.q (Int.gcd X.p Y.q) hX.2.1 (Int.gcd_dvd_left _ _)) (pos_quo Y.p X.q (Int.gcd Y.p X.q) hY.2.1 (Int.gcd_dvd_left _ _))
  have p2 := one_mul_le _ _ (pos_quo X.q Y.p (Int.gcd Y.p X.q) hX.2.2.2.1 (Int.gcd_dvd_right _ _)) (pos_quo Y.q X.p (Int.gcd X.p Y.q) hY.2.2.2.1 (Int.gcd_dvd_right _ _))
  obtain ⟨h0, h1, h2, h3, h4, h5, h6, h7, h8⟩ := hX
  obtain ⟨k0, k1, k2, k3, k4, k5, k6, k7, k8⟩ := hY
  unfold timesR at h
  split at h
  · rename_i hf
    simp only [Option.some.injEq] at h
    subst h
    exact ⟨sign_mul_cases _ _ h0 k0, p1, hf.1, p2, hf.2, by show -(B + C) ≤ X.two + Y.two; omega, by show X.two + Y.two ≤ B + C; omega, by show -(B + C) ≤ X.five + Y.five; omega, by show X.five + Y.five ≤ B + C; omega⟩
  · exact absurd h (by simp)

theorem join_times (X Y : Sp) (t u : Int) (hX : X.Ok 400) (hY : Y.Ok 400) : joinP (toPt X t) 1 (toPt Y u) = timesF X Y (t + u) := by
  unfold joinP timesF
  rw [times_rel X Y t u hX hY]
  cases h : timesR X Y with
  | none => rfl
  | some Z =>
    have ok := timesR_ok hX hY h
    simp only [Option.map_some, joinP]
    exact (form_formS Z (t + u) ok.1 ok.2.1 (fun _ => least_in ok (by omega))).symm

theorem turn_toPt (Y : Sp) (u : Int) {C : Int} (hY : Y.Ok C) : turnP (toPt Y u) = toPt (turnS Y) (-u) := by
  have h1 := hY.2.1
  unfold turnP toPt turnS
  simp only []
  rcases hY.1 with h | h
  · rw [h, if_neg (by omega)]
    congr 1 <;> omega
  · rw [h, if_pos (by omega)]
    congr 1 <;> omega

theorem good_toPt {n d t : Int} (hn : n ≠ 0) (h : Good n d t) : partsP n d t = toPt (ofS n d) t := by
  have d1 := h.d1
  rw [← canon_good hn h, canon_of n d t hn (by omega)]
  rfl

theorem gcd_zero_self (d : Int) (h : 1 ≤ d) : d.tdiv (Int.gcd 0 d) = 1 := by
  have : ((Int.gcd 0 d : Nat) : Int) = d := by simp; omega
  rw [this]
  exact Int.tdiv_self (by omega)

theorem join_zero_l (y : Pt) (a b : Int) (hy : y.Ok 9000) : joinP ⟨0, 1, a, b⟩ 1 y = ⟨0, 1, 0, 0⟩ := by
  have eN : timesN ⟨0, 1, a, b⟩ y = 0 := by unfold timesN; simp
  have eD : timesD ⟨0, 1, a, b⟩ y = 1 := by
    unfold timesD
    simp only []
    rw [gcd_zero_self y.d hy.2.1]; simp
  unfold joinP timesP
  rw [eN, eD, if_pos ⟨by decide, by decide⟩]
  simp [joinP, formP]

theorem join_zero_r (x : Pt) (a b : Int) (hx : x.Ok 9000) : joinP x 1 ⟨0, 1, a, b⟩ = ⟨0, 1, 0, 0⟩ := by
  have eN : timesN x ⟨0, 1, a, b⟩ = 0 := by unfold timesN; simp
  have eD : timesD x ⟨0, 1, a, b⟩ = 1 := by
    unfold timesD
    simp only []
    rw [gcd_zero_self x.d hx.2.1]; simp
  unfold joinP timesP
  rw [eN, eD, if_pos ⟨by decide, by decide⟩]
  simp [joinP, formP]

theorem parts_zero (d t : Int) : partsP 0 d t = ⟨0, d, t, t⟩ := by unfold partsP apartP; rw [if_pos rfl]

theorem rightR_zero {d t : Int} (h : rightR 0 d t = true) : d = 1 ∧ t = 0 := by
  unfold rightR at h
  rw [if_pos rfl] at h
  simpa using h

theorem good_ok {n d t : Int} (h1 : n ≤ 9223372036854775807) (h2 : d ≤ 9223372036854775807) (hn : n ≠ 0) (h : rightR n d t = true) : Good n d t ∧ (ofS n d).Ok 63 ∧ n.natAbs ≤ 9223372036854775807 := by
  have hb := right_fine h1 h2 (by rw [right_eq n d t h1 h2]; exact h)
  exact ⟨(right_good n d t hn (by omega)).1 h, ofS_ok n d hn (by omega) hb.1 (by omega), hb.1⟩

theorem mul_eq (n1 d1 t1 n2 d2 t2 : Int) (h1 : n1 ≤ 9223372036854775807) (h2 : d1 ≤ 9223372036854775807) (h3 : n2 ≤ 9223372036854775807) (h4 : d2 ≤ 9223372036854775807) : mulG n1 d1 t1 n2 d2 t2 = mulR n1 d1 t1 n2 d2 t2 := by
  unfold mulG mulR
  rw [right_eq n1 d1 t1 h1 h2, right_eq n2 d2 t2 h3 h4]
  by_cases hr : rightR n1 d1 t1 = false ∨ rightR n2 d2 t2 = false
  · rw [if_pos hr, if_pos hr]
  rw [if_neg hr, if_neg hr]
  have r1 : rightR n1 d1 t1 = true := by cases h : rightR n1 d1 t1 <;> simp_all
  have r2 : rightR n2 d2 t2 = true := by cases h : rightR n2 d2 t2 <;> simp_all
  have f1 := right_fine h1 h2 (by rw [right_eq n1 d1 t1 h1 h2]; exact r1)
  have f2 := right_fine h3 h4 (by rw [right_eq n2 d2 t2 h3 h4]; exact r2)
  by_cases z1 : n1 = 0
  · subst z1
    obtain ⟨rfl, rfl⟩ := rightR_zero r1
    rw [if_pos (.inl rfl), parts_zero]
    exact join_zero_l _ _ _ ((parts_ok n2 d2 t2 f2.1 f2.2.1 f2.2.2.1 (by omega) (by omega)).more (by omega))
  by_cases z2 : n2 = 0
  · subst z2
    obtain ⟨rfl, rfl⟩ := rightR_zero r2
    rw [if_pos (.inr rfl), parts_zero 1]
    exact join_zero_r _ _ _ ((parts_ok n1 d1 t1 f1.1 f1.2.1 f1.2.2.1 (by omega) (by omega)).more (by omega))
  rw [if_neg (by omega)]
  obtain ⟨g1, o1, _⟩ := good_ok h1 h2 z1 r1
  obtain ⟨g2, o2, _⟩ := good_ok h3 h4 z2 r2
  rw [good_toPt z1 g1, good_toPt z2 g2]
  exact join_times _ _ _ _ (o1.more (by omega)) (o2.more (by omega))

theorem div_eq (n1 d1 t1 n2 d2 t2 : Int) (h1 : n1 ≤ 9223372036854775807) (h2 : d1 ≤ 9223372036854775807) (h3 : n2 ≤ 9223372036854775807) (h4 : d2 ≤ 9223372036854775807) : divG n1 d1 t1 n2 d2 t2 = divR n1 d1 t1 n2 d2 t2 := by
  unfold divG divR
  rw [right_eq n1 d1 t1 h1 h2, right_eq n2 d2 t2 h3 h4]
  by_cases hr : rightR n1 d1 t1 = false ∨ rightR n2 d2 t2 = false
  · rw [if_pos hr, if_pos hr]
  rw [if_neg hr, if_neg hr]
  have r1 : rightR n1 d1 t1 = true := by cases h : rightR n1 d1 t1 <;> simp_all
  have r2 : rightR n2 d2 t2 = true := by cases h : rightR n2 d2 t2 <;> simp_all
  have f1 := right_fine h1 h2 (by rw [right_eq n1 d1 t1 h1 h2]; exact r1)
  have f2 := right_fine h3 h4 (by rw [right_eq n2 d2 t2 h3 h4]; exact r2)
  by_cases z2 : n2 = 0
  · rw [if_pos z2, if_pos z2]
  rw [if_neg z2, if_neg z2]
  obtain ⟨g2, o2, _⟩ := good_ok h3 h4 z2 r2
  by_cases z1 : n1 = 0
  · subst z1
    obtain ⟨rfl, rfl⟩ := rightR_zero r1
    rw [if_pos rfl, parts_zero]
    exact join_zero_l _ _ _ ((turn_ok (parts_ok n2 d2 t2 f2.1 f2.2.1 f2.2.2.1 (by omega) (by omega)) (parts_ne n2 d2 t2 z2)).more (by omega))
  rw [if_neg z1]
  obtain ⟨g1, o1, _⟩ := good_ok h1 h2 z1 r1
  rw [good_toPt z1 g1, good_toPt z2 g2, turn_toPt _ _ o2, Int.sub_eq_add_neg]
  exact join_times _ _ _ _ (o1.more (by omega)) (turnS_ok (o2.more (by omega)))

theorem tdiv_one (a : Int) : a.tdiv (1 : Nat) = a := by simp

/-- So many products of numbers that have nothing in common. -/
theorem join_pow (Y : Sp) (y : Pt) {C : Int} (hY : Y.Ok C) (hn : y.n = Y.s * Y.p) (hd : y.d = Y.q) (hc : Int.gcd Y.p Y.q = 1) : ∀ (k : Nat) (X : Sp) (a b : Int), (X.s = 1 ∨ X.s = -1) → 1 ≤ X.p → 1 ≤ X.q → Int.gcd X.p Y.q = 1 → Int.gcd Y.p X.q = 1 →
    joinP ⟨X.s * X.p, X.q, a, b⟩ k y = match powS X k Y with
      | none => over
      | some Z => formP ⟨Z.s * Z.p, Z.q, a + k * y.e2, b + k * y.e5⟩
  | 0, X, a, b, hs, hp, hq, c1, c2 => by
    simp [joinP, powS]
  | k + 1, X, a, b, hs, hp, hq, c1, c2 => by
    have g1 : Int.gcd (X.s * X.p) y.d = 1 := by rw [sign_gcd _ _ _ hs, hd]; exact c1
    have g2 : Int.gcd y.n X.q = 1 := by rw [hn, sign_gcd _ _ _ hY.1]; exact c2
    have eN : timesN ⟨X.s * X.p, X.q, a, b⟩ y = X.s * Y.s * (X.p * Y.p) := by
      unfold timesN
      simp only []
      rw [g1, g2, tdiv_one, tdiv_one, hn]
      ac_rfl
    have eD : timesD ⟨X.s * X.p, X.q, a, b⟩ y = X.q * Y.q := by
      unfold timesD
      simp only []
      rw [g1, g2, tdiv_one, tdiv_one, hd]
    have p1 := one_mul_le _ _ hp hY.2.1
    have p2 := one_mul_le _ _ hq hY.2.2.2.1
    have aN : (X.s * Y.s * (X.p * Y.p)).natAbs = (X.p * Y.p).natAbs := abs_sign _ _ (sign_mul_cases _ _ hs hY.1)
    unfold joinP timesP powS
    rw [eN, eD]
    by_cases hf : X.p * Y.p ≤ 9223372036854775807 ∧ X.q * Y.q ≤ 9223372036854775807
    · rw [if_pos hf, if_pos (by rw [aN]; omega)]
      simp only []
      have ih := join_pow Y y hY hn hd hc k ⟨X.s * Y.s, X.p * Y.p, X.q * Y.q, X.two, X.five⟩ (a + y.e2) (b + y.e5) (sign_mul_cases _ _ hs hY.1) p1 p2 (co_mul _ _ _ c1 hc)
        (by rw [Int.gcd_comm]; exact co_mul _ _ _ (by rw [Int.gcd_comm]; exact c2) (by rw [Int.gcd_comm]; exact hc))
      simp only at ih
      rw [ih]
      cases powS ⟨X.s * Y.s, X.p * Y.p, X.q * Y.q, X.two, X.five⟩ k Y with
      | none => rfl
      | some Z =>
        simp only []
        have e2 : a + y.e2 + (k : Int) * y.e2 = a + ((k + 1 : Nat) : Int) * y.e2 := by
          rw [Int.natCast_succ, Int.add_mul]; omega
        have e5 : b + y.e5 + (k : Int) * y.e5 = b + ((k + 1 : Nat) : Int) * y.e5 := by
          rw [Int.natCast_succ, Int.add_mul]; omega
        rw [e2, e5]
    · rw [if_neg hf, if_neg (by rw [aN]; omega)]

theorem powS_keeps (Y : Sp) {C : Int} (hY : Y.Ok C) : ∀ (k : Nat) (X Z : Sp), (X.s = 1 ∨ X.s = -1) → 1 ≤ X.p → 1 ≤ X.q → powS X k Y = some Z → Z.two = X.two ∧ Z.five = X.five ∧ (Z.s = 1 ∨ Z.s = -1) ∧ 1 ≤ Z.p ∧ 1 ≤ Z.q
  | 0, X, Z, hs, hp, hq, h => by
    simp only [powS, Option.some.injEq] at h
    subst h
    exact ⟨rfl, rfl, hs, hp, hq⟩
  | k + 1, X, Z, hs, hp, hq, h => by
    unfold powS at h
    split at h
    · exact powS_keeps Y hY k ⟨X.s * Y.s, X.p * Y.p, X.q * Y.q, X.two, X.five⟩ Z (sign_mul_cases _ _ hs hY.1) (one_mul_le _ _ hp hY.2.1) (one_mul_le _ _ hq hY.2.2.2.1) h
    · exact absurd h (by simp)

theorem pow_bound (p q : Int) (M : Nat) (hp : 1 ≤ p) (hq : 2 ≤ q) (h : p * q ^ M ≤ 9223372036854775807) : M < 63 := by
  have h1 := two_pow_le p q M hq (by omega)
  have h0 : 0 ≤ p * q ^ M := Int.mul_nonneg (by omega) (Int.pow_nonneg (by omega))
  have h4 : 2 ^ M < 2 ^ 63 := by
    have : (2 : Nat) ^ 63 = 9223372036854775808 := by decide
    omega
  exact (Nat.pow_lt_pow_iff_right (by omega)).1 h4

theorem least_pow (Z : Sp) (hp : 1 ≤ Z.p) (hz : Z.two = 0 ∨ Z.five = 0) (h : topS Z ≤ 9223372036854775807) : -1000 ≤ leastS Z ∧ leastS Z ≤ 1000 := by
  unfold topS at h
  unfold leastS
  by_cases hlt : Z.two < Z.five
  · rw [if_pos hlt] at *
    have := pow_bound Z.p 5 _ hp (by omega) h
    omega
  · rw [if_neg hlt] at *
    have := pow_bound Z.p 2 _ hp (by omega) h
    omega

theorem join_powF (Y : Sp) (y : Pt) (k : Nat) (t : Int) {C : Int} (hY : Y.Ok C) (hy : y = toPt Y t) (hc : Int.gcd Y.p Y.q = 1) (hz : Y.two = 0 ∨ Y.five = 0) : joinP ⟨1, 1, 0, 0⟩ k y = powF Y k (t * k) := by
  have h := join_pow Y y hY (by rw [hy]; rfl) (by rw [hy]; rfl) hc k ⟨1, 1, 1, Y.two * k, Y.five * k⟩ 0 0 (.inl rfl) (by simp) (by simp) (by simp) (by simp)
  simp only [Int.mul_one] at h
  rw [h]
  unfold powF
  cases hp : powS ⟨1, 1, 1, Y.two * k, Y.five * k⟩ k Y with
  | none => rfl
  | some Z =>
    simp only []
    obtain ⟨e1, e2, e3, e4, e5⟩ := powS_keeps Y hY k _ Z (.inl rfl) (by simp) (by simp) hp
    simp only at e1 e2
    rw [form_formS Z (t * k) e3 e4 (least_pow Z e4 (by rcases hz with h | h <;> simp [e1, e2, h]))]
    rw [hy, e1, e2]
    unfold toPt
    simp only []
    congr 2
    · rw [Int.mul_add, Int.mul_comm Y.two, Int.mul_comm t]; omega
    · rw [Int.mul_add, Int.mul_comm Y.five, Int.mul_comm t]; omega

theorem one_apart : apartP 1 0 = ⟨1, 1, 0, 0⟩ := by
  obtain ⟨a, b, c⟩ := odd_is 1 1 0 0 (by decide) (by decide) (by decide) (by decide)
  rw [apart_eq 1 0 (by decide), a, b, c]
  rfl

theorem good_of {n d t : Int} (hn : n ≠ 0) (h : Good n d t) : ofS n d = ⟨n.sign, ((odd n).natAbs : Int), d, o2 n, o5 n⟩ := by
  obtain ⟨a, b, c, g, _⟩ := good_parts hn h
  have d1 := h.d1
  rw [ofS_eq n d hn (by omega), a, b, c, g, Int.sign_eq_one_of_pos (show 0 < d by omega), Int.mul_one, tdiv_one, tdiv_one]
  congr 1 <;> omega

theorem good_co {n d t : Int} (hn : n ≠ 0) (h : Good n d t) : Int.gcd (ofS n d).p (ofS n d).q = 1 ∧ ((ofS n d).two = 0 ∨ (ofS n d).five = 0) := by
  obtain ⟨a, b, c, g, z⟩ := good_parts hn h
  rw [good_of hn h]
  refine ⟨?_, z⟩
  show Int.gcd ((odd n).natAbs : Int) d = 1
  unfold Int.gcd at *
  simpa using g

theorem join_pow_zero : ∀ (k : Nat) (a b c e : Int), joinP ⟨0, 1, a, b⟩ k ⟨0, 1, c, e⟩ = ⟨0, 1, 0, 0⟩
  | 0, a, b, c, e => by simp [joinP, formP]
  | k + 1, a, b, c, e => by
    have eN : timesN ⟨0, 1, a, b⟩ ⟨0, 1, c, e⟩ = 0 := by unfold timesN; simp
    have eD : timesD ⟨0, 1, a, b⟩ ⟨0, 1, c, e⟩ = 1 := by unfold timesD; simp
    unfold joinP timesP
    rw [eN, eD, if_pos ⟨by decide, by decide⟩]
    exact join_pow_zero k _ _ _ _

theorem join_one_zero (k : Nat) (c e : Int) : joinP ⟨1, 1, 0, 0⟩ (k + 1) ⟨0, 1, c, e⟩ = ⟨0, 1, 0, 0⟩ := by
  have eN : timesN ⟨1, 1, 0, 0⟩ ⟨0, 1, c, e⟩ = 0 := by unfold timesN; simp
  have eD : timesD ⟨1, 1, 0, 0⟩ ⟨0, 1, c, e⟩ = 1 := by unfold timesD; simp
  unfold joinP timesP
  rw [eN, eD, if_pos ⟨by decide, by decide⟩]
  exact join_pow_zero k _ _ _ _

theorem pow_eq (n d t k : Int) (h1 : n ≤ 9223372036854775807) (h2 : d ≤ 9223372036854775807) : powG n d t k = powR n d t k := by
  unfold powG powR
  rw [right_eq n d t h1 h2]
  by_cases hr : rightR n d t = false ∨ k < -99 ∨ 99 < k
  · rw [if_pos hr, if_pos hr]
  rw [if_neg hr, if_neg hr]
  have r1 : rightR n d t = true := by cases h : rightR n d t <;> simp_all
  by_cases hz : n = 0
  · subst hz
    obtain ⟨rfl, rfl⟩ := rightR_zero r1
    by_cases hk : 0 ≤ k
    · rw [if_pos hk, if_neg (by omega), parts_zero, one_apart]
      by_cases hk0 : k = 0
      · rw [if_pos hk0, hk0]; decide
      · rw [if_neg hk0, if_pos rfl]
        obtain ⟨m, hm⟩ : ∃ m, k.toNat = m + 1 := ⟨k.toNat - 1, by omega⟩
        rw [hm]; exact join_one_zero m _ _
    · rw [if_neg hk, if_pos rfl, if_pos (by omega)]
  obtain ⟨g, ok, _⟩ := good_ok h1 h2 hz r1
  obtain ⟨co, z⟩ := good_co hz g
  rw [if_neg (show ¬ (n = 0 ∧ k < 0) by omega), one_apart]
  by_cases hk : 0 ≤ k
  · rw [if_pos hk]
    by_cases hk0 : k = 0
    · rw [if_pos hk0, hk0]
      simp [joinP, formP, formAt]
    · rw [if_neg hk0, if_neg hz, if_neg (by omega), good_toPt hz g]
      rw [join_powF _ _ k.toNat t ok rfl co z, show ((k.toNat : Nat) : Int) = k from by omega]
  · rw [if_neg hk, if_neg hz, if_neg (by omega), if_neg hz, if_pos (by omega), good_toPt hz g, turn_toPt _ _ ok]
    have co2 : Int.gcd (turnS (ofS n d)).p (turnS (ofS n d)).q = 1 := by
      show Int.gcd (ofS n d).q (ofS n d).p = 1
      rw [Int.gcd_comm]; exact co
    have z2 : (turnS (ofS n d)).two = 0 ∨ (turnS (ofS n d)).five = 0 := by
      show -(ofS n d).two = 0 ∨ -(ofS n d).five = 0
      omega
    rw [join_powF _ _ (-k).toNat (-t) (turnS_ok ok) rfl co2 z2]
    have : -t * (((-k).toNat : Nat) : Int) = t * k := by
      rw [show (((-k).toNat : Nat) : Int) = -k from by omega, Int.neg_mul_neg]
    rw [this]

end Go.Proofs.YtfpopppapjfelaaDoor.Frac

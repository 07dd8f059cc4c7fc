/-
  Plain mathematics for exact numbers, second part: what frac.Make makes of a quotient, in closed words; that the form does not hang on how the quotient is written. No program in this text.
-/
import Derived.Test.YtjklbnakgkffnaaDoorFM
namespace Go.Proofs.YtjklbnakgkffnaaDoor.Frac
open Go.Proofs.YtjklbnakgkffnaaDoor.Whole
set_option linter.unusedVariables false
set_option linter.unusedSimpArgs false

/-- How many twos, and fives, are in a number. -/
def o2 (n : Int) : Int := spT n 2
def o5 (n : Int) : Int := spT (spL n 2) 5

theorem mod2_mul (a b : Int) (h1 : a % 2 ≠ 0) (h2 : b % 2 ≠ 0) : (a * b) % 2 ≠ 0 := by
  have e1 : a % 2 = 1 := by omega
  have e2 : b % 2 = 1 := by omega
  rw [Int.mul_emod, e1, e2]; decide

theorem mod5_mul (a b : Int) (h1 : a % 5 ≠ 0) (h2 : b % 5 ≠ 0) : (a * b) % 5 ≠ 0 := by
  have e1 : a % 5 = 1 ∨ a % 5 = 2 ∨ a % 5 = 3 ∨ a % 5 = 4 := by omega
  have e2 : b % 5 = 1 ∨ b % 5 = 2 ∨ b % 5 = 3 ∨ b % 5 = 4 := by omega
  rcases e1 with e1 | e1 | e1 | e1 <;> rcases e2 with e2 | e2 | e2 | e2 <;> rw [Int.mul_emod, e1, e2] <;> decide

theorem sp_mul (k a b : Int) (hk : 2 ≤ k) (hp : ∀ x y : Int, x % k ≠ 0 → y % k ≠ 0 → (x * y) % k ≠ 0) (ha : a ≠ 0) (hb : b ≠ 0) : spT (a * b) k = spT a k + spT b k ∧ spL (a * b) k = spL a k * spL b k := by
  obtain ⟨a1, a2⟩ := sp_spec a k hk ha
  obtain ⟨b1, b2⟩ := sp_spec b k hk hb
  have e : spL a k * spL b k * k ^ (spT a k + spT b k) = a * b := by
    rw [Int.pow_add]
    calc spL a k * spL b k * (k ^ spT a k * k ^ spT b k) = (spL a k * k ^ spT a k) * (spL b k * k ^ spT b k) := by ac_rfl
      _ = a * b := by rw [a1, b1]
  obtain ⟨h1, h2⟩ := sp_is (a * b) k _ _ hk (Int.mul_ne_zero ha hb) e (hp _ _ a2 b2)
  exact ⟨h1.symm, h2.symm⟩

theorem o2_mul (a b : Int) (ha : a ≠ 0) (hb : b ≠ 0) : o2 (a * b) = o2 a + o2 b := by
  unfold o2; rw [(sp_mul 2 a b (by omega) mod2_mul ha hb).1]; omega

theorem odd_mul (a b : Int) (ha : a ≠ 0) (hb : b ≠ 0) : odd (a * b) = odd a * odd b ∧ o5 (a * b) = o5 a + o5 b := by
  unfold odd o5
  rw [(sp_mul 2 a b (by omega) mod2_mul ha hb).2]
  have h := sp_mul 5 (spL a 2) (spL b 2) (by omega) mod5_mul (spL_ne a 2 (by omega) ha) (spL_ne b 2 (by omega) hb)
  rw [h.1, h.2]
  exact ⟨rfl, by omega⟩

theorem odd_ne (n : Int) (h : n ≠ 0) : odd n ≠ 0 := spL_ne _ 5 (by omega) (spL_ne n 2 (by omega) h)

/-- A number is what is left of it, by its twos and fives. -/
theorem odd_spec (n : Int) (h : n ≠ 0) : odd n * 5 ^ (o5 n).toNat * 2 ^ (o2 n).toNat = n ∧ odd n % 2 ≠ 0 ∧ odd n % 5 ≠ 0 := by
  have hL := spL_ne n 2 (by omega) h
  obtain ⟨a1, a2⟩ := sp_spec n 2 (by omega) h
  obtain ⟨b1, b2⟩ := sp_spec (spL n 2) 5 (by omega) hL
  refine ⟨?_, ?_, b2⟩
  · unfold odd o5 o2
    rw [Int.toNat_natCast, Int.toNat_natCast, b1, a1]
  · intro h2
    apply a2
    rw [← b1]
    show (odd n * 5 ^ spT (spL n 2) 5) % 2 = 0
    rw [Int.mul_emod, h2]; simp

theorem pow5_mod2 : ∀ t : Nat, (5 : Int) ^ t % 2 ≠ 0
  | 0 => by decide
  | t + 1 => by rw [Int.pow_succ]; exact mod2_mul _ _ (pow5_mod2 t) (by decide)

/-- What has the properties of a number taken apart is it. -/
theorem odd_is (n l : Int) (s t : Nat) (h : n ≠ 0) (e : l * 5 ^ t * 2 ^ s = n) (h2 : l % 2 ≠ 0) (h5 : l % 5 ≠ 0) : odd n = l ∧ o5 n = t ∧ o2 n = s := by
  have hp : (5 : Int) ^ t % 2 ≠ 0 := pow5_mod2 t
  obtain ⟨h3, h4⟩ := sp_is n 2 (l * 5 ^ t) s (by omega) h e (mod2_mul _ _ h2 hp)
  have hL := spL_ne n 2 (by omega) h
  obtain ⟨h6, h7⟩ := sp_is (spL n 2) 5 l t (by omega) hL h4 h5
  unfold odd o5 o2
  exact ⟨h7.symm, by rw [← h6], by rw [← h3]⟩

theorem odd_neg (n : Int) (h : n ≠ 0) : odd (-n) = -odd n ∧ o5 (-n) = o5 n ∧ o2 (-n) = o2 n := by
  obtain ⟨e, h2, h5⟩ := odd_spec n h
  have := odd_is (-n) (-odd n) (o2 n).toNat (o5 n).toNat (by omega) (by rw [Int.neg_mul, Int.neg_mul, e]) (by omega) (by omega)
  obtain ⟨a, b, c⟩ := this
  have p2 : 0 ≤ o2 n := Int.natCast_nonneg _
  have p5 : 0 ≤ o5 n := Int.natCast_nonneg _
  exact ⟨a, by omega, by omega⟩

theorem odd_pos (n : Int) (h : 1 ≤ n) : 1 ≤ odd n := by
  obtain ⟨e, h2, h5⟩ := odd_spec n (by omega)
  rcases Int.lt_or_le 0 (odd n) with hp | hp
  · omega
  · exfalso
    have h3 : (0 : Int) ≤ 5 ^ (o5 n).toNat := Int.pow_nonneg (by omega)
    have h4 : (0 : Int) ≤ 2 ^ (o2 n).toNat := Int.pow_nonneg (by omega)
    have h5 := Int.mul_nonpos_of_nonpos_of_nonneg (Int.mul_nonpos_of_nonpos_of_nonneg hp h3) h4
    omega

theorem odd_abs (n : Int) (h : n ≠ 0) : odd (n.natAbs : Int) = ((odd n).natAbs : Int) ∧ o5 (n.natAbs : Int) = o5 n ∧ o2 (n.natAbs : Int) = o2 n := by
  rcases Int.lt_or_le n 0 with hn | hn
  · have e : (n.natAbs : Int) = -n := by omega
    obtain ⟨a, b, c⟩ := odd_neg n h
    have hp := odd_pos (-n) (by omega)
    rw [e]
    exact ⟨by omega, b, c⟩
  · have e : (n.natAbs : Int) = n := by omega
    have hp := odd_pos n (by omega)
    rw [e]
    exact ⟨by omega, rfl, rfl⟩

theorem odd_le (n : Int) (h : n ≠ 0) : (odd n).natAbs ≤ n.natAbs :=
  Nat.le_trans (spL_le _ 5 (by omega) (spL_ne n 2 (by omega) h)) (spL_le n 2 (by omega) h)

theorem o2_lt (n : Int) (h : n ≠ 0) (hb : n.natAbs ≤ 9223372036854775807) : 0 ≤ o2 n ∧ o2 n < 63 := by
  have := spT_lt n 2 (by omega) h (by omega)
  unfold o2; omega
theorem o5_lt (n : Int) (h : n ≠ 0) (hb : n.natAbs ≤ 9223372036854775807) : 0 ≤ o5 n ∧ o5 n < 63 := by
  have := spT_lt (spL n 2) 5 (by omega) (spL_ne n 2 (by omega) h) (by have := spL_le n 2 (by omega) h; omega)
  unfold o5; omega

/-- The quotient of two numbers that are not 0, taken apart. -/
def canon (num den t : Int) : Pt :=
  ⟨den.sign * (odd num).tdiv (Int.gcd (odd num) (odd den)), ((odd den).natAbs : Int).tdiv (Int.gcd (odd num) (odd den)), o2 num - o2 den + t, o5 num - o5 den + t⟩

theorem gcd_abs_r (a b : Int) : Int.gcd a (b.natAbs : Int) = Int.gcd a b := by
  unfold Int.gcd; simp

theorem tdiv_le (a : Int) (g : Nat) : (a.tdiv g).natAbs ≤ a.natAbs := by
  rw [Int.natAbs_tdiv]; exact Nat.div_le_self _ _

theorem apart_eq (n t : Int) (h : n ≠ 0) : apartP n t = ⟨odd n, 1, o2 n + t, o5 n + t⟩ := by
  unfold apartP; rw [if_neg h]; rfl

theorem turn_apart (n : Int) (h : n ≠ 0) : turnP (apartP n 0) = ⟨n.sign, ((odd n).natAbs : Int), -o2 n, -o5 n⟩ := by
  rw [apart_eq n 0 h]
  unfold turnP
  rcases Int.lt_or_le n 0 with hn | hn
  · have hp := odd_pos (-n) (by omega)
    rw [(odd_neg n h).1] at hp
    rw [if_pos (show odd n < 0 by omega)]
    have : n.sign = -1 := Int.sign_eq_neg_one_of_neg hn
    rw [this]
    have e : ((odd n).natAbs : Int) = -odd n := by omega
    rw [e]
    simp
  · have hp := odd_pos n (by omega)
    rw [if_neg (show ¬ odd n < 0 by omega)]
    have : n.sign = 1 := Int.sign_eq_one_of_pos (by omega)
    rw [this]
    have e : ((odd n).natAbs : Int) = odd n := by omega
    rw [e]
    simp

theorem make_canon (num den ten : Int) (h1 : num.natAbs ≤ 9223372036854775807) (h2 : den.natAbs ≤ 9223372036854775807) (hn : num ≠ 0) (hd : den ≠ 0) : makeG num den ten = formP (canon num den (near ten)) := by
  unfold makeG
  rw [if_neg (by omega), if_neg hd, turn_apart den hd, apart_eq num (near ten) hn]
  have hs : den.sign = 1 ∨ den.sign = -1 := by
    rcases Int.lt_or_le den 0 with h | h
    · exact .inr (Int.sign_eq_neg_one_of_neg h)
    · exact .inl (Int.sign_eq_one_of_pos (by omega))
  have hg1 : Int.gcd den.sign 1 = 1 := by simp
  have eN : timesN ⟨odd num, 1, o2 num + near ten, o5 num + near ten⟩ ⟨den.sign, ((odd den).natAbs : Int), -o2 den, -o5 den⟩ = (odd num).tdiv (Int.gcd (odd num) (odd den)) * den.sign := by
    unfold timesN
    simp only [gcd_abs_r, hg1]
    simp
  have eD : timesD ⟨odd num, 1, o2 num + near ten, o5 num + near ten⟩ ⟨den.sign, ((odd den).natAbs : Int), -o2 den, -o5 den⟩ = ((odd den).natAbs : Int).tdiv (Int.gcd (odd num) (odd den)) := by
    unfold timesD
    simp only [gcd_abs_r, hg1]
    simp
  have fN : ((odd num).tdiv (Int.gcd (odd num) (odd den)) * den.sign).natAbs ≤ 9223372036854775807 := by
    have a1 := tdiv_le (odd num) (Int.gcd (odd num) (odd den))
    have a2 := odd_le num hn
    rw [Int.natAbs_mul]
    have e1 : den.sign.natAbs = 1 := by rcases hs with e | e <;> rw [e] <;> rfl
    rw [e1, Nat.mul_one]; omega
  have fD : (((odd den).natAbs : Int).tdiv (Int.gcd (odd num) (odd den))).natAbs ≤ 9223372036854775807 := by
    have a1 := tdiv_le ((odd den).natAbs : Int) (Int.gcd (odd num) (odd den))
    have a2 := odd_le den hd
    omega
  unfold joinP timesP
  rw [eN, eD, if_pos ⟨fN, fD⟩]
  simp only [joinP]
  unfold canon
  rw [Int.mul_comm den.sign]
  congr 2 <;> omega

theorem make_of_zero (den ten : Int) (h2 : den.natAbs ≤ 9223372036854775807) (hd : den ≠ 0) : makeG 0 den ten = ⟨0, 1, 0, 0⟩ := by
  unfold makeG
  rw [if_neg (by omega), if_neg hd, turn_apart den hd]
  have e0 : apartP 0 (near ten) = ⟨0, 1, near ten, near ten⟩ := by unfold apartP; rw [if_pos rfl]
  rw [e0]
  have hg1 : Int.gcd den.sign 1 = 1 := by simp
  have eN : timesN ⟨0, 1, near ten, near ten⟩ ⟨den.sign, ((odd den).natAbs : Int), -o2 den, -o5 den⟩ = 0 := by
    unfold timesN; simp
  have hne := odd_ne den hd
  have eD : timesD ⟨0, 1, near ten, near ten⟩ ⟨den.sign, ((odd den).natAbs : Int), -o2 den, -o5 den⟩ = 1 := by
    unfold timesD
    simp only [hg1]
    simp
    exact Int.ediv_self (by omega)
  unfold joinP timesP
  rw [eN, eD, if_pos ⟨by decide, by decide⟩]
  simp only [joinP, formP, if_true]

theorem canon_scale (a b k t : Int) (ha : a ≠ 0) (hb : b ≠ 0) (hk : 1 ≤ k) : canon (a * k) (b * k) t = canon a b t := by
  have hp := odd_pos k hk
  obtain ⟨a1, a5⟩ := odd_mul a k ha (by omega)
  obtain ⟨b1, b5⟩ := odd_mul b k hb (by omega)
  have a2 := o2_mul a k ha (by omega)
  have b2 := o2_mul b k hb (by omega)
  have hg : Int.gcd (odd a * odd k) (odd b * odd k) = Int.gcd (odd a) (odd b) * (odd k).natAbs := Int.gcd_mul_right _ _ _
  have hgc : ((Int.gcd (odd a) (odd b) * (odd k).natAbs : Nat) : Int) = (Int.gcd (odd a) (odd b) : Nat) * odd k := by
    rw [Int.natCast_mul, show (((odd k).natAbs : Nat) : Int) = odd k from by omega]
  have hs : (b * k).sign = b.sign := by rw [Int.sign_mul, Int.sign_eq_one_of_pos (show 0 < k by omega), Int.mul_one]
  have hn : (((odd b * odd k).natAbs : Nat) : Int) = ((odd b).natAbs : Int) * odd k := by
    rw [Int.natAbs_mul, Int.natCast_mul, show (((odd k).natAbs : Nat) : Int) = odd k from by omega]
  unfold canon
  rw [a1, a5, b1, b5, a2, b2, hg, hgc, hs, hn, Int.mul_tdiv_mul_of_pos_left _ _ (show 0 < odd k by omega), Int.mul_tdiv_mul_of_pos_left _ _ (show 0 < odd k by omega)]
  congr 1 <;> omega

theorem ten_apart : odd 10 = 1 ∧ o5 10 = 1 ∧ o2 10 = 1 := odd_is 10 1 1 1 (by decide) (by decide) (by decide) (by decide)

theorem canon_ten (a b t : Int) (ha : a ≠ 0) : canon (a * 10) b (t - 1) = canon a b t := by
  obtain ⟨t1, t5, t2⟩ := ten_apart
  obtain ⟨a1, a5⟩ := odd_mul a 10 ha (by omega)
  have a2 := o2_mul a 10 ha (by omega)
  rw [t1, Int.mul_one] at a1
  unfold canon
  rw [a1, a5, a2, t5, t2]
  congr 1 <;> omega

theorem canon_neg (a b t : Int) (hb : b ≠ 0) : canon a (-b) t = ⟨-(canon a b t).n, (canon a b t).d, (canon a b t).e2, (canon a b t).e5⟩ := by
  obtain ⟨b1, b5, b2⟩ := odd_neg b hb
  have hg : Int.gcd (odd a) (-odd b) = Int.gcd (odd a) (odd b) := by simp
  unfold canon
  rw [b1, b5, b2, hg, Int.sign_neg, Int.natAbs_neg, Int.neg_mul]

def Got.neg (g : Got) : Got := ⟨-g.n, g.d, g.t, g.e⟩

theorem formAt_neg (N d t : Int) : formAt (-N) d t = (formAt N d t).neg := by
  unfold formAt
  by_cases hf : t < -1000 ∨ 1000 < t
  · rw [if_pos hf, if_pos hf]; rfl
  rw [if_neg hf, if_neg hf, Int.natAbs_neg]
  by_cases hN : N.natAbs ≤ 9223372036854775807
  · rw [if_pos hN, if_pos hN]; rfl
  · rw [if_neg hN, if_neg hN]; rfl

theorem form_neg (p : Pt) : formP ⟨-p.n, p.d, p.e2, p.e5⟩ = (formP p).neg := by
  unfold formP
  simp only []
  by_cases h0 : p.n = 0
  · rw [if_pos h0, if_pos (by omega)]; rfl
  rw [if_neg h0, if_neg (by omega)]
  by_cases hle : p.e2 ≤ p.e5
  · rw [if_pos hle, if_pos hle, Int.neg_mul, formAt_neg]
  · rw [if_neg hle, if_neg hle, Int.neg_mul, formAt_neg]

theorem near_same (t : Int) (h1 : -2000 ≤ t) (h2 : t ≤ 2000) : near t = t := by
  unfold near; rw [if_neg (by omega), if_neg (by omega)]

theorem make_scale (a b k t : Int) (hb : b ≠ 0) (hk : 1 ≤ k) (h1 : (a * k).natAbs ≤ 9223372036854775807) (h2 : (b * k).natAbs ≤ 9223372036854775807) : makeG (a * k) (b * k) t = makeG a b t := by
  have q1 : a.natAbs ≤ 9223372036854775807 := by
    have : a.natAbs * 1 ≤ a.natAbs * k.natAbs := Nat.mul_le_mul_left _ (by omega)
    rw [Int.natAbs_mul] at h1; omega
  have q2 : b.natAbs ≤ 9223372036854775807 := by
    have : b.natAbs * 1 ≤ b.natAbs * k.natAbs := Nat.mul_le_mul_left _ (by omega)
    rw [Int.natAbs_mul] at h2; omega
  have hbk : b * k ≠ 0 := Int.mul_ne_zero hb (by omega)
  by_cases ha : a = 0
  · subst ha
    rw [Int.zero_mul, make_of_zero _ _ h2 hbk, make_of_zero _ _ q2 hb]
  · rw [make_canon _ _ _ h1 h2 (Int.mul_ne_zero ha (by omega)) hbk, make_canon _ _ _ q1 q2 ha hb, canon_scale a b k _ ha hb hk]

theorem make_ten (a b t : Int) (hb : b ≠ 0) (h1 : (a * 10).natAbs ≤ 9223372036854775807) (h2 : b.natAbs ≤ 9223372036854775807) (ht : -1000 ≤ t) (ht' : t ≤ 1000) : makeG (a * 10) b (t - 1) = makeG a b t := by
  by_cases ha : a = 0
  · subst ha
    rw [Int.zero_mul, make_of_zero _ _ h2 hb, make_of_zero _ _ h2 hb]
  · rw [make_canon _ _ _ h1 h2 (by omega) hb, make_canon _ _ _ (by omega) h2 ha hb, near_same _ (by omega) (by omega), near_same _ (by omega) (by omega), canon_ten a b t ha]

theorem make_neg (a b t : Int) (hb : b ≠ 0) (h1 : a.natAbs ≤ 9223372036854775807) (h2 : b.natAbs ≤ 9223372036854775807) : makeG a (-b) t = (makeG a b t).neg := by
  by_cases ha : a = 0
  · subst ha
    rw [make_of_zero _ _ (by omega) (by omega), make_of_zero _ _ h2 hb]; rfl
  · rw [make_canon _ _ _ h1 (by omega) ha (by omega), make_canon _ _ _ h1 h2 ha hb, canon_neg a b _ hb, form_neg]

theorem formAt_err (N d t : Int) : (formAt N d t).e = 0 ∨ (formAt N d t).e = 10 := by
  unfold formAt
  by_cases hf : t < -1000 ∨ 1000 < t
  · rw [if_pos hf]; exact .inr rfl
  rw [if_neg hf]
  by_cases hN : N.natAbs ≤ 9223372036854775807
  · rw [if_pos hN]; exact .inl rfl
  · rw [if_neg hN]; exact .inr rfl

theorem form_err (p : Pt) : (formP p).e = 0 ∨ (formP p).e = 10 := by
  unfold formP
  by_cases h0 : p.n = 0
  · rw [if_pos h0]; exact .inl rfl
  rw [if_neg h0]
  by_cases hle : p.e2 ≤ p.e5
  · rw [if_pos hle]; exact formAt_err _ _ _
  · rw [if_neg hle]; exact formAt_err _ _ _

theorem join_err : ∀ (k : Nat) (x y : Pt), (joinP x k y).e = 0 ∨ (joinP x k y).e = 10
  | 0, x, y => form_err x
  | k + 1, x, y => by
    unfold joinP
    cases timesP x y with
    | none => exact .inr rfl
    | some z => exact join_err k z y

theorem make_err (a b t : Int) (hb : b ≠ 0) (h1 : a.natAbs ≤ 9223372036854775807) (h2 : b.natAbs ≤ 9223372036854775807) : (makeG a b t).e = 0 ∨ (makeG a b t).e = 10 := by
  unfold makeG
  rw [if_neg (by omega), if_neg hb]
  exact join_err _ _ _

theorem formAt_small (N d t : Int) : (formAt N d t).n.natAbs ≤ 9223372036854775807 := by
  unfold formAt
  by_cases hf : t < -1000 ∨ 1000 < t
  · rw [if_pos hf]; decide
  rw [if_neg hf]
  by_cases hN : N.natAbs ≤ 9223372036854775807
  · rw [if_pos hN]; exact hN
  · rw [if_neg hN]; decide

theorem form_small (p : Pt) : (formP p).n.natAbs ≤ 9223372036854775807 := by
  unfold formP
  by_cases h0 : p.n = 0
  · rw [if_pos h0]; decide
  rw [if_neg h0]
  by_cases hle : p.e2 ≤ p.e5
  · rw [if_pos hle]; exact formAt_small _ _ _
  · rw [if_neg hle]; exact formAt_small _ _ _

theorem join_small : ∀ (k : Nat) (x y : Pt), (joinP x k y).n.natAbs ≤ 9223372036854775807
  | 0, x, y => form_small x
  | k + 1, x, y => by
    unfold joinP
    cases timesP x y with
    | none => exact (by decide : over.n.natAbs ≤ 9223372036854775807)
    | some z => exact join_small k z y

theorem make_small (a b t : Int) : (makeG a b t).n.natAbs ≤ 9223372036854775807 := by
  unfold makeG
  by_cases ha : a < -9223372036854775807 ∨ b < -9223372036854775807
  · rw [if_pos ha]; decide
  rw [if_neg ha]
  by_cases h0 : b = 0
  · rw [if_pos h0]; decide
  rw [if_neg h0]
  exact join_small _ _ _

theorem tmod_in (x m : Int) (hm : 0 < m) : -m < x.tmod m ∧ x.tmod m < m := by
  have h1 := Int.natAbs_tmod x m
  have h2 : x.natAbs % m.natAbs < m.natAbs := Nat.mod_lt _ (by omega)
  omega

end Go.Proofs.YtjklbnakgkffnaaDoor.Frac

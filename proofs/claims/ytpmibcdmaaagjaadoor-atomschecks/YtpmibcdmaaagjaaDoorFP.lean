/-
  Plain mathematics for exact numbers, second part: what frac.Make makes of a quotient, in closed words; that the form does not hang on how the quotient is written. No program in this text. Plain mathematics for the document's own answer on exact numbers: its numbers taken apart, its forms, products and powers, as functions; no program in this text. Plain mathematics: what frac.Make makes, and what frac.Right calls right, is the document's answer. No program in this text. Plain mathematics: products, quotients and powers of exact numbers are the document's answer. No program in this text. Plain mathematics: what is multiplied, and divided by the same, is what it was; a power is a product of so many. No program in this text.
-/
import Derived.Test.YtpmibcdmaaagjaaDoorFA
namespace Go.Proofs.YtpmibcdmaaagjaaDoor.Frac
open Go.Proofs.YtpmibcdmaaagjaaDoor.Whole
set_option linter.unusedVariables false
set_option linter.unusedSimpArgs false

/-- How many twos, and fives, are in a number. -/
def o2 (n : Int) : Int := spT n 2
def o5 (n : Int) : Int := spT (spL n 2) 5

theorem mod2_mul (a b : Int) (h1 : a % 2 ≠ 0) (h2 : b % 2 ≠ 0) : (a * b) % 2 ≠ 0 := by
  have e1 : a % 2 = 1 := by omega
  have e2 : b % 2 = 1 := by omega
  rw [Int.mul_emod, e1, e2]; decide

theorem mod5_mul (a b : Int) (h1 : a % 5 ≠ 0) (h2 : b % 5 ≠ 0) : (a * b) % 5 ≠ 0 := by
  have e1 : a % 5 = 1 ∨ a % 5 = 2 ∨ a % 5 = 3 ∨ a % 5 = 4 := by omega
  have e2 : b % 5 = 1 ∨ b % 5 = 2 ∨ b % 5 = 3 ∨ b % 5 = 4 := by omega
  rcases e1 with e1 | e1 | e1 | e1 <;> rcases e2 with e2 | e2 | e2 | e2 <;> rw [Int.mul_emod, e1, e2] <;> decide

theorem sp_mul (k a b : Int) (hk : 2 ≤ k) (hp : ∀ x y : Int, x % k ≠ 0 → y % k ≠ 0 → (x * y) % k ≠ 0) (ha : a ≠ 0) (hb : b ≠ 0) : spT (a * b) k = spT a k + spT b k ∧ spL (a * b) k = spL a k * spL b k := by
  obtain ⟨a1, a2⟩ := sp_spec a k hk ha
  obtain ⟨b1, b2⟩ := sp_spec b k hk hb
  have e : spL a k * spL b k * k ^ (spT a k + spT b k) = a * b := by
    rw [Int.pow_add]
    calc spL a k * spL b k * (k ^ spT a k * k ^ spT b k) = (spL a k * k ^ spT a k) * (spL b k * k ^ spT b k) := by ac_rfl
      _ = a * b := by rw [a1, b1]
  obtain ⟨h1, h2⟩ := sp_is (a * b) k _ _ hk (Int.mul_ne_zero ha hb) e (hp _ _ a2 b2)
  exact ⟨h1.symm, h2.symm⟩

theorem o2_mul (a b : Int) (ha : a ≠ 0) (hb : b ≠ 0) : o2 (a * b) = o2 a + o2 b := by
  unfold o2; rw [(sp_mul 2 a b (by omega) mod2_mul ha hb).1]; omega

theorem odd_mul (a b : Int) (ha : a ≠ 0) (hb : b ≠ 0) : odd (a * b) = odd a * odd b ∧ o5 (a * b) = o5 a + o5 b := by
  unfold odd o5
  rw [(sp_mul 2 a b (by omega) mod2_mul ha hb).2]
  have h := sp_mul 5 (spL a 2) (spL b 2) (by omega) mod5_mul (spL_ne a 2 (by omega) ha) (spL_ne b 2 (by omega) hb)
  rw [h.1, h.2]
  exact ⟨rfl, by omega⟩

theorem odd_ne (n : Int) (h : n ≠ 0) : odd n ≠ 0 := spL_ne _ 5 (by omega) (spL_ne n 2 (by omega) h)

/-- A number is what is left of it, by its twos and fives. -/
theorem odd_spec (n : Int) (h : n ≠ 0) : odd n * 5 ^ (o5 n).toNat * 2 ^ (o2 n).toNat = n ∧ odd n % 2 ≠ 0 ∧ odd n % 5 ≠ 0 := by
  have hL := spL_ne n 2 (by omega) h
  obtain ⟨a1, a2⟩ := sp_spec n 2 (by omega) h
  obtain ⟨b1, b2⟩ := sp_spec (spL n 2) 5 (by omega) hL
  refine ⟨?_, ?_, b2⟩
  · unfold odd o5 o2
    rw [Int.toNat_natCast, Int.toNat_natCast, b1, a1]
  · intro h2
    apply a2
    rw [← b1]
    show (odd n * 5 ^ spT (spL n 2) 5) % 2 = 0
    rw [Int.mul_emod, h2]; simp

theorem pow5_mod2 : ∀ t : Nat, (5 : Int) ^ t % 2 ≠ 0
  | 0 => by decide
  | t + 1 => by rw [Int.pow_succ]; exact mod2_mul _ _ (pow5_mod2 t) (by decide)

/-- What has the properties of a number taken apart is it. -/
theorem odd_is (n l : Int) (s t : Nat) (h : n ≠ 0) (e : l * 5 ^ t * 2 ^ s = n) (h2 : l % 2 ≠ 0) (h5 : l % 5 ≠ 0) : odd n = l ∧ o5 n = t ∧ o2 n = s := by
  have hp : (5 : Int) ^ t % 2 ≠ 0 := pow5_mod2 t
  obtain ⟨h3, h4⟩ := sp_is n 2 (l * 5 ^ t) s (by omega) h e (mod2_mul _ _ h2 hp)
  have hL := spL_ne n 2 (by omega) h
  obtain ⟨h6, h7⟩ := sp_is (spL n 2) 5 l t (by omega) hL h4 h5
  unfold odd o5 o2
  exact ⟨h7.symm, by rw [← h6], by rw [← h3]⟩

theorem odd_neg (n : Int) (h : n ≠ 0) : odd (-n) = -odd n ∧ o5 (-n) = o5 n ∧ o2 (-n) = o2 n := by
  obtain ⟨e, h2, h5⟩ := odd_spec n h
  have := odd_is (-n) (-odd n) (o2 n).toNat (o5 n).toNat (by omega) (by rw [Int.neg_mul, Int.neg_mul, e]) (by omega) (by omega)
  obtain ⟨a, b, c⟩ := this
  have p2 : 0 ≤ o2 n := Int.natCast_nonneg _
  have p5 : 0 ≤ o5 n := Int.natCast_nonneg _
  exact ⟨a, by omega, by omega⟩

theorem odd_pos (n : Int) (h : 1 ≤ n) : 1 ≤ odd n := by
  obtain ⟨e, h2, h5⟩ := odd_spec n (by omega)
  rcases Int.lt_or_le 0 (odd n) with hp | hp
  · omega
  · exfalso
    have h3 : (0 : Int) ≤ 5 ^ (o5 n).toNat := Int.pow_nonneg (by omega)
    have h4 : (0 : Int) ≤ 2 ^ (o2 n).toNat := Int.pow_nonneg (by omega)
    have h5 := Int.mul_nonpos_of_nonpos_of_nonneg (Int.mul_nonpos_of_nonpos_of_nonneg hp h3) h4
    omega

theorem odd_abs (n : Int) (h : n ≠ 0) : odd (n.natAbs : Int) = ((odd n).natAbs : Int) ∧ o5 (n.natAbs : Int) = o5 n ∧ o2 (n.natAbs : Int) = o2 n := by
  rcases Int.lt_or_le n 0 with hn | hn
  · have e : (n.natAbs : Int) = -n := by omega
    obtain ⟨a, b, c⟩ := odd_neg n h
    have hp := odd_pos (-n) (by omega)
    rw [e]
    exact ⟨by omega, b, c⟩
  · have e : (n.natAbs : Int) = n := by omega
    have hp := odd_pos n (by omega)
    rw [e]
    exact ⟨by omega, rfl, rfl⟩

theorem odd_le (n : Int) (h : n ≠ 0) : (odd n).natAbs ≤ n.natAbs :=
  Nat.le_trans (spL_le _ 5 (by omega) (spL_ne n 2 (by omega) h)) (spL_le n 2 (by omega) h)

theorem o2_lt (n : Int) (h : n ≠ 0) (hb : n.natAbs ≤ 9223372036854775807) : 0 ≤ o2 n ∧ o2 n < 63 := by
  have := spT_lt n 2 (by omega) h (by omega)
  unfold o2; omega
theorem o5_lt (n : Int) (h : n ≠ 0) (hb : n.natAbs ≤ 9223372036854775807) : 0 ≤ o5 n ∧ o5 n < 63 := by
  have := spT_lt (spL n 2) 5 (by omega) (spL_ne n 2 (by omega) h) (by have := spL_le n 2 (by omega) h; omega)
  unfold o5; omega

/-- The quotient of two numbers that are not 0, taken apart. -/
def canon (num den t : Int) : Pt :=
  ⟨den.sign * (odd num).tdiv (Int.gcd (odd num) (odd den)), ((odd den).natAbs : Int).tdiv (Int.gcd (odd num) (odd den)), o2 num - o2 den + t, o5 num - o5 den + t⟩

theorem gcd_abs_r (a b : Int) : Int.gcd a (b.natAbs : Int) = Int.gcd a b := by
  unfold Int.gcd; simp

theorem tdiv_le (a : Int) (g : Nat) : (a.tdiv g).natAbs ≤ a.natAbs := by
  rw [Int.natAbs_tdiv]; exact Nat.div_le_self _ _

theorem apart_eq (n t : Int) (h : n ≠ 0) : apartP n t = ⟨odd n, 1, o2 n + t, o5 n + t⟩ := by
  unfold apartP; rw [if_neg h]; rfl

theorem turn_apart (n : Int) (h : n ≠ 0) : turnP (apartP n 0) = ⟨n.sign, ((odd n).natAbs : Int), -o2 n, -o5 n⟩ := by
  rw [apart_eq n 0 h]
  unfold turnP
  rcases Int.lt_or_le n 0 with hn | hn
  · have hp := odd_pos (-n) (by omega)
    rw [(odd_neg n h).1] at hp
    rw [if_pos (show odd n < 0 by omega)]
    have : n.sign = -1 := Int.sign_eq_neg_one_of_neg hn
    rw [this]
    have e : ((odd n).natAbs : Int) = -odd n := by omega
    rw [e]
    simp
  · have hp := odd_pos n (by omega)
    rw [if_neg (show ¬ odd n < 0 by omega)]
    have : n.sign = 1 := Int.sign_eq_one_of_pos (by omega)
    rw [this]
    have e : ((odd n).natAbs : Int) = odd n := by omega
    rw [e]
    simp

theorem make_canon (num den ten : Int) (h1 : num.natAbs ≤ 9223372036854775807) (h2 : den.natAbs ≤ 9223372036854775807) (hn : num ≠ 0) (hd : den ≠ 0) : makeG num den ten = formP (canon num den (near ten)) := by
  unfold makeG
  rw [if_neg (by omega), if_neg hd, turn_apart den hd, apart_eq num (near ten) hn]
  have hs : den.sign = 1 ∨ den.sign = -1 := by
    rcases Int.lt_or_le den 0 with h | h
    · exact .inr (Int.sign_eq_neg_one_of_neg h)
    · exact .inl (Int.sign_eq_one_of_pos (by omega))
  have hg1 : Int.gcd den.sign 1 = 1 := by simp
  have eN : timesN ⟨odd num, 1, o2 num + near ten, o5 num + near ten⟩ ⟨den.sign, ((odd den).natAbs : Int), -o2 den, -o5 den⟩ = (odd num).tdiv (Int.gcd (odd num) (odd den)) * den.sign := by
    unfold timesN
    simp only [gcd_abs_r, hg1]
    simp
  have eD : timesD ⟨odd num, 1, o2 num + near ten, o5 num + near ten⟩ ⟨den.sign, ((odd den).natAbs : Int), -o2 den, -o5 den⟩ = ((odd den).natAbs : Int).tdiv (Int.gcd (odd num) (odd den)) := by
    unfold timesD
    simp only [gcd_abs_r, hg1]
    simp
  have fN : ((odd num).tdiv (Int.gcd (odd num) (odd den)) * den.sign).natAbs ≤ 9223372036854775807 := by
    have a1 := tdiv_le (odd num) (Int.gcd (odd num) (odd den))
    have a2 := odd_le num hn
    rw [Int.natAbs_mul]
    have e1 : den.sign.natAbs = 1 := by rcases hs with e | e <;> rw [e] <;> rfl
    rw [e1, Nat.mul_one]; omega
  have fD : (((odd den).natAbs : Int).tdiv (Int.gcd (odd num) (odd den))).natAbs ≤ 9223372036854775807 := by
    have a1 := tdiv_le ((odd den).natAbs : Int) (Int.gcd (odd num) (odd den))
    have a2 := odd_le den hd
    omega
  unfold joinP timesP
  rw [eN, eD, if_pos ⟨fN, fD⟩]
  simp only [joinP]
  unfold canon
  rw [Int.mul_comm den.sign]
  congr 2 <;> omega

theorem make_of_zero (den ten : Int) (h2 : den.natAbs ≤ 9223372036854775807) (hd : den ≠ 0) : makeG 0 den ten = ⟨0, 1, 0, 0⟩ := by
  unfold makeG
  rw [if_neg (by omega), if_neg hd, turn_apart den hd]
  have e0 : apartP 0 (near ten) = ⟨0, 1, near ten, near ten⟩ := by unfold apartP; rw [if_pos rfl]
  rw [e0]
  have hg1 : Int.gcd den.sign 1 = 1 := by simp
  have eN : timesN ⟨0, 1, near ten, near ten⟩ ⟨den.sign, ((odd den).natAbs : Int), -o2 den, -o5 den⟩ = 0 := by
    unfold timesN; simp
  have hne := odd_ne den hd
  have eD : timesD ⟨0, 1, near ten, near ten⟩ ⟨den.sign, ((odd den).natAbs : Int), -o2 den, -o5 den⟩ = 1 := by
    unfold timesD
    simp only [hg1]
    simp
    exact Int.ediv_self (by omega)
  unfold joinP timesP
  rw [eN, eD, if_pos ⟨by decide, by decide⟩]
  simp only [joinP, formP, if_true]

theorem canon_scale (a b k t : Int) (ha : a ≠ 0) (hb : b ≠ 0) (hk : 1 ≤ k) : canon (a * k) (b * k) t = canon a b t := by
  have hp := odd_pos k hk
  obtain ⟨a1, a5⟩ := odd_mul a k ha (by omega)
  obtain ⟨b1, b5⟩ := odd_mul b k hb (by omega)
  have a2 := o2_mul a k ha (by omega)
  have b2 := o2_mul b k hb (by omega)
  have hg : Int.gcd (odd a * odd k) (odd b * odd k) = Int.gcd (odd a) (odd b) * (odd k).natAbs := Int.gcd_mul_right _ _ _
  have hgc : ((Int.gcd (odd a) (odd b) * (odd k).natAbs : Nat) : Int) = (Int.gcd (odd a) (odd b) : Nat) * odd k := by
    rw [Int.natCast_mul, show (((odd k).natAbs : Nat) : Int) = odd k from by omega]
  have hs : (b * k).sign = b.sign := by rw [Int.sign_mul, Int.sign_eq_one_of_pos (show 0 < k by omega), Int.mul_one]
  have hn : (((odd b * odd k).natAbs : Nat) : Int) = ((odd b).natAbs : Int) * odd k := by
    rw [Int.natAbs_mul, Int.natCast_mul, show (((odd k).natAbs : Nat) : Int) = odd k from by omega]
  unfold canon
  rw [a1, a5, b1, b5, a2, b2, hg, hgc, hs, hn, Int.mul_tdiv_mul_of_pos_left _ _ (show 0 < odd k by omega), Int.mul_tdiv_mul_of_pos_left _ _ (show 0 < odd k by omega)]
  congr 1 <;> omega

theorem ten_apart : odd 10 = 1 ∧ o5 10 = 1 ∧ o2 10 = 1 := odd_is 10 1 1 1 (by decide) (by decide) (by decide) (by decide)

theorem canon_ten (a b t : Int) (ha : a ≠ 0) : canon (a * 10) b (t - 1) = canon a b t := by
  obtain ⟨t1, t5, t2⟩ := ten_apart
  obtain ⟨a1, a5⟩ := odd_mul a 10 ha (by omega)
  have a2 := o2_mul a 10 ha (by omega)
  rw [t1, Int.mul_one] at a1
  unfold canon
  rw [a1, a5, a2, t5, t2]
  congr 1 <;> omega

theorem canon_neg (a b t : Int) (hb : b ≠ 0) : canon a (-b) t = ⟨-(canon a b t).n, (canon a b t).d, (canon a b t).e2, (canon a b t).e5⟩ := by
  obtain ⟨b1, b5, b2⟩ := odd_neg b hb
  have hg : Int.gcd (odd a) (-odd b) = Int.gcd (odd a) (odd b) := by simp
  unfold canon
  rw [b1, b5, b2, hg, Int.sign_neg, Int.natAbs_neg, Int.neg_mul]

def Got.neg (g : Got) : Got := ⟨-g.n, g.d, g.t, g.e⟩

theorem formAt_neg (N d t : Int) : formAt (-N) d t = (formAt N d t).neg := by
  unfold formAt
  by_cases hf : t < -1000 ∨ 1000 < t
  · rw [if_pos hf, if_pos hf]; rfl
  rw [if_neg hf, if_neg hf, Int.natAbs_neg]
  by_cases hN : N.natAbs ≤ 9223372036854775807
  · rw [if_pos hN, if_pos hN]; rfl
  · rw [if_neg hN, if_neg hN]; rfl

theorem form_neg (p : Pt) : formP ⟨-p.n, p.d, p.e2, p.e5⟩ = (formP p).neg := by
  unfold formP
  simp only []
  by_cases h0 : p.n = 0
  · rw [if_pos h0, if_pos (by omega)]; rfl
  rw [if_neg h0, if_neg (by omega)]
  by_cases hle : p.e2 ≤ p.e5
  · rw [if_pos hle, if_pos hle, Int.neg_mul, formAt_neg]
  · rw [if_neg hle, if_neg hle, Int.neg_mul, formAt_neg]

theorem near_same (t : Int) (h1 : -2000 ≤ t) (h2 : t ≤ 2000) : near t = t := by
  unfold near; rw [if_neg (by omega), if_neg (by omega)]

theorem make_scale (a b k t : Int) (hb : b ≠ 0) (hk : 1 ≤ k) (h1 : (a * k).natAbs ≤ 9223372036854775807) (h2 : (b * k).natAbs ≤ 9223372036854775807) : makeG (a * k) (b * k) t = makeG a b t := by
  have q1 : a.natAbs ≤ 9223372036854775807 := by
    have : a.natAbs * 1 ≤ a.natAbs * k.natAbs := Nat.mul_le_mul_left _ (by omega)
    rw [Int.natAbs_mul] at h1; omega
  have q2 : b.natAbs ≤ 9223372036854775807 := by
    have : b.natAbs * 1 ≤ b.natAbs * k.natAbs := Nat.mul_le_mul_left _ (by omega)
    rw [Int.natAbs_mul] at h2; omega
  have hbk : b * k ≠ 0 := Int.mul_ne_zero hb (by omega)
  by_cases ha : a = 0
  · subst ha
    rw [Int.zero_mul, make_of_zero _ _ h2 hbk, make_of_zero _ _ q2 hb]
  · rw [make_canon _ _ _ h1 h2 (Int.mul_ne_zero ha (by omega)) hbk, make_canon _ _ _ q1 q2 ha hb, canon_scale a b k _ ha hb hk]

theorem make_ten (a b t : Int) (hb : b ≠ 0) (h1 : (a * 10).natAbs ≤ 9223372036854775807) (h2 : b.natAbs ≤ 9223372036854775807) (ht : -1000 ≤ t) (ht' : t ≤ 1000) : makeG (a * 10) b (t - 1) = makeG a b t := by
  by_cases ha : a = 0
  · subst ha
    rw [Int.zero_mul, make_of_zero _ _ h2 hb, make_of_zero _ _ h2 hb]
  · rw [make_canon _ _ _ h1 h2 (by omega) hb, make_canon _ _ _ (by omega) h2 ha hb, near_same _ (by omega) (by omega), near_same _ (by omega) (by omega), canon_ten a b t ha]

theorem make_neg (a b t : Int) (hb : b ≠ 0) (h1 : a.natAbs ≤ 9223372036854775807) (h2 : b.natAbs ≤ 9223372036854775807) : makeG a (-b) t = (makeG a b t).neg := by
  by_cases ha : a = 0
  · subst ha
    rw [make_of_zero _ _ (by omega) (by omega), make_of_zero _ _ h2 hb]; rfl
  · rw [make_canon _ _ _ h1 (by omega) ha (by omega), make_canon _ _ _ h1 h2 ha hb, canon_neg a b _ hb, form_neg]

theorem formAt_err (N d t : Int) : (formAt N d t).e = 0 ∨ (formAt N d t).e = 10 := by
  unfold formAt
  by_cases hf : t < -1000 ∨ 1000 < t
  · rw [if_pos hf]; exact .inr rfl
  rw [if_neg hf]
  by_cases hN : N.natAbs ≤ 9223372036854775807
  · rw [if_pos hN]; exact .inl rfl
  · rw [if_neg hN]; exact .inr rfl

theorem form_err (p : Pt) : (formP p).e = 0 ∨ (formP p).e = 10 := by
  unfold formP
  by_cases h0 : p.n = 0
  · rw [if_pos h0]; exact .inl rfl
  rw [if_neg h0]
  by_cases hle : p.e2 ≤ p.e5
  · rw [if_pos hle]; exact formAt_err _ _ _
  · rw [if_neg hle]; exact formAt_err _ _ _

theorem join_err : ∀ (k : Nat) (x y : Pt), (joinP x k y).e = 0 ∨ (joinP x k y).e = 10
  | 0, x, y => form_err x
  | k + 1, x, y => by
    unfold joinP
    cases timesP x y with
    | none => exact .inr rfl
    | some z => exact join_err k z y

theorem make_err (a b t : Int) (hb : b ≠ 0) (h1 : a.natAbs ≤ 9223372036854775807) (h2 : b.natAbs ≤ 9223372036854775807) : (makeG a b t).e = 0 ∨ (makeG a b t).e = 10 := by
  unfold makeG
  rw [if_neg (by omega), if_neg hb]
  exact join_err _ _ _

theorem formAt_small (N d t : Int) : (formAt N d t).n.natAbs ≤ 9223372036854775807 := by
  unfold formAt
  by_cases hf : t < -1000 ∨ 1000 < t
  · rw [if_pos hf]; decide
  rw [if_neg hf]
  by_cases hN : N.natAbs ≤ 9223372036854775807
  · rw [if_pos hN]; exact hN
  · rw [if_neg hN]; decide

theorem form_small (p : Pt) : (formP p).n.natAbs ≤ 9223372036854775807 := by
  unfold formP
  by_cases h0 : p.n = 0
  · rw [if_pos h0]; decide
  rw [if_neg h0]
  by_cases hle : p.e2 ≤ p.e5
  · rw [if_pos hle]; exact formAt_small _ _ _
  · rw [if_neg hle]; exact formAt_small _ _ _

theorem join_small : ∀ (k : Nat) (x y : Pt), (joinP x k y).n.natAbs ≤ 9223372036854775807
  | 0, x, y => form_small x
  | k + 1, x, y => by
    unfold joinP
    cases timesP x y with
    | none => exact (by decide : over.n.natAbs ≤ 9223372036854775807)
    | some z => exact join_small k z y

theorem make_small (a b t : Int) : (makeG a b t).n.natAbs ≤ 9223372036854775807 := by
  unfold makeG
  by_cases ha : a < -9223372036854775807 ∨ b < -9223372036854775807
  · rw [if_pos ha]; decide
  rw [if_neg ha]
  by_cases h0 : b = 0
  · rw [if_pos h0]; decide
  rw [if_neg h0]
  exact join_small _ _ _

theorem tmod_in (x m : Int) (hm : 0 < m) : -m < x.tmod m ∧ x.tmod m < m := by
  have h1 := Int.natAbs_tmod x m
  have h2 : x.natAbs % m.natAbs < m.natAbs := Nat.mod_lt _ (by omega)
  omega

end Go.Proofs.YtpmibcdmaaagjaaDoor.Frac

namespace Go.Proofs.YtpmibcdmaaagjaaDoor.Frac
open Go.Proofs.YtpmibcdmaaagjaaDoor.Whole
set_option linter.unusedVariables false
set_option linter.unusedSimpArgs false

/-- The document's number taken apart: sign, above, below, twos and fives. -/
structure Sp where
  s : Int
  p : Int
  q : Int
  two : Int
  five : Int

def Sp.Ok (B : Int) (x : Sp) : Prop := (x.s = 1 ∨ x.s = -1) ∧ 1 ≤ x.p ∧ x.p ≤ 9223372036854775807 ∧ 1 ≤ x.q ∧ x.q ≤ 9223372036854775807 ∧ -B ≤ x.two ∧ x.two ≤ B ∧ -B ≤ x.five ∧ x.five ≤ B

theorem Sp.Ok.more {B C : Int} {x : Sp} (h : x.Ok B) (hc : B ≤ C) : x.Ok C := by
  obtain ⟨h0, h1, h2, h3, h4, h5, h6, h7, h8⟩ := h
  exact ⟨h0, h1, h2, h3, h4, by omega, by omega, by omega, by omega⟩

/-- Of two numbers above 0, with a sign. -/
def ofA (s A B : Int) : Sp := ⟨s, (spL (spL A 2) 5).tdiv (Int.gcd (spL (spL A 2) 5) (spL (spL B 2) 5)), (spL (spL B 2) 5).tdiv (Int.gcd (spL (spL A 2) 5) (spL (spL B 2) 5)), spT A 2 - spT B 2, spT (spL A 2) 5 - spT (spL B 2) 5⟩
def ofS (num den : Int) : Sp := ofA (num.sign * den.sign) num.natAbs den.natAbs
def leastS (x : Sp) : Int := if x.two < x.five then x.two else x.five
def topS (x : Sp) : Int := if x.two < x.five then x.p * 5 ^ (x.five - x.two).toNat else x.p * 2 ^ (x.two - x.five).toNat
def formS (x : Sp) (ten : Int) : Got := if 9223372036854775807 < topS x then over else if ten < -2000 ∨ 2000 < ten ∨ ten + leastS x < -1000 ∨ 1000 < ten + leastS x then over else ⟨x.s * topS x, x.q, ten + leastS x, 0⟩
def makeR (num den ten : Int) : Got := if num < -9223372036854775807 ∨ den < -9223372036854775807 then ⟨0, 0, 0, 1⟩ else if den = 0 then ⟨0, 0, 0, 11⟩ else if num = 0 then ⟨0, 1, 0, 0⟩ else formS (ofS num den) ten
def rightR (n d t : Int) : Bool := if n = 0 then decide (d = 1) && decide (t = 0) else decide (-9223372036854775807 ≤ n) && decide (1 ≤ d) && decide (d % 2 ≠ 0) && decide (d % 5 ≠ 0) && decide (n % 10 ≠ 0) && decide (Int.gcd n d = 1) && decide (-1000 ≤ t) && decide (t ≤ 1000)
def timesR (x y : Sp) : Option Sp :=
  if x.p.tdiv (Int.gcd x.p y.q) * y.p.tdiv (Int.gcd y.p x.q) ≤ 9223372036854775807 ∧ x.q.tdiv (Int.gcd y.p x.q) * y.q.tdiv (Int.gcd x.p y.q) ≤ 9223372036854775807 then
    some ⟨x.s * y.s, x.p.tdiv (Int.gcd x.p y.q) * y.p.tdiv (Int.gcd y.p x.q), x.q.tdiv (Int.gcd y.p x.q) * y.q.tdiv (Int.gcd x.p y.q), x.two + y.two, x.five + y.five⟩ else none
def timesF (x y : Sp) (ten : Int) : Got := match timesR x y with
  | some z => formS z ten
  | none => over
def turnS (x : Sp) : Sp := ⟨x.s, x.q, x.p, -x.two, -x.five⟩
def mulR (n1 d1 t1 n2 d2 t2 : Int) : Got := if rightR n1 d1 t1 = false ∨ rightR n2 d2 t2 = false then ⟨0, 0, 0, 1⟩ else if n1 = 0 ∨ n2 = 0 then ⟨0, 1, 0, 0⟩ else timesF (ofS n1 d1) (ofS n2 d2) (t1 + t2)
def divR (n1 d1 t1 n2 d2 t2 : Int) : Got := if rightR n1 d1 t1 = false ∨ rightR n2 d2 t2 = false then ⟨0, 0, 0, 1⟩ else if n2 = 0 then ⟨0, 0, 0, 11⟩ else if n1 = 0 then ⟨0, 1, 0, 0⟩ else timesF (ofS n1 d1) (turnS (ofS n2 d2)) (t1 - t2)
/-- So many products, with y from x on; none, if one goes beyond the limits. -/
def powS (x : Sp) : Nat → Sp → Option Sp
  | 0, _ => some x
  | k + 1, y => if x.p * y.p ≤ 9223372036854775807 ∧ x.q * y.q ≤ 9223372036854775807 then powS ⟨x.s * y.s, x.p * y.p, x.q * y.q, x.two, x.five⟩ k y else none
def powF (y : Sp) (k : Nat) (ten : Int) : Got := match powS ⟨1, 1, 1, y.two * k, y.five * k⟩ k y with
  | some z => formS z ten
  | none => over
def powR (n d t k : Int) : Got := if rightR n d t = false ∨ k < -99 ∨ 99 < k then ⟨0, 0, 0, 1⟩ else if n = 0 ∧ k < 0 then ⟨0, 0, 0, 11⟩ else if k = 0 then ⟨1, 1, 0, 0⟩ else if n = 0 then ⟨n, d, t, 0⟩ else if k < 0 then powF (turnS (ofS n d)) (-k).toNat (t * k) else powF (ofS n d) k.toNat (t * k)

theorem ofA_ok (s A B : Int) (hs : s = 1 ∨ s = -1) (hA : 1 ≤ A) (hA' : A ≤ 9223372036854775807) (hB : 1 ≤ B) (hB' : B ≤ 9223372036854775807) : (ofA s A B).Ok 63 := by
  have a1 := odd_pos A hA
  have b1 := odd_pos B hB
  have a2 := odd_le A (by omega)
  have b2 := odd_le B (by omega)
  have a3 := o2_lt A (by omega) (by omega)
  have b3 := o2_lt B (by omega) (by omega)
  have a5 := o5_lt A (by omega) (by omega)
  have b5 := o5_lt B (by omega) (by omega)
  have t1 := tdiv_pos (odd A) (Int.gcd (odd A) (odd B)) a1 (Int.gcd_dvd_left _ _)
  have t2 := tdiv_pos (odd B) (Int.gcd (odd A) (odd B)) b1 (Int.gcd_dvd_right _ _)
  have t3 := tdiv_le (odd A) (Int.gcd (odd A) (odd B))
  have t4 := tdiv_le (odd B) (Int.gcd (odd A) (odd B))
  refine ⟨hs, t1, ?_, t2, ?_, ?_, ?_, ?_, ?_⟩
  · show (odd A).tdiv (Int.gcd (odd A) (odd B)) ≤ _; omega
  · show (odd B).tdiv (Int.gcd (odd A) (odd B)) ≤ _; omega
  · show -63 ≤ o2 A - o2 B; omega
  · show o2 A - o2 B ≤ 63; omega
  · show -63 ≤ o5 A - o5 B; omega
  · show o5 A - o5 B ≤ 63; omega

theorem sign_cases (n : Int) (h : n ≠ 0) : n.sign = 1 ∨ n.sign = -1 := by
  rcases Int.lt_or_le n 0 with h' | h'
  · exact .inr (Int.sign_eq_neg_one_of_neg h')
  · exact .inl (Int.sign_eq_one_of_pos (by omega))

theorem sign_mul_cases (a b : Int) (ha : a = 1 ∨ a = -1) (hb : b = 1 ∨ b = -1) : a * b = 1 ∨ a * b = -1 := by
  rcases ha with rfl | rfl <;> rcases hb with rfl | rfl <;> decide

theorem ofS_ok (n d : Int) (hn : n ≠ 0) (hd : d ≠ 0) (h1 : n.natAbs ≤ 9223372036854775807) (h2 : d.natAbs ≤ 9223372036854775807) : (ofS n d).Ok 63 :=
  ofA_ok _ _ _ (sign_mul_cases _ _ (sign_cases n hn) (sign_cases d hd)) (by omega) (by omega) (by omega) (by omega)

theorem turnS_ok {B : Int} {x : Sp} (h : x.Ok B) : (turnS x).Ok B := by
  obtain ⟨h0, h1, h2, h3, h4, h5, h6, h7, h8⟩ := h
  exact ⟨h0, h3, h4, h1, h2, by show -B ≤ -x.two; omega, by show -x.two ≤ B; omega, by show -B ≤ -x.five; omega, by show -x.five ≤ B; omega⟩

end Go.Proofs.YtpmibcdmaaagjaaDoor.Frac

namespace Go.Proofs.YtpmibcdmaaagjaaDoor.Frac
open Go.Proofs.YtpmibcdmaaagjaaDoor.Whole
set_option linter.unusedVariables false
set_option linter.unusedSimpArgs false

theorem tdiv_neg_l (a g : Int) : (-a).tdiv g = -(a.tdiv g) := Int.neg_tdiv _ _

theorem sign_odd (n : Int) (h : n ≠ 0) : odd n = n.sign * ((odd n).natAbs : Int) := by
  rcases Int.lt_or_le n 0 with hn | hn
  · have hp := odd_pos (-n) (by omega)
    rw [(odd_neg n h).1] at hp
    rw [Int.sign_eq_neg_one_of_neg hn]; omega
  · have hp := odd_pos n (by omega)
    rw [Int.sign_eq_one_of_pos (by omega)]; omega

theorem gcd_abs (a b : Int) : Int.gcd (a.natAbs : Int) (b.natAbs : Int) = Int.gcd a b := by
  unfold Int.gcd; simp

theorem sign_tdiv (s a g : Int) (hs : s = 1 ∨ s = -1) : (s * a).tdiv g = s * a.tdiv g := by
  rcases hs with rfl | rfl
  · simp
  · rw [show (-1 : Int) * a = -a from by omega, tdiv_neg_l]; omega

theorem ofS_eq (num den : Int) (hn : num ≠ 0) (hd : den ≠ 0) : ofS num den = ⟨num.sign * den.sign, ((odd num).natAbs : Int).tdiv (Int.gcd (odd num) (odd den)), ((odd den).natAbs : Int).tdiv (Int.gcd (odd num) (odd den)), o2 num - o2 den, o5 num - o5 den⟩ := by
  obtain ⟨a1, a5, a2⟩ := odd_abs num hn
  obtain ⟨b1, b5, b2⟩ := odd_abs den hd
  have e : ofS num den = ⟨num.sign * den.sign, (odd (num.natAbs : Int)).tdiv (Int.gcd (odd (num.natAbs : Int)) (odd (den.natAbs : Int))), (odd (den.natAbs : Int)).tdiv (Int.gcd (odd (num.natAbs : Int)) (odd (den.natAbs : Int))), o2 (num.natAbs : Int) - o2 (den.natAbs : Int), o5 (num.natAbs : Int) - o5 (den.natAbs : Int)⟩ := rfl
  rw [e, a1, a5, a2, b1, b5, b2, gcd_abs]

theorem canon_of (num den t : Int) (hn : num ≠ 0) (hd : den ≠ 0) : canon num den t = ⟨(ofS num den).s * (ofS num den).p, (ofS num den).q, (ofS num den).two + t, (ofS num den).five + t⟩ := by
  rw [ofS_eq num den hn hd]
  unfold canon
  have e : (odd num).tdiv (Int.gcd (odd num) (odd den)) = num.sign * ((odd num).natAbs : Int).tdiv (Int.gcd (odd num) (odd den)) := by
    have := sign_tdiv num.sign ((odd num).natAbs : Int) (Int.gcd (odd num) (odd den)) (sign_cases num hn)
    rw [← sign_odd num hn] at this
    exact this
  rw [e, ← Int.mul_assoc, Int.mul_comm den.sign]

theorem pow_pos (p q : Int) (k : Nat) (hp : 1 ≤ p) (hq : 1 ≤ q) : 1 ≤ p * q ^ k := by
  have h1 : 1 ≤ q ^ k := by
    have := Int.pow_pos (n := q) (m := k) (by omega)
    omega
  have := Int.mul_le_mul hp h1 (by omega) (by omega)
  omega

theorem top_pos (x : Sp) (h : 1 ≤ x.p) : 1 ≤ topS x := by
  unfold topS
  split
  · exact pow_pos _ _ _ h (by omega)
  · exact pow_pos _ _ _ h (by omega)

/-- The two ways to say the form. -/
theorem form_formS (x : Sp) (ten : Int) (hs : x.s = 1 ∨ x.s = -1) (hp : 1 ≤ x.p) (hl : topS x ≤ 9223372036854775807 → -1000 ≤ leastS x ∧ leastS x ≤ 1000) :
    formS x ten = formP ⟨x.s * x.p, x.q, x.two + ten, x.five + ten⟩ := by
  have ht := top_pos x hp
  have hn : x.s * x.p ≠ 0 := by rcases hs with h | h <;> rw [h] <;> omega
  have key : ∀ N : Int, N = x.s * topS x → formS x ten = formAt N x.q (leastS x + ten) := by
    intro N hN
    have ha : N.natAbs = (topS x).natAbs := by rw [hN]; rcases hs with h | h <;> rw [h] <;> omega
    unfold formS formAt
    by_cases h1 : 9223372036854775807 < topS x
    · rw [if_pos h1]
      by_cases h2 : leastS x + ten < -1000 ∨ 1000 < leastS x + ten
      · rw [if_pos h2]
      · rw [if_neg h2, if_neg (by omega)]
    · rw [if_neg h1]
      have := hl (by omega)
      by_cases h2 : leastS x + ten < -1000 ∨ 1000 < leastS x + ten
      · rw [if_pos h2, if_pos (by omega)]
      · rw [if_neg h2, if_neg (by omega), if_pos (by omega), hN, Int.add_comm ten]
  unfold formP
  simp only []
  rw [if_neg hn]
  unfold topS leastS at key
  by_cases hlt : x.two < x.five
  · rw [if_pos hlt, if_pos hlt] at key
    rw [if_pos (show x.two + ten ≤ x.five + ten by omega)]
    rw [show (x.five + ten - (x.two + ten)).toNat = (x.five - x.two).toNat from by omega]
    exact key _ (by rw [Int.mul_assoc])
  · rw [if_neg hlt, if_neg hlt] at key
    by_cases he : x.two = x.five
    · rw [if_pos (show x.two + ten ≤ x.five + ten by omega)]
      rw [show (x.five + ten - (x.two + ten)).toNat = 0 from by omega]
      rw [show x.two + ten = x.five + ten from by omega]
      refine key _ ?_
      rw [show (x.two - x.five).toNat = 0 from by omega]
      simp
    · rw [if_neg (show ¬ x.two + ten ≤ x.five + ten by omega)]
      rw [show (x.two + ten - (x.five + ten)).toNat = (x.two - x.five).toNat from by omega]
      exact key _ (by rw [Int.mul_assoc])

theorem least_in {B : Int} {x : Sp} (h : x.Ok B) (hB : B ≤ 1000) : -1000 ≤ leastS x ∧ leastS x ≤ 1000 := by
  obtain ⟨_, _, _, _, _, h1, h2, h3, h4⟩ := h
  unfold leastS
  split <;> omega

theorem formS_near (x : Sp) (ten : Int) (hx : x.Ok 900) : formS x (near ten) = formS x ten := by
  obtain ⟨_, _, _, _, _, h1, h2, h3, h4⟩ := hx
  have hl : -900 ≤ leastS x ∧ leastS x ≤ 900 := by unfold leastS; split <;> omega
  unfold near
  by_cases t1 : ten < -2000
  · rw [if_pos t1]
    unfold formS
    split
    · rfl
    · rw [if_pos (by omega), if_pos (by omega)]
  rw [if_neg t1]
  by_cases t2 : 2000 < ten
  · rw [if_pos t2]
    unfold formS
    split
    · rfl
    · rw [if_pos (by omega), if_pos (by omega)]
  · rw [if_neg t2]

theorem make_eq (num den ten : Int) (h1 : num ≤ 9223372036854775807) (h2 : den ≤ 9223372036854775807) : makeG num den ten = makeR num den ten := by
  by_cases ha : num < -9223372036854775807 ∨ den < -9223372036854775807
  · unfold makeG makeR; rw [if_pos ha, if_pos ha]
  by_cases hd : den = 0
  · unfold makeG makeR; rw [if_neg ha, if_neg ha, if_pos hd, if_pos hd]
  by_cases hn : num = 0
  · subst hn
    rw [make_of_zero den ten (by omega) hd]
    unfold makeR; rw [if_neg ha, if_neg hd, if_pos rfl]
  · have ok := ofS_ok num den hn hd (by omega) (by omega)
    rw [make_canon num den ten (by omega) (by omega) hn hd, canon_of num den _ hn hd]
    rw [← form_formS (ofS num den) (near ten) ok.1 ok.2.1 (fun _ => least_in ok (by omega))]
    rw [formS_near _ _ (ok.more (by omega))]
    unfold makeR; rw [if_neg ha, if_neg hd, if_neg hn]

theorem mul_mod0 (a b k : Int) (h : b % k = 0) : (a * b) % k = 0 := by
  rw [Int.mul_emod, h]; simp

theorem quo_mod (a k : Int) (g : Nat) (hg : (g : Int) ∣ a) (h : a % k ≠ 0) : a.tdiv g % k ≠ 0 := by
  rw [Int.tdiv_eq_ediv_of_dvd hg]
  intro hz
  apply h
  rw [← Int.mul_ediv_cancel' hg]
  exact mul_mod0 _ _ _ hz

theorem neg_mod (a k : Int) (h : a % k ≠ 0) : (-a) % k ≠ 0 := by
  intro hz
  apply h
  have h1 : k ∣ -a := Int.dvd_of_emod_eq_zero hz
  exact Int.emod_eq_zero_of_dvd (Int.dvd_neg.1 h1)

theorem abs_mod (a k : Int) (h : a % k ≠ 0) : (a.natAbs : Int) % k ≠ 0 := by
  rcases Int.lt_or_le a 0 with hn | hn
  · rw [show (a.natAbs : Int) = -a from by omega]; exact neg_mod a k h
  · rw [show (a.natAbs : Int) = a from by omega]; exact h

/-- What a quotient taken apart is like. -/
structure Fit (n d : Int) : Prop where
  n2 : n % 2 ≠ 0
  n5 : n % 5 ≠ 0
  d1 : 1 ≤ d
  d2 : d % 2 ≠ 0
  d5 : d % 5 ≠ 0
  co : Int.gcd n d = 1

theorem sign_mod (s a k : Int) (hs : s = 1 ∨ s = -1) (h : a % k ≠ 0) : (s * a) % k ≠ 0 := by
  rcases hs with rfl | rfl
  · simpa using h
  · rw [show (-1 : Int) * a = -a from by omega]; exact neg_mod a k h

theorem sign_gcd (s a b : Int) (hs : s = 1 ∨ s = -1) : Int.gcd (s * a) b = Int.gcd a b := by
  rcases hs with rfl | rfl
  · simp
  · rw [show (-1 : Int) * a = -a from by omega]; simp

theorem canon_fit (num den t : Int) (hn : num ≠ 0) (hd : den ≠ 0) : Fit (canon num den t).n (canon num den t).d := by
  obtain ⟨_, a2, a5⟩ := odd_spec num hn
  obtain ⟨_, b2, b5⟩ := odd_spec den hd
  have hs := sign_cases den hd
  have dl : ((Int.gcd (odd num) (odd den) : Nat) : Int) ∣ odd num := Int.gcd_dvd_left _ _
  have dr : ((Int.gcd (odd num) (odd den) : Nat) : Int) ∣ ((odd den).natAbs : Int) := by
    have := Int.gcd_dvd_right (odd num) (odd den)
    exact Int.dvd_natAbs.2 this
  have hp : 1 ≤ ((odd den).natAbs : Int) := by have := odd_ne den hd; omega
  refine ⟨sign_mod _ _ _ hs (quo_mod _ _ _ dl a2), sign_mod _ _ _ hs (quo_mod _ _ _ dl a5), tdiv_pos _ _ hp dr, quo_mod _ _ _ dr (abs_mod _ _ b2), quo_mod _ _ _ dr (abs_mod _ _ b5), ?_⟩
  show Int.gcd (den.sign * (odd num).tdiv (Int.gcd (odd num) (odd den))) (((odd den).natAbs : Int).tdiv (Int.gcd (odd num) (odd den))) = 1
  rw [sign_gcd _ _ _ hs, Int.tdiv_eq_ediv_of_dvd dl, Int.tdiv_eq_ediv_of_dvd dr]
  have := Int.gcd_ediv_gcd_ediv_gcd (i := odd num) (j := ((odd den).natAbs : Int)) (by rw [gcd_abs_r]; have := gcd_pos_r (odd num) ((odd den).natAbs : Int) hp; rw [gcd_abs_r] at this; omega)
  rw [gcd_abs_r] at this
  exact this

theorem gcd5 (d : Int) (h : d % 5 ≠ 0) : Int.gcd 5 d = 1 := by
  have h1 : Int.gcd 5 d ∣ 5 := Nat.gcd_dvd_left 5 d.natAbs
  have h2 : Int.gcd 5 d ≤ 5 := Nat.le_of_dvd (by omega) h1
  have h3 : ((Int.gcd 5 d : Nat) : Int) ∣ d := Int.gcd_dvd_right _ _
  rcases (show Int.gcd 5 d = 0 ∨ Int.gcd 5 d = 1 ∨ Int.gcd 5 d = 2 ∨ Int.gcd 5 d = 3 ∨ Int.gcd 5 d = 4 ∨ Int.gcd 5 d = 5 by omega) with e | e | e | e | e | e
  · rw [e] at h1; omega
  · exact e
  · rw [e] at h1; omega
  · rw [e] at h1; omega
  · rw [e] at h1; omega
  · rw [e] at h3
    exact absurd (Int.emod_eq_zero_of_dvd h3) h
theorem gcd2 (d : Int) (h : d % 2 ≠ 0) : Int.gcd 2 d = 1 := by
  have h1 : Int.gcd 2 d ∣ 2 := Nat.gcd_dvd_left 2 d.natAbs
  have h2 : Int.gcd 2 d ≤ 2 := Nat.le_of_dvd (by omega) h1
  have h3 : ((Int.gcd 2 d : Nat) : Int) ∣ d := Int.gcd_dvd_right _ _
  rcases (show Int.gcd 2 d = 0 ∨ Int.gcd 2 d = 1 ∨ Int.gcd 2 d = 2 by omega) with e | e | e
  · rw [e] at h1; omega
  · exact e
  · rw [e] at h3
    exact absurd (Int.emod_eq_zero_of_dvd h3) h

theorem co_mul (a b d : Int) (h1 : Int.gcd a d = 1) (h2 : Int.gcd b d = 1) : Int.gcd (a * b) d = 1 := by
  unfold Int.gcd at *
  rw [Int.natAbs_mul]
  exact Nat.Coprime.mul_left h1 h2

theorem co_pow (a d : Int) (k : Nat) (h : Int.gcd a d = 1) : Int.gcd (a ^ k) d = 1 := by
  induction k with
  | zero => simp
  | succ k ih => rw [Int.pow_succ]; exact co_mul _ _ _ ih h

theorem pow2_mod5 : ∀ t : Nat, (2 : Int) ^ t % 5 ≠ 0
  | 0 => by decide
  | t + 1 => by rw [Int.pow_succ]; exact mod5_mul _ _ (pow2_mod5 t) (by decide)

/-- A form tells a right frac. -/
theorem form_right (p : Pt) (h : Fit p.n p.d) (he : (formP p).e = 0) : (formP p).n ≠ 0 ∧ (formP p).n % 10 ≠ 0 ∧ (formP p).d = p.d ∧ Int.gcd (formP p).n p.d = 1 ∧ -1000 ≤ (formP p).t ∧ (formP p).t ≤ 1000 := by
  have hn : p.n ≠ 0 := fun h0 => h.n2 (by rw [h0]; decide)
  have at_ : ∀ N t : Int, N % 10 ≠ 0 → Int.gcd N p.d = 1 → (formAt N p.d t).e = 0 → (formAt N p.d t).n ≠ 0 ∧ (formAt N p.d t).n % 10 ≠ 0 ∧ (formAt N p.d t).d = p.d ∧ Int.gcd (formAt N p.d t).n p.d = 1 ∧ -1000 ≤ (formAt N p.d t).t ∧ (formAt N p.d t).t ≤ 1000 := by
    intro N t h10 hc hz
    unfold formAt at *
    split at hz
    · exact absurd hz (by decide)
    · rename_i hf
      rw [if_neg hf]
      split at hz
      · rename_i hf2
        rw [if_pos hf2]
        exact ⟨fun h0 => h10 (by show N % 10 = 0; rw [show N = 0 from h0]; decide), h10, rfl, hc, by show -1000 ≤ t; omega, by show t ≤ 1000; omega⟩
      · exact absurd hz (by decide)
  unfold formP at *
  rw [if_neg hn] at *
  by_cases hle : p.e2 ≤ p.e5
  · rw [if_pos hle] at *
    refine at_ _ _ ?_ (co_mul _ _ _ h.co (co_pow _ _ _ (gcd5 p.d h.d5))) he
    have := mod2_mul p.n (5 ^ (p.e5 - p.e2).toNat) h.n2 (pow5_mod2 _)
    omega
  · rw [if_neg hle] at *
    refine at_ _ _ ?_ (co_mul _ _ _ h.co (co_pow _ _ _ (gcd2 p.d h.d2))) he
    have := mod5_mul p.n (2 ^ (p.e2 - p.e5).toNat) h.n5 (pow2_mod5 _)
    omega

/-- What the document calls right, said at length. -/
structure Good (n d t : Int) : Prop where
  d1 : 1 ≤ d
  d2 : d % 2 ≠ 0
  d5 : d % 5 ≠ 0
  n10 : n % 10 ≠ 0
  co : Int.gcd n d = 1
  t1 : -1000 ≤ t
  t2 : t ≤ 1000

theorem right_good (n d t : Int) (hn : n ≠ 0) (hf : -9223372036854775807 ≤ n) : rightR n d t = true ↔ Good n d t := by
  unfold rightR
  rw [if_neg hn]
  constructor
  · intro h
    simp [hf] at h
    obtain ⟨⟨⟨⟨⟨⟨h1, h2⟩, h3⟩, h4⟩, h5⟩, h6⟩, h7⟩ := h
    exact ⟨h1, by omega, by omega, by omega, h5, h6, h7⟩
  · rintro ⟨h1, h2, h3, h4, h5, h6, h7⟩
    simp [hf, h1, h5, h6, h7]
    omega

/-- The parts of a right frac: nothing is left to be taken out. -/
theorem good_parts {n d t : Int} (hn : n ≠ 0) (h : Good n d t) : odd d = d ∧ o2 d = 0 ∧ o5 d = 0 ∧ Int.gcd (odd n) d = 1 ∧ (o2 n = 0 ∨ o5 n = 0) := by
  obtain ⟨a, b, c⟩ := odd_is d d 0 0 (by have := h.d1; omega) (by simp) h.d2 h.d5
  obtain ⟨e, _, _⟩ := odd_spec n hn
  refine ⟨a, by omega, by omega, ?_, ?_⟩
  · have hd : odd n ∣ n := ⟨5 ^ (o5 n).toNat * 2 ^ (o2 n).toNat, by rw [← Int.mul_assoc, e]⟩
    have h1 : Int.gcd (odd n) d ∣ Int.gcd n d := by
      have g1 : ((Int.gcd (odd n) d : Nat) : Int) ∣ n := Int.dvd_trans (Int.gcd_dvd_left _ _) hd
      exact Int.dvd_gcd g1 (Int.gcd_dvd_right _ _)
    rw [h.co] at h1
    exact Nat.dvd_one.1 h1
  · have p2 : 0 ≤ o2 n := Int.natCast_nonneg _
    have p5 : 0 ≤ o5 n := Int.natCast_nonneg _
    rcases (show o2 n = 0 ∨ o5 n = 0 ∨ (1 ≤ o2 n ∧ 1 ≤ o5 n) by omega) with h0 | h0 | ⟨h2, h5⟩
    · exact .inl h0
    · exact .inr h0
    · exfalso
      apply h.n10
      obtain ⟨i, hi⟩ : ∃ i, (o2 n).toNat = i + 1 := ⟨(o2 n).toNat - 1, by omega⟩
      obtain ⟨j, hj⟩ : ∃ j, (o5 n).toNat = j + 1 := ⟨(o5 n).toNat - 1, by omega⟩
      rw [hi, hj, Int.pow_succ, Int.pow_succ] at e
      have hm : odd n * (5 ^ j * 5) * (2 ^ i * 2) = 10 * (odd n * 5 ^ j * 2 ^ i) := by
        rw [show (10 : Int) = 5 * 2 from rfl]; ac_rfl
      have : n = 10 * (odd n * 5 ^ j * 2 ^ i) := e.symm.trans hm
      rw [this]; exact Int.mul_emod_right _ _

theorem parts_eq (n d t : Int) (hn : n ≠ 0) : partsP n d t = ⟨odd n, d, o2 n + t, o5 n + t⟩ := by
  unfold partsP; rw [apart_eq n t hn]

/-- A right frac's form is it. -/
theorem good_form {n d t : Int} (hn : n ≠ 0) (h : Good n d t) (hb : n.natAbs ≤ 9223372036854775807) : formP (partsP n d t) = ⟨n, d, t, 0⟩ := by
  obtain ⟨_, _, _, _, hz⟩ := good_parts hn h
  obtain ⟨e, _, _⟩ := odd_spec n hn
  have p2 : 0 ≤ o2 n := Int.natCast_nonneg _
  have p5 : 0 ≤ o5 n := Int.natCast_nonneg _
  rw [parts_eq n d t hn]
  unfold formP
  simp only []
  rw [if_neg (odd_ne n hn)]
  have t1 := h.t1
  have t2 := h.t2
  by_cases hle : o2 n + t ≤ o5 n + t
  · have h0 : o2 n = 0 := by omega
    rw [if_pos hle, show (o5 n + t - (o2 n + t)).toNat = (o5 n).toNat from by omega, h0]
    rw [h0] at e
    simp at e
    unfold formAt
    rw [e, if_neg (by omega), if_pos hb]
    simp
  · have h0 : o5 n = 0 := by omega
    rw [if_neg hle, show (o2 n + t - (o5 n + t)).toNat = (o2 n).toNat from by omega, h0]
    rw [h0] at e
    simp at e
    unfold formAt
    rw [e, if_neg (by omega), if_pos hb]
    simp

theorem canon_good {n d t : Int} (hn : n ≠ 0) (h : Good n d t) : canon n d t = partsP n d t := by
  obtain ⟨a, b, c, g, _⟩ := good_parts hn h
  have d1 := h.d1
  rw [parts_eq n d t hn]
  unfold canon
  rw [a, b, c, g, Int.sign_eq_one_of_pos (by omega)]
  have : ((d.natAbs : Nat) : Int) = d := by omega
  simp [this]

theorem right_eq (n d t : Int) (h1 : n ≤ 9223372036854775807) (h2 : d ≤ 9223372036854775807) : rightB n d t = rightR n d t := by
  unfold rightB
  by_cases hn : n = 0
  · subst hn
    by_cases hd : d = 0
    · subst hd
      have : makeG 0 0 t = ⟨0, 0, 0, 11⟩ := by unfold makeG; rw [if_neg (by omega), if_pos rfl]
      rw [this]; unfold rightR; rw [if_pos rfl]; simp
    by_cases hd2 : d < -9223372036854775807
    · have : makeG 0 d t = ⟨0, 0, 0, 1⟩ := by unfold makeG; rw [if_pos (.inr hd2)]
      rw [this]; unfold rightR; rw [if_pos rfl]
      rw [Bool.eq_iff_iff]; simp; omega
    rw [make_of_zero d t (by omega) hd]
    unfold rightR; rw [if_pos rfl, Bool.eq_iff_iff]
    simp
    constructor
    · rintro ⟨rfl, rfl⟩; exact ⟨rfl, rfl⟩
    · rintro ⟨rfl, rfl⟩; exact ⟨rfl, rfl⟩
  by_cases hf : n < -9223372036854775807
  · have : makeG n d t = ⟨0, 0, 0, 1⟩ := by unfold makeG; rw [if_pos (.inl hf)]
    rw [this]; unfold rightR; rw [if_neg hn, Bool.eq_iff_iff]; simp; omega
  rw [Bool.eq_iff_iff, right_good n d t hn (by omega), beq_iff_eq]
  constructor
  · intro h
    by_cases hd : d < -9223372036854775807
    · have : makeG n d t = ⟨0, 0, 0, 1⟩ := by unfold makeG; rw [if_pos (.inr hd)]
      rw [this] at h; simp at h
    by_cases hd0 : d = 0
    · have : makeG n d t = ⟨0, 0, 0, 11⟩ := by unfold makeG; rw [if_neg (by omega), if_pos hd0]
      rw [this] at h; simp at h
    rw [make_canon n d t (by omega) (by omega) hn hd0] at h
    have fit := canon_fit n d (near t) hn hd0
    obtain ⟨f1, f2, f3, f4, f5, f6⟩ := form_right _ fit (by rw [h])
    rw [h] at f1 f2 f3 f4 f5 f6
    simp only at f1 f2 f3 f4 f5 f6
    rw [← f3] at f4
    exact ⟨by rw [f3]; exact fit.d1, by rw [f3]; exact fit.d2, by rw [f3]; exact fit.d5, f2, f4, f5, f6⟩
  · intro h
    have d1 := h.d1
    have t1 := h.t1
    have t2 := h.t2
    rw [make_canon n d t (by omega) (by omega) hn (by omega), near_same t (by omega) (by omega), canon_good hn h]
    exact good_form hn h (by omega)

theorem formAt_zero (N d t : Int) (he : (formAt N d t).e ≠ 0) : formAt N d t = over := by
  unfold formAt at *
  split
  · rfl
  · rename_i h
    rw [if_neg h] at he
    split
    · rename_i h2
      rw [if_pos h2] at he
      exact absurd rfl he
    · rfl

theorem form_over (p : Pt) (he : (formP p).e ≠ 0) : formP p = over := by
  unfold formP at *
  split
  · rename_i h
    rw [if_pos h] at he
    exact absurd rfl he
  · rename_i h
    rw [if_neg h] at he
    split
    · rename_i h2
      rw [if_pos h2] at he
      exact formAt_zero _ _ _ he
    · rename_i h2
      rw [if_neg h2] at he
      exact formAt_zero _ _ _ he

theorem right_zero (t : Int) : rightB 0 0 t = false := by
  unfold rightB
  have : makeG 0 0 t = ⟨0, 0, 0, 11⟩ := by unfold makeG; rw [if_neg (by omega), if_pos rfl]
  rw [this]; simp

/-- What is made is right, just if there is no error. -/
theorem make_right (num den ten : Int) (h1 : num ≤ 9223372036854775807) (h2 : den ≤ 9223372036854775807) : rightB (makeG num den ten).n (makeG num den ten).d (makeG num den ten).t = ((makeG num den ten).e == 0) := by
  by_cases ha : num < -9223372036854775807 ∨ den < -9223372036854775807
  · have : makeG num den ten = ⟨0, 0, 0, 1⟩ := by unfold makeG; rw [if_pos ha]
    rw [this]; exact right_zero 0
  by_cases hd : den = 0
  · have : makeG num den ten = ⟨0, 0, 0, 11⟩ := by unfold makeG; rw [if_neg ha, if_pos hd]
    rw [this]; exact right_zero 0
  by_cases hn : num = 0
  · subst hn
    rw [make_of_zero den ten (by omega) hd, right_eq _ _ _ (by simp) (by simp)]
    decide
  have fine := make_fine num den ten h1 h2
  rw [make_canon num den ten (by omega) (by omega) hn hd] at *
  by_cases he : (formP (canon num den (near ten))).e = 0
  · obtain ⟨f1, f2, f3, f4, f5, f6⟩ := form_right _ (canon_fit num den (near ten) hn hd) he
    obtain ⟨g1, g2, g3, g4, g5⟩ := fine he
    have fit := canon_fit num den (near ten) hn hd
    rw [right_eq _ _ _ (by omega) g3, he]
    refine (right_good _ _ _ f1 (by omega)).2 ⟨by rw [f3]; exact fit.d1, by rw [f3]; exact fit.d2, by rw [f3]; exact fit.d5, f2, by rw [f3]; exact f4, f5, f6⟩
  · have e2 : ((formP (canon num den (near ten))).e == 0) = false := by simpa using he
    rw [e2, form_over _ he]
    exact right_zero 0

end Go.Proofs.YtpmibcdmaaagjaaDoor.Frac

namespace Go.Proofs.YtpmibcdmaaagjaaDoor.Frac
open Go.Proofs.YtpmibcdmaaagjaaDoor.Whole
set_option linter.unusedVariables false
set_option linter.unusedSimpArgs false

/-- The document's number taken apart, times a power of ten, as the program holds it. -/
def toPt (X : Sp) (t : Int) : Pt := ⟨X.s * X.p, X.q, X.two + t, X.five + t⟩

theorem sign_gcd_r (s a b : Int) (hs : s = 1 ∨ s = -1) : Int.gcd a (s * b) = Int.gcd a b := by
  rw [Int.gcd_comm, sign_gcd s b a hs, Int.gcd_comm]

theorem abs_sign (s a : Int) (hs : s = 1 ∨ s = -1) : (s * a).natAbs = a.natAbs := by
  rcases hs with rfl | rfl
  · simp
  · rw [show (-1 : Int) * a = -a from by omega, Int.natAbs_neg]

theorem pos_quo (p q : Int) (g : Nat) (hp : 1 ≤ p) (hg : (g : Int) ∣ p) : 1 ≤ p.tdiv g := tdiv_pos p g hp hg

theorem one_mul_le (a b : Int) (ha : 1 ≤ a) (hb : 1 ≤ b) : 1 ≤ a * b := by
  have := Int.mul_le_mul ha hb (by omega) (by omega)
  omega

theorem times_rel (X Y : Sp) (t u : Int) {B C : Int} (hX : X.Ok B) (hY : Y.Ok C) : timesP (toPt X t) (toPt Y u) = (timesR X Y).map (toPt · (t + u)) := by
  have eN : timesN (toPt X t) (toPt Y u) = X.s * Y.s * (X.p.tdiv (Int.gcd X.p Y.q) * Y.p.tdiv (Int.gcd Y.p X.q)) := by
    unfold timesN toPt
    simp only []
    rw [sign_gcd X.s _ _ hX.1, sign_gcd Y.s _ _ hY.1, sign_tdiv X.s _ _ hX.1, sign_tdiv Y.s _ _ hY.1]
    ac_rfl
  have eD : timesD (toPt X t) (toPt Y u) = X.q.tdiv (Int.gcd Y.p X.q) * Y.q.tdiv (Int.gcd X.p Y.q) := by
    unfold timesD toPt
    simp only []
    rw [sign_gcd X.s _ _ hX.1, sign_gcd Y.s _ _ hY.1]
  have p1 := one_mul_le _ _ (pos_quo X.p Y.q (Int.gcd X.p Y.q) hX.2.1 (Int.gcd_dvd_left _ _)) (pos_quo Y.p X.q (Int.gcd Y.p X.q) hY.2.1 (Int.gcd_dvd_left _ _))
  have p2 := one_mul_le _ _ (pos_quo X.q Y.p (Int.gcd Y.p X.q) hX.2.2.2.1 (Int.gcd_dvd_right _ _)) (pos_quo Y.q X.p (Int.gcd X.p Y.q) hY.2.2.2.1 (Int.gcd_dvd_right _ _))
  have aN : (timesN (toPt X t) (toPt Y u)).natAbs = (X.p.tdiv (Int.gcd X.p Y.q) * Y.p.tdiv (Int.gcd Y.p X.q)).natAbs := by
    rw [eN]; exact abs_sign _ _ (sign_mul_cases _ _ hX.1 hY.1)
  unfold timesP timesR
  by_cases hf : X.p.tdiv (Int.gcd X.p Y.q) * Y.p.tdiv (Int.gcd Y.p X.q) ≤ 9223372036854775807 ∧ X.q.tdiv (Int.gcd Y.p X.q) * Y.q.tdiv (Int.gcd X.p Y.q) ≤ 9223372036854775807
  · rw [if_pos hf, if_pos (by rw [aN, eD]; omega), eN, eD]
    simp only [Option.map_some, toPt]
    congr 2 <;> omega
  · rw [if_neg hf, if_neg (by rw [aN, eD]; omega)]
    rfl

theorem timesR_ok {B C : Int} {X Y Z : Sp} (hX : X.Ok B) (hY : Y.Ok C) (h : timesR X Y = some Z) : Z.Ok (B + C) := by
  have p1 := one_mul_le _ _ (pos_quo X.p Y.q (Int.gcd X.p Y.q) hX.2.1 (Int.gcd_dvd_left _ _)) (pos_quo Y.p X.q (Int.gcd Y.p X.q) hY.2.1 (Int.gcd_dvd_left _ _))
  have p2 := one_mul_le _ _ (pos_quo X.q Y.p (Int.gcd Y.p X.q) hX.2.2.2.1 (Int.gcd_dvd_right _ _)) (pos_quo Y.q X.p (Int.gcd X.p Y.q) hY.2.2.2.1 (Int.gcd_dvd_right _ _))
  obtain ⟨h0, h1, h2, h3, h4, h5, h6, h7, h8⟩ := hX
  obtain ⟨k0, k1, k2, k3, k4, k5, k6, k7, k8⟩ := hY
  unfold timesR at h
  split at h
  · rename_i hf
    simp only [Option.some.injEq] at h
    subst h
    exact ⟨sign_mul_cases _ _ h0 k0, p1, hf.1, p2, hf.2, by show -(B + C) ≤ X.two + Y.two; omega, by show X.two + Y.two ≤ B + C; omega, by show -(B + C) ≤ X.five + Y.five; omega, by show X.five + Y.five ≤ B + C; omega⟩
  · exact absurd h (by simp)

theorem join_times (X Y : Sp) (t u : Int) (hX : X.Ok 400) (hY : Y.Ok 400) : joinP (toPt X t) 1 (toPt Y u) = timesF X Y (t + u) := by
  unfold joinP timesF
  rw [times_rel X Y t u hX hY]
  cases h : timesR X Y with
  | none => rfl
  | some Z =>
    have ok := timesR_ok hX hY h
    simp only [Option.map_some, joinP]
    exact (form_formS Z (t + u) ok.1 ok.2.1 (fun _ => least_in ok (by omega))).symm

theorem turn_toPt (Y : Sp) (u : Int) {C : Int} (hY : Y.Ok C) : turnP (toPt Y u) = toPt (turnS Y) (-u) := by
  have h1 := hY.2.1
  unfold turnP toPt turnS
  simp only []
  rcases hY.1 with h | h
  · rw [h, if_neg (by omega)]
    congr 1 <;> omega
  · rw [h, if_pos (by omega)]
    congr 1 <;> omega

theorem good_toPt {n d t : Int} (hn : n ≠ 0) (h : Good n d t) : partsP n d t = toPt (ofS n d) t := by
  have d1 := h.d1
  rw [← canon_good hn h, canon_of n d t hn (by omega)]
  rfl

theorem gcd_zero_self (d : Int) (h : 1 ≤ d) : d.tdiv (Int.gcd 0 d) = 1 := by
  have : ((Int.gcd 0 d : Nat) : Int) = d := by simp; omega
  rw [this]
  exact Int.tdiv_self (by omega)

theorem join_zero_l (y : Pt) (a b : Int) (hy : y.Ok 9000) : joinP ⟨0, 1, a, b⟩ 1 y = ⟨0, 1, 0, 0⟩ := by
  have eN : timesN ⟨0, 1, a, b⟩ y = 0 := by unfold timesN; simp
  have eD : timesD ⟨0, 1, a, b⟩ y = 1 := by
    unfold timesD
    simp only []
    rw [gcd_zero_self y.d hy.2.1]; simp
  unfold joinP timesP
  rw [eN, eD, if_pos ⟨by decide, by decide⟩]
  simp [joinP, formP]

theorem join_zero_r (x : Pt) (a b : Int) (hx : x.Ok 9000) : joinP x 1 ⟨0, 1, a, b⟩ = ⟨0, 1, 0, 0⟩ := by
  have eN : timesN x ⟨0, 1, a, b⟩ = 0 := by unfold timesN; simp
  have eD : timesD x ⟨0, 1, a, b⟩ = 1 := by
    unfold timesD
    simp only []
    rw [gcd_zero_self x.d hx.2.1]; simp
  unfold joinP timesP
  rw [eN, eD, if_pos ⟨by decide, by decide⟩]
  simp [joinP, formP]

theorem parts_zero (d t : Int) : partsP 0 d t = ⟨0, d, t, t⟩ := by unfold partsP apartP; rw [if_pos rfl]

theorem rightR_zero {d t : Int} (h : rightR 0 d t = true) : d = 1 ∧ t = 0 := by
  unfold rightR at h
  rw [if_pos rfl] at h
  simpa using h

theorem good_ok {n d t : Int} (h1 : n ≤ 9223372036854775807) (h2 : d ≤ 9223372036854775807) (hn : n ≠ 0) (h : rightR n d t = true) : Good n d t ∧ (ofS n d).Ok 63 ∧ n.natAbs ≤ 9223372036854775807 := by
  have hb := right_fine h1 h2 (by rw [right_eq n d t h1 h2]; exact h)
  exact ⟨(right_good n d t hn (by omega)).1 h, ofS_ok n d hn (by omega) hb.1 (by omega), hb.1⟩

theorem mul_eq (n1 d1 t1 n2 d2 t2 : Int) (h1 : n1 ≤ 9223372036854775807) (h2 : d1 ≤ 9223372036854775807) (h3 : n2 ≤ 9223372036854775807) (h4 : d2 ≤ 9223372036854775807) : mulG n1 d1 t1 n2 d2 t2 = mulR n1 d1 t1 n2 d2 t2 := by
  unfold mulG mulR
  rw [right_eq n1 d1 t1 h1 h2, right_eq n2 d2 t2 h3 h4]
  by_cases hr : rightR n1 d1 t1 = false ∨ rightR n2 d2 t2 = false
  · rw [if_pos hr, if_pos hr]
  rw [if_neg hr, if_neg hr]
  have r1 : rightR n1 d1 t1 = true := by cases h : rightR n1 d1 t1 <;> simp_all
  have r2 : rightR n2 d2 t2 = true := by cases h : rightR n2 d2 t2 <;> simp_all
  have f1 := right_fine h1 h2 (by rw [right_eq n1 d1 t1 h1 h2]; exact r1)
  have f2 := right_fine h3 h4 (by rw [right_eq n2 d2 t2 h3 h4]; exact r2)
  by_cases z1 : n1 = 0
  · subst z1
    obtain ⟨rfl, rfl⟩ := rightR_zero r1
    rw [if_pos (.inl rfl), parts_zero]
    exact join_zero_l _ _ _ ((parts_ok n2 d2 t2 f2.1 f2.2.1 f2.2.2.1 (by omega) (by omega)).more (by omega))
  by_cases z2 : n2 = 0
  · subst z2
    obtain ⟨rfl, rfl⟩ := rightR_zero r2
    rw [if_pos (.inr rfl), parts_zero 1]
    exact join_zero_r _ _ _ ((parts_ok n1 d1 t1 f1.1 f1.2.1 f1.2.2.1 (by omega) (by omega)).more (by omega))
  rw [if_neg (by omega)]
  obtain ⟨g1, o1, _⟩ := good_ok h1 h2 z1 r1
  obtain ⟨g2, o2, _⟩ := good_ok h3 h4 z2 r2
  rw [good_toPt z1 g1, good_toPt z2 g2]
  exact join_times _ _ _ _ (o1.more (by omega)) (o2.more (by omega))

theorem div_eq (n1 d1 t1 n2 d2 t2 : Int) (h1 : n1 ≤ 9223372036854775807) (h2 : d1 ≤ 9223372036854775807) (h3 : n2 ≤ 9223372036854775807) (h4 : d2 ≤ 9223372036854775807) : divG n1 d1 t1 n2 d2 t2 = divR n1 d1 t1 n2 d2 t2 := by
  unfold divG divR
  rw [right_eq n1 d1 t1 h1 h2, right_eq n2 d2 t2 h3 h4]
  by_cases hr : rightR n1 d1 t1 = false ∨ rightR n2 d2 t2 = false
  · rw [if_pos hr, if_pos hr]
  rw [if_neg hr, if_neg hr]
  have r1 : rightR n1 d1 t1 = true := by cases h : rightR n1 d1 t1 <;> simp_all
  have r2 : rightR n2 d2 t2 = true := by cases h : rightR n2 d2 t2 <;> simp_all
  have f1 := right_fine h1 h2 (by rw [right_eq n1 d1 t1 h1 h2]; exact r1)
  have f2 := right_fine h3 h4 (by rw [right_eq n2 d2 t2 h3 h4]; exact r2)
  by_cases z2 : n2 = 0
  · rw [if_pos z2, if_pos z2]
  rw [if_neg z2, if_neg z2]
  obtain ⟨g2, o2, _⟩ := good_ok h3 h4 z2 r2
  by_cases z1 : n1 = 0
  · subst z1
    obtain ⟨rfl, rfl⟩ := rightR_zero r1
    rw [if_pos rfl, parts_zero]
    exact join_zero_l _ _ _ ((turn_ok (parts_ok n2 d2 t2 f2.1 f2.2.1 f2.2.2.1 (by omega) (by omega)) (parts_ne n2 d2 t2 z2)).more (by omega))
  rw [if_neg z1]
  obtain ⟨g1, o1, _⟩ := good_ok h1 h2 z1 r1
  rw [good_toPt z1 g1, good_toPt z2 g2, turn_toPt _ _ o2, Int.sub_eq_add_neg]
  exact join_times _ _ _ _ (o1.more (by omega)) (turnS_ok (o2.more (by omega)))

theorem tdiv_one (a : Int) : a.tdiv (1 : Nat) = a := by simp

/-- So many products of numbers that have nothing in common. -/
theorem join_pow (Y : Sp) (y : Pt) {C : Int} (hY : Y.Ok C) (hn : y.n = Y.s * Y.p) (hd : y.d = Y.q) (hc : Int.gcd Y.p Y.q = 1) : ∀ (k : Nat) (X : Sp) (a b : Int), (X.s = 1 ∨ X.s = -1) → 1 ≤ X.p → 1 ≤ X.q → Int.gcd X.p Y.q = 1 → Int.gcd Y.p X.q = 1 →
    joinP ⟨X.s * X.p, X.q, a, b⟩ k y = match powS X k Y with
      | none => over
      | some Z => formP ⟨Z.s * Z.p, Z.q, a + k * y.e2, b + k * y.e5⟩
  | 0, X, a, b, hs, hp, hq, c1, c2 => by
    simp [joinP, powS]
  | k + 1, X, a, b, hs, hp, hq, c1, c2 => by
    have g1 : Int.gcd (X.s * X.p) y.d = 1 := by rw [sign_gcd _ _ _ hs, hd]; exact c1
    have g2 : Int.gcd y.n X.q = 1 := by rw [hn, sign_gcd _ _ _ hY.1]; exact c2
    have eN : timesN ⟨X.s * X.p, X.q, a, b⟩ y = X.s * Y.s * (X.p * Y.p) := by
      unfold timesN
      simp only []
      rw [g1, g2, tdiv_one, tdiv_one, hn]
      ac_rfl
    have eD : timesD ⟨X.s * X.p, X.q, a, b⟩ y = X.q * Y.q := by
      unfold timesD
      simp only []
      rw [g1, g2, tdiv_one, tdiv_one, hd]
    have p1 := one_mul_le _ _ hp hY.2.1
    have p2 := one_mul_le _ _ hq hY.2.2.2.1
    have aN : (X.s * Y.s * (X.p * Y.p)).natAbs = (X.p * Y.p).natAbs := abs_sign _ _ (sign_mul_cases _ _ hs hY.1)
    unfold joinP timesP powS
    rw [eN, eD]
    by_cases hf : X.p * Y.p ≤ 9223372036854775807 ∧ X.q * Y.q ≤ 9223372036854775807
    · rw [if_pos hf, if_pos (by rw [aN]; omega)]
      simp only []
      have ih := join_pow Y y hY hn hd hc k ⟨X.s * Y.s, X.p * Y.p, X.q * Y.q, X.two, X.five⟩ (a + y.e2) (b + y.e5) (sign_mul_cases _ _ hs hY.1) p1 p2 (co_mul _ _ _ c1 hc)
        (by rw [Int.gcd_comm]; exact co_mul _ _ _ (by rw [Int.gcd_comm]; exact c2) (by rw [Int.gcd_comm]; exact hc))
      simp only at ih
      rw [ih]
      cases powS ⟨X.s * Y.s, X.p * Y.p, X.q * Y.q, X.two, X.five⟩ k Y with
      | none => rfl
      | some Z =>
        simp only []
        have e2 : a + y.e2 + (k : Int) * y.e2 = a + ((k + 1 : Nat) : Int) * y.e2 := by
          rw [Int.natCast_succ, Int.add_mul]; omega
        have e5 : b + y.e5 + (k : Int) * y.e5 = b + ((k + 1 : Nat) : Int) * y.e5 := by
          rw [Int.natCast_succ, Int.add_mul]; omega
        rw [e2, e5]
    · rw [if_neg hf, if_neg (by rw [aN]; omega)]

theorem powS_keeps (Y : Sp) {C : Int} (hY : Y.Ok C) : ∀ (k : Nat) (X Z : Sp), (X.s = 1 ∨ X.s = -1) → 1 ≤ X.p → 1 ≤ X.q → powS X k Y = some Z → Z.two = X.two ∧ Z.five = X.five ∧ (Z.s = 1 ∨ Z.s = -1) ∧ 1 ≤ Z.p ∧ 1 ≤ Z.q
  | 0, X, Z, hs, hp, hq, h => by
    simp only [powS, Option.some.injEq] at h
    subst h
    exact ⟨rfl, rfl, hs, hp, hq⟩
  | k + 1, X, Z, hs, hp, hq, h => by
    unfold powS at h
    split at h
    · exact powS_keeps Y hY k ⟨X.s * Y.s, X.p * Y.p, X.q * Y.q, X.two, X.five⟩ Z (sign_mul_cases _ _ hs hY.1) (one_mul_le _ _ hp hY.2.1) (one_mul_le _ _ hq hY.2.2.2.1) h
    · exact absurd h (by simp)

theorem pow_bound (p q : Int) (M : Nat) (hp : 1 ≤ p) (hq : 2 ≤ q) (h : p * q ^ M ≤ 9223372036854775807) : M < 63 := by
  have h1 := two_pow_le p q M hq (by omega)
  have h0 : 0 ≤ p * q ^ M := Int.mul_nonneg (by omega) (Int.pow_nonneg (by omega))
  have h4 : 2 ^ M < 2 ^ 63 := by
    have : (2 : Nat) ^ 63 = 9223372036854775808 := by decide
    omega
  exact (Nat.pow_lt_pow_iff_right (by omega)).1 h4

theorem least_pow (Z : Sp) (hp : 1 ≤ Z.p) (hz : Z.two = 0 ∨ Z.five = 0) (h : topS Z ≤ 9223372036854775807) : -1000 ≤ leastS Z ∧ leastS Z ≤ 1000 := by
  unfold topS at h
  unfold leastS
  by_cases hlt : Z.two < Z.five
  · rw [if_pos hlt] at *
    have := pow_bound Z.p 5 _ hp (by omega) h
    omega
  · rw [if_neg hlt] at *
    have := pow_bound Z.p 2 _ hp (by omega) h
    omega

theorem join_powF (Y : Sp) (y : Pt) (k : Nat) (t : Int) {C : Int} (hY : Y.Ok C) (hy : y = toPt Y t) (hc : Int.gcd Y.p Y.q = 1) (hz : Y.two = 0 ∨ Y.five = 0) : joinP ⟨1, 1, 0, 0⟩ k y = powF Y k (t * k) := by
  have h := join_pow Y y hY (by rw [hy]; rfl) (by rw [hy]; rfl) hc k ⟨1, 1, 1, Y.two * k, Y.five * k⟩ 0 0 (.inl rfl) (by simp) (by simp) (by simp) (by simp)
  simp only [Int.mul_one] at h
  rw [h]
  unfold powF
  cases hp : powS ⟨1, 1, 1, Y.two * k, Y.five * k⟩ k Y with
  | none => rfl
  | some Z =>
    simp only []
    obtain ⟨e1, e2, e3, e4, e5⟩ := powS_keeps Y hY k _ Z (.inl rfl) (by simp) (by simp) hp
    simp only at e1 e2
    rw [form_formS Z (t * k) e3 e4 (least_pow Z e4 (by rcases hz with h | h <;> simp [e1, e2, h]))]
    rw [hy, e1, e2]
    unfold toPt
    simp only []
    congr 2
    · rw [Int.mul_add, Int.mul_comm Y.two, Int.mul_comm t]; omega
    · rw [Int.mul_add, Int.mul_comm Y.five, Int.mul_comm t]; omega

theorem one_apart : apartP 1 0 = ⟨1, 1, 0, 0⟩ := by
  obtain ⟨a, b, c⟩ := odd_is 1 1 0 0 (by decide) (by decide) (by decide) (by decide)
  rw [apart_eq 1 0 (by decide), a, b, c]
  rfl

theorem good_of {n d t : Int} (hn : n ≠ 0) (h : Good n d t) : ofS n d = ⟨n.sign, ((odd n).natAbs : Int), d, o2 n, o5 n⟩ := by
  obtain ⟨a, b, c, g, _⟩ := good_parts hn h
  have d1 := h.d1
  rw [ofS_eq n d hn (by omega), a, b, c, g, Int.sign_eq_one_of_pos (show 0 < d by omega), Int.mul_one, tdiv_one, tdiv_one]
  congr 1 <;> omega

theorem good_co {n d t : Int} (hn : n ≠ 0) (h : Good n d t) : Int.gcd (ofS n d).p (ofS n d).q = 1 ∧ ((ofS n d).two = 0 ∨ (ofS n d).five = 0) := by
  obtain ⟨a, b, c, g, z⟩ := good_parts hn h
  rw [good_of hn h]
  refine ⟨?_, z⟩
  show Int.gcd ((odd n).natAbs : Int) d = 1
  unfold Int.gcd at *
  simpa using g

theorem join_pow_zero : ∀ (k : Nat) (a b c e : Int), joinP ⟨0, 1, a, b⟩ k ⟨0, 1, c, e⟩ = ⟨0, 1, 0, 0⟩
  | 0, a, b, c, e => by simp [joinP, formP]
  | k + 1, a, b, c, e => by
    have eN : timesN ⟨0, 1, a, b⟩ ⟨0, 1, c, e⟩ = 0 := by unfold timesN; simp
    have eD : timesD ⟨0, 1, a, b⟩ ⟨0, 1, c, e⟩ = 1 := by unfold timesD; simp
    unfold joinP timesP
    rw [eN, eD, if_pos ⟨by decide, by decide⟩]
    exact join_pow_zero k _ _ _ _

theorem join_one_zero (k : Nat) (c e : Int) : joinP ⟨1, 1, 0, 0⟩ (k + 1) ⟨0, 1, c, e⟩ = ⟨0, 1, 0, 0⟩ := by
  have eN : timesN ⟨1, 1, 0, 0⟩ ⟨0, 1, c, e⟩ = 0 := by unfold timesN; simp
  have eD : timesD ⟨1, 1, 0, 0⟩ ⟨0, 1, c, e⟩ = 1 := by unfold timesD; simp
  unfold joinP timesP
  rw [eN, eD, if_pos ⟨by decide, by decide⟩]
  exact join_pow_zero k _ _ _ _

theorem pow_eq (n d t k : Int) (h1 : n ≤ 9223372036854775807) (h2 : d ≤ 9223372036854775807) : powG n d t k = powR n d t k := by
  unfold powG powR
  rw [right_eq n d t h1 h2]
  by_cases hr : rightR n d t = false ∨ k < -99 ∨ 99 < k
  · rw [if_pos hr, if_pos hr]
  rw [if_neg hr, if_neg hr]
  have r1 : rightR n d t = true := by cases h : rightR n d t <;> simp_all
  by_cases hz : n = 0
  · subst hz
    obtain ⟨rfl, rfl⟩ := rightR_zero r1
    by_cases hk : 0 ≤ k
    · rw [if_pos hk, if_neg (by omega), parts_zero, one_apart]
      by_cases hk0 : k = 0
      · rw [if_pos hk0, hk0]; decide
      · rw [if_neg hk0, if_pos rfl]
        obtain ⟨m, hm⟩ : ∃ m, k.toNat = m + 1 := ⟨k.toNat - 1, by omega⟩
        rw [hm]; exact join_one_zero m _ _
    · rw [if_neg hk, if_pos rfl, if_pos (by omega)]
  obtain ⟨g, ok, _⟩ := good_ok h1 h2 hz r1
  obtain ⟨co, z⟩ := good_co hz g
  rw [if_neg (show ¬ (n = 0 ∧ k < 0) by omega), one_apart]
  by_cases hk : 0 ≤ k
  · rw [if_pos hk]
    by_cases hk0 : k = 0
    · rw [if_pos hk0, hk0]
      simp [joinP, formP, formAt]
    · rw [if_neg hk0, if_neg hz, if_neg (by omega), good_toPt hz g]
      rw [join_powF _ _ k.toNat t ok rfl co z, show ((k.toNat : Nat) : Int) = k from by omega]
  · rw [if_neg hk, if_neg hz, if_neg (by omega), if_neg hz, if_pos (by omega), good_toPt hz g, turn_toPt _ _ ok]
    have co2 : Int.gcd (turnS (ofS n d)).p (turnS (ofS n d)).q = 1 := by
      show Int.gcd (ofS n d).q (ofS n d).p = 1
      rw [Int.gcd_comm]; exact co
    have z2 : (turnS (ofS n d)).two = 0 ∨ (turnS (ofS n d)).five = 0 := by
      show -(ofS n d).two = 0 ∨ -(ofS n d).five = 0
      omega
    rw [join_powF _ _ (-k).toNat (-t) (turnS_ok ok) rfl co2 z2]
    have : -t * (((-k).toNat : Nat) : Int) = t * k := by
      rw [show (((-k).toNat : Nat) : Int) = -k from by omega, Int.neg_mul_neg]
    rw [this]

end Go.Proofs.YtpmibcdmaaagjaaDoor.Frac

namespace Go.Proofs.YtpmibcdmaaagjaaDoor.Frac
open Go.Proofs.YtpmibcdmaaagjaaDoor.Whole
set_option linter.unusedVariables false
set_option linter.unusedSimpArgs false

theorem times_comm (x y : Pt) : timesP x y = timesP y x := by
  have eN : timesN x y = timesN y x := by unfold timesN; rw [Int.mul_comm]
  have eD : timesD x y = timesD y x := by unfold timesD; rw [Int.mul_comm]
  unfold timesP
  rw [eN, eD, Int.add_comm x.e2, Int.add_comm x.e5]

theorem mul_comm (n1 d1 t1 n2 d2 t2 : Int) : mulG n1 d1 t1 n2 d2 t2 = mulG n2 d2 t2 n1 d1 t1 := by
  unfold mulG
  by_cases h : rightB n1 d1 t1 = false ∨ rightB n2 d2 t2 = false
  · rw [if_pos h, if_pos (Or.symm h)]
  · rw [if_neg h, if_neg (fun k => h (Or.symm k))]
    unfold joinP
    rw [times_comm]
    cases timesP (partsP n2 d2 t2) (partsP n1 d1 t1) with
    | none => rfl
    | some z => rfl

/-- The parts of a form are what it was made of. -/
theorem parts_form (p : Pt) (h : Fit p.n p.d) (he : (formP p).e = 0) : partsP (formP p).n (formP p).d (formP p).t = p := by
  have hn : p.n ≠ 0 := fun h0 => h.n2 (by rw [h0]; decide)
  unfold formP at *
  rw [if_neg hn] at *
  have at_ : ∀ N t : Int, (formAt N p.d t).e = 0 → formAt N p.d t = ⟨N, p.d, t, 0⟩ := by
    intro N t hz
    unfold formAt at *
    split at hz
    · exact absurd hz (by decide)
    · rename_i hf
      rw [if_neg hf]
      split at hz
      · rename_i hf2
        rw [if_pos hf2]
      · exact absurd hz (by decide)
  by_cases hle : p.e2 ≤ p.e5
  · rw [if_pos hle] at *
    rw [at_ _ _ he]
    simp only []
    have hN : p.n * 5 ^ (p.e5 - p.e2).toNat ≠ 0 := Int.mul_ne_zero hn (Int.pow_ne_zero (by decide))
    obtain ⟨a, b, c⟩ := odd_is (p.n * 5 ^ (p.e5 - p.e2).toNat) p.n 0 (p.e5 - p.e2).toNat hN (by simp) h.n2 h.n5
    rw [parts_eq _ _ _ hN, a, b, c]
    obtain ⟨pn, pd, e2, e5⟩ := p
    simp only at *
    congr 1 <;> omega
  · rw [if_neg hle] at *
    rw [at_ _ _ he]
    simp only []
    have hN : p.n * 2 ^ (p.e2 - p.e5).toNat ≠ 0 := Int.mul_ne_zero hn (Int.pow_ne_zero (by decide))
    obtain ⟨a, b, c⟩ := odd_is (p.n * 2 ^ (p.e2 - p.e5).toNat) p.n (p.e2 - p.e5).toNat 0 hN (by simp) h.n2 h.n5
    rw [parts_eq _ _ _ hN, a, b, c]
    obtain ⟨pn, pd, e2, e5⟩ := p
    simp only at *
    congr 1 <;> omega

theorem good_fit {n d t : Int} (hn : n ≠ 0) (h : Good n d t) : Fit (partsP n d t).n (partsP n d t).d := by
  have d1 := h.d1
  rw [← canon_good hn h]
  exact canon_fit n d t hn (by omega)

theorem co_of_dvd {a b c d : Int} (h : Int.gcd a b = 1) (h1 : c ∣ a) (h2 : d ∣ b) : Int.gcd c d = 1 := by
  have g1 : ((Int.gcd c d : Nat) : Int) ∣ a := Int.dvd_trans (Int.gcd_dvd_left _ _) h1
  have g2 : ((Int.gcd c d : Nat) : Int) ∣ b := Int.dvd_trans (Int.gcd_dvd_right _ _) h2
  have := Int.dvd_gcd g1 g2
  rw [h] at this
  exact Nat.dvd_one.1 this

theorem tdiv_of (g a : Int) (hg : g ≠ 0) : (g * a).tdiv g = a := Int.mul_tdiv_cancel_left a hg

/-- Both numbers, with what they have in common taken out. -/
theorem times_split (x y : Pt) (hx : Fit x.n x.d) (hy : Fit y.n y.d) : ∃ g h : Int, ∃ a b c e : Int, 1 ≤ g ∧ 1 ≤ h ∧ x.n = g * a ∧ y.d = g * e ∧ y.n = h * b ∧ x.d = h * c ∧ timesN x y = a * b ∧ timesD x y = c * e ∧
    Int.gcd a e = 1 ∧ Int.gcd b c = 1 ∧ Int.gcd a c = 1 ∧ Int.gcd b e = 1 ∧ Int.gcd a h = 1 ∧ Int.gcd g c = 1 := by
  have g1 := gcd_pos_r x.n y.d hy.d1
  have h1 := gcd_pos_r y.n x.d hx.d1
  obtain ⟨a, ha⟩ : ((Int.gcd x.n y.d : Nat) : Int) ∣ x.n := Int.gcd_dvd_left _ _
  obtain ⟨e, he⟩ : ((Int.gcd x.n y.d : Nat) : Int) ∣ y.d := Int.gcd_dvd_right _ _
  obtain ⟨b, hb⟩ : ((Int.gcd y.n x.d : Nat) : Int) ∣ y.n := Int.gcd_dvd_left _ _
  obtain ⟨c, hc⟩ : ((Int.gcd y.n x.d : Nat) : Int) ∣ x.d := Int.gcd_dvd_right _ _
  have eN : timesN x y = a * b := by
    unfold timesN
    generalize hg : ((Int.gcd x.n y.d : Nat) : Int) = g at *
    generalize hh : ((Int.gcd y.n x.d : Nat) : Int) = h at *
    rw [ha, hb, tdiv_of g a (by omega), tdiv_of h b (by omega)]
  have eD : timesD x y = c * e := by
    unfold timesD
    generalize hg : ((Int.gcd x.n y.d : Nat) : Int) = g at *
    generalize hh : ((Int.gcd y.n x.d : Nat) : Int) = h at *
    rw [hc, he, tdiv_of h c (by omega), tdiv_of g e (by omega)]
  have k1 : Int.gcd a e = 1 := by
    have := Int.gcd_ediv_gcd_ediv_gcd (i := x.n) (j := y.d) (by omega)
    generalize hg : ((Int.gcd x.n y.d : Nat) : Int) = g at *
    rw [ha, he, Int.mul_ediv_cancel_left _ (by omega), Int.mul_ediv_cancel_left _ (by omega)] at this
    exact this
  have k2 : Int.gcd b c = 1 := by
    have := Int.gcd_ediv_gcd_ediv_gcd (i := y.n) (j := x.d) (by omega)
    generalize hg : ((Int.gcd y.n x.d : Nat) : Int) = g at *
    rw [hb, hc, Int.mul_ediv_cancel_left _ (by omega), Int.mul_ediv_cancel_left _ (by omega)] at this
    exact this
  have da : a ∣ x.n := ⟨_, by rw [Int.mul_comm]; exact ha⟩
  have dc : c ∣ x.d := ⟨_, by rw [Int.mul_comm]; exact hc⟩
  have db : b ∣ y.n := ⟨_, by rw [Int.mul_comm]; exact hb⟩
  have de : e ∣ y.d := ⟨_, by rw [Int.mul_comm]; exact he⟩
  exact ⟨_, _, a, b, c, e, g1, h1, ha, he, hb, hc, eN, eD, k1, k2, co_of_dvd hx.co da dc, co_of_dvd hy.co db de, co_of_dvd hx.co da ⟨c, hc⟩, co_of_dvd hx.co ⟨a, ha⟩ dc⟩

theorem co_two (a b c e : Int) (h1 : Int.gcd a e = 1) (h2 : Int.gcd b c = 1) (h3 : Int.gcd a c = 1) (h4 : Int.gcd b e = 1) : Int.gcd (a * b) (c * e) = 1 := by
  refine co_mul _ _ _ ?_ ?_
  · rw [Int.gcd_comm]; exact co_mul _ _ _ (by rw [Int.gcd_comm]; exact h3) (by rw [Int.gcd_comm]; exact h1)
  · rw [Int.gcd_comm]; exact co_mul _ _ _ (by rw [Int.gcd_comm]; exact h2) (by rw [Int.gcd_comm]; exact h4)

theorem factor_mod (g a k : Int) (h : (g * a) % k ≠ 0) : a % k ≠ 0 := fun h0 => h (mul_mod0 g a k h0)

theorem pos_factor (g e : Int) (hg : 1 ≤ g) (h : 1 ≤ g * e) : 1 ≤ e := by
  rcases Int.lt_or_le 0 e with h0 | h0
  · omega
  · exfalso
    have := Int.mul_nonpos_of_nonneg_of_nonpos (show 0 ≤ g by omega) h0
    omega

theorem times_fit {x y z : Pt} (hx : Fit x.n x.d) (hy : Fit y.n y.d) (h : timesP x y = some z) : Fit z.n z.d := by
  obtain ⟨g, h', a, b, c, e, g1, h1, xa, ye, yb, xc, eN, eD, k1, k2, k3, k4, _, _⟩ := times_split x y hx hy
  unfold timesP at h
  split at h
  · simp only [Option.some.injEq] at h
    subst h
    show Fit (timesN x y) (timesD x y)
    rw [eN, eD]
    have e1 := pos_factor g e g1 (by rw [← ye]; exact hy.d1)
    have c1 := pos_factor h' c h1 (by rw [← xc]; exact hx.d1)
    exact ⟨mod2_mul _ _ (factor_mod g a 2 (by rw [← xa]; exact hx.n2)) (factor_mod h' b 2 (by rw [← yb]; exact hy.n2)),
      mod5_mul _ _ (factor_mod g a 5 (by rw [← xa]; exact hx.n5)) (factor_mod h' b 5 (by rw [← yb]; exact hy.n5)), one_mul_le _ _ c1 e1,
      mod2_mul _ _ (factor_mod h' c 2 (by rw [← xc]; exact hx.d2)) (factor_mod g e 2 (by rw [← ye]; exact hy.d2)),
      mod5_mul _ _ (factor_mod h' c 5 (by rw [← xc]; exact hx.d5)) (factor_mod g e 5 (by rw [← ye]; exact hy.d5)), co_two a b c e k1 k2 k3 k4⟩
  · exact absurd h (by simp)

theorem turn_sign (y : Pt) (h : y.n ≠ 0) : turnP y = ⟨y.n.sign * y.d, (y.n.natAbs : Int), -y.e2, -y.e5⟩ := by
  unfold turnP
  by_cases hn : y.n < 0
  · rw [if_pos hn, Int.sign_eq_neg_one_of_neg hn, show ((y.n.natAbs : Nat) : Int) = -y.n from by omega]
    congr 1; omega
  · rw [if_neg hn, Int.sign_eq_one_of_pos (by omega), show ((y.n.natAbs : Nat) : Int) = y.n from by omega]
    congr 1; omega

theorem gcd_abs_scale (a h b : Int) : Int.gcd (a * b) (h * (b.natAbs : Int)) = Int.gcd a h * b.natAbs := by
  have : Int.gcd (a * b) (h * (b.natAbs : Int)) = Int.gcd (a * b) (h * b) := by
    unfold Int.gcd
    rw [Int.natAbs_mul, Int.natAbs_mul, Int.natAbs_mul, Int.natAbs_natCast]
  rw [this, Int.gcd_mul_right]

theorem times_back {x y z : Pt} (hx : Fit x.n x.d) (hy : Fit y.n y.d) (ox : x.n.natAbs ≤ 9223372036854775807) (oy : x.d ≤ 9223372036854775807) (h : timesP x y = some z) : timesP z (turnP y) = some x := by
  obtain ⟨g, h', a, b, c, e, g1, h1, xa, ye, yb, xc, eN, eD, k1, k2, k3, k4, k5, k6⟩ := times_split x y hx hy
  have hyn : y.n ≠ 0 := fun h0 => hy.n2 (by rw [h0]; decide)
  have hb0 : b ≠ 0 := fun h0 => hyn (by rw [yb, h0]; simp)
  have e1 := pos_factor g e g1 (by rw [← ye]; exact hy.d1)
  have hs := sign_cases y.n hyn
  have sb : b.sign = y.n.sign := by rw [yb, Int.sign_mul, Int.sign_eq_one_of_pos (show 0 < h' by omega), Int.one_mul]
  have pab : ((y.n.natAbs : Nat) : Int) = h' * (b.natAbs : Int) := by
    rw [yb, Int.natAbs_mul, Int.natCast_mul]
    congr 1; omega
  unfold timesP at h
  split at h
  · simp only [Option.some.injEq] at h
    rw [eN, eD] at h
    have G1 : Int.gcd z.n (y.n.natAbs : Int) = b.natAbs := by
      rw [← h, pab]
      show Int.gcd (a * b) (h' * (b.natAbs : Int)) = b.natAbs
      rw [gcd_abs_scale, k5, Nat.one_mul]
    have G2 : Int.gcd (y.n.sign * y.d) z.d = e.natAbs := by
      rw [← h, ye]
      show Int.gcd (y.n.sign * (g * e)) (c * e) = e.natAbs
      rw [sign_gcd _ _ _ hs, Int.gcd_mul_right, k6, Nat.one_mul]
    have zb : ((b.natAbs : Nat) : Int) ≠ 0 := by omega
    have ze : ((e.natAbs : Nat) : Int) = e := by omega
    have bs : b = (b.natAbs : Int) * b.sign := by rw [Int.mul_comm]; exact (Int.sign_mul_natAbs b).symm
    have tN : timesN z ⟨y.n.sign * y.d, (y.n.natAbs : Int), -y.e2, -y.e5⟩ = x.n := by
      unfold timesN
      simp only []
      rw [G1, G2, ze, ye, ← h]
      show (a * b).tdiv (b.natAbs : Int) * (y.n.sign * (g * e)).tdiv e = x.n
      have q1 : (a * b).tdiv (b.natAbs : Int) = a * b.sign := by
        have hm : a * b = (b.natAbs : Int) * (a * b.sign) := by
          rw [Int.mul_comm a b.sign, ← Int.mul_assoc, ← bs, Int.mul_comm]
        rw [hm]; exact tdiv_of _ _ zb
      have q2 : (y.n.sign * (g * e)).tdiv e = y.n.sign * g := by
        rw [show y.n.sign * (g * e) = e * (y.n.sign * g) from by ac_rfl]; exact tdiv_of _ _ (by omega)
      rw [q1, q2, sb, xa]
      rcases hs with h2 | h2 <;> rw [h2]
      · rw [Int.mul_one, Int.one_mul, Int.mul_comm]
      · rw [show (-1 : Int) * g = -g from by omega, show a * -1 = -a from by omega, Int.neg_mul_neg, Int.mul_comm]
    have tD : timesD z ⟨y.n.sign * y.d, (y.n.natAbs : Int), -y.e2, -y.e5⟩ = x.d := by
      unfold timesD
      simp only []
      rw [G1, G2, ze, pab, ← h]
      show (c * e).tdiv e * (h' * (b.natAbs : Int)).tdiv (b.natAbs : Int) = x.d
      rw [Int.mul_comm c e, tdiv_of e c (by omega), Int.mul_comm h', tdiv_of _ _ zb, xc, Int.mul_comm]
    have hd := hx.d1
    rw [turn_sign y hyn]
    unfold timesP
    rw [tN, tD, if_pos ⟨ox, by omega⟩, ← h]
    obtain ⟨xn, xd, xe2, xe5⟩ := x
    simp only []
    congr 2 <;> omega
  · exact absurd h (by simp)

theorem right_zero_is {d t : Int} (h2 : d ≤ 9223372036854775807) (h : rightB 0 d t = true) : d = 1 ∧ t = 0 := by
  rw [right_eq 0 d t (by omega) h2] at h
  exact rightR_zero h

theorem right_good_of {n d t : Int} (h1 : n ≤ 9223372036854775807) (h2 : d ≤ 9223372036854775807) (hn : n ≠ 0) (h : rightB n d t = true) : Good n d t := by
  have f := right_fine h1 h2 h
  rw [right_eq n d t h1 h2] at h
  exact (right_good n d t hn (by omega)).1 h

/-- A form without an error is right. -/
theorem form_is_right {B : Int} (p : Pt) (h : Fit p.n p.d) (hb : p.Ok B) (he : (formP p).e = 0) : rightB (formP p).n (formP p).d (formP p).t = true := by
  obtain ⟨f1, f2, f3, f4, f5, f6⟩ := form_right p h he
  obtain ⟨g1, g2, g3, g4, g5⟩ := form_fine hb he
  rw [right_eq _ _ _ (by omega) g3]
  exact (right_good _ _ _ f1 (by omega)).2 ⟨by rw [f3]; exact h.d1, by rw [f3]; exact h.d2, by rw [f3]; exact h.d5, f2, by rw [f3]; exact f4, f5, f6⟩

/-- What is multiplied, and divided by the same, is what it was. -/
theorem mul_back (n1 d1 t1 n2 d2 t2 : Int) (h1 : n1 ≤ 9223372036854775807) (h2 : d1 ≤ 9223372036854775807) (h3 : n2 ≤ 9223372036854775807) (h4 : d2 ≤ 9223372036854775807) (r1 : rightB n1 d1 t1 = true) (r2 : rightB n2 d2 t2 = true) (hn : n2 ≠ 0)
    (he : (mulG n1 d1 t1 n2 d2 t2).e = 0) : rightB (mulG n1 d1 t1 n2 d2 t2).n (mulG n1 d1 t1 n2 d2 t2).d (mulG n1 d1 t1 n2 d2 t2).t = true ∧ divG (mulG n1 d1 t1 n2 d2 t2).n (mulG n1 d1 t1 n2 d2 t2).d (mulG n1 d1 t1 n2 d2 t2).t n2 d2 t2 = ⟨n1, d1, t1, 0⟩ := by
  have f1 := right_fine h1 h2 r1
  have f2 := right_fine h3 h4 r2
  have g2 := right_good_of h3 h4 hn r2
  have o2 := parts_ok n2 d2 t2 f2.1 f2.2.1 f2.2.2.1 (by omega) (by omega)
  have em : mulG n1 d1 t1 n2 d2 t2 = joinP (partsP n1 d1 t1) 1 (partsP n2 d2 t2) := by
    unfold mulG; rw [if_neg (by rw [r1, r2]; simp)]
  rw [em] at he ⊢
  by_cases z1 : n1 = 0
  · subst z1
    obtain ⟨rfl, rfl⟩ := right_zero_is h2 r1
    rw [parts_zero, join_zero_l _ _ _ (o2.more (by omega))]
    refine ⟨by rw [right_eq _ _ _ (by simp) (by simp)]; decide, ?_⟩
    unfold divG
    rw [if_neg (by rw [r2]; rw [show rightB 0 1 0 = true from by rw [right_eq _ _ _ (by simp) (by simp)]; decide]; simp), if_neg hn, parts_zero]
    exact join_zero_l _ _ _ ((turn_ok o2 (parts_ne n2 d2 t2 hn)).more (by omega))
  · have g1 := right_good_of h1 h2 z1 r1
    have o1 := parts_ok n1 d1 t1 f1.1 f1.2.1 f1.2.2.1 (by omega) (by omega)
    have fit1 := good_fit z1 g1
    have fit2 := good_fit hn g2
    have je : joinP (partsP n1 d1 t1) 1 (partsP n2 d2 t2) = match timesP (partsP n1 d1 t1) (partsP n2 d2 t2) with | none => over | some z => formP z := by
      unfold joinP; cases timesP (partsP n1 d1 t1) (partsP n2 d2 t2) <;> rfl
    rw [je] at he ⊢
    cases ht : timesP (partsP n1 d1 t1) (partsP n2 d2 t2) with
    | none => rw [ht] at he; exact absurd he (by decide)
    | some z =>
      rw [ht] at he
      simp only at he ⊢
      have fz := times_fit fit1 fit2 ht
      have oz := times_ok o1 o2 ht
      have rz := form_is_right z fz oz he
      refine ⟨rz, ?_⟩
      unfold divG
      rw [if_neg (by rw [rz, r2]; simp), if_neg hn, parts_form z fz he]
      unfold joinP
      rw [times_back fit1 fit2 o1.1 o1.2.2.1 ht]
      simp only [joinP]
      exact good_form z1 g1 f1.1

theorem mul_err (n1 d1 t1 n2 d2 t2 : Int) (r1 : rightB n1 d1 t1 = true) (r2 : rightB n2 d2 t2 = true) : (mulG n1 d1 t1 n2 d2 t2).e = 0 ∨ (mulG n1 d1 t1 n2 d2 t2).e = 10 := by
  unfold mulG; rw [if_neg (by rw [r1, r2]; simp)]
  exact join_err _ _ _

end Go.Proofs.YtpmibcdmaaagjaaDoor.Frac


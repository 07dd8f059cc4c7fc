/-
  Plain mathematics: what frac.Make makes, and what frac.Right calls right, is the document's answer. No program in this text.
-/
import Derived.Test.YtjklbnakgkffnaaDoorGM
namespace Go.Proofs.YtjklbnakgkffnaaDoor.Frac
open Go.Proofs.YtjklbnakgkffnaaDoor.Whole
set_option linter.unusedVariables false
set_option linter.unusedSimpArgs false

theorem tdiv_neg_l (a g : Int) : (-a).tdiv g = -(a.tdiv g) := Int.neg_tdiv _ _

theorem sign_odd (n : Int) (h : n ≠ 0) : odd n = n.sign * ((odd n).natAbs : Int) := by
  rcases Int.lt_or_le n 0 with hn | hn
  · have hp := odd_pos (-n) (by omega)
    rw [(odd_neg n h).1] at hp
    rw [Int.sign_eq_neg_one_of_neg hn]; omega
  · have hp := odd_pos n (by omega)
    rw [Int.sign_eq_one_of_pos (by omega)]; omega

theorem gcd_abs (a b : Int) : Int.gcd (a.natAbs : Int) (b.natAbs : Int) = Int.gcd a b := by
  unfold Int.gcd; simp

theorem sign_tdiv (s a g : Int) (hs : s = 1 ∨ s = -1) : (s * a).tdiv g = s * a.tdiv g := by
  rcases hs with rfl | rfl
  · simp
  · rw [show (-1 : Int) * a = -a from by omega, tdiv_neg_l]; omega

theorem ofS_eq (num den : Int) (hn : num ≠ 0) (hd : den ≠ 0) : ofS num den = ⟨num.sign * den.sign, ((odd num).natAbs : Int).tdiv (Int.gcd (odd num) (odd den)), ((odd den).natAbs : Int).tdiv (Int.gcd (odd num) (odd den)), o2 num - o2 den, o5 num - o5 den⟩ := by
  obtain ⟨a1, a5, a2⟩ := odd_abs num hn
  obtain ⟨b1, b5, b2⟩ := odd_abs den hd
  have e : ofS num den = ⟨num.sign * den.sign, (odd (num.natAbs : Int)).tdiv (Int.gcd (odd (num.natAbs : Int)) (odd (den.natAbs : Int))), (odd (den.natAbs : Int)).tdiv (Int.gcd (odd (num.natAbs : Int)) (odd (den.natAbs : Int))), o2 (num.natAbs : Int) - o2 (den.natAbs : Int), o5 (num.natAbs : Int) - o5 (den.natAbs : Int)⟩ := rfl
  rw [e, a1, a5, a2, b1, b5, b2, gcd_abs]

theorem canon_of (num den t : Int) (hn : num ≠ 0) (hd : den ≠ 0) : canon num den t = ⟨(ofS num den).s * (ofS num den).p, (ofS num den).q, (ofS num den).two + t, (ofS num den).five + t⟩ := by
  rw [ofS_eq num den hn hd]
  unfold canon
  have e : (odd num).tdiv (Int.gcd (odd num) (odd den)) = num.sign * ((odd num).natAbs : Int).tdiv (Int.gcd (odd num) (odd den)) := by
    have := sign_tdiv num.sign ((odd num).natAbs : Int) (Int.gcd (odd num) (odd den)) (sign_cases num hn)
    rw [← sign_odd num hn] at this
    exact this
  rw [e, ← Int.mul_assoc, Int.mul_comm den.sign]

theorem pow_pos (p q : Int) (k : Nat) (hp : 1 ≤ p) (hq : 1 ≤ q) : 1 ≤ p * q ^ k := by
  have h1 : 1 ≤ q ^ k := by
    have := Int.pow_pos (n := q) (m := k) (by omega)
    omega
  have := Int.mul_le_mul hp h1 (by omega) (by omega)
  omega

theorem top_pos (x : Sp) (h : 1 ≤ x.p) : 1 ≤ topS x := by
  unfold topS
  split
  · exact pow_pos _ _ _ h (by omega)
  · exact pow_pos _ _ _ h (by omega)

/-- The two ways to say the form. -/
theorem form_formS (x : Sp) (ten : Int) (hs : x.s = 1 ∨ x.s = -1) (hp : 1 ≤ x.p) (hl : topS x ≤ 9223372036854775807 → -1000 ≤ leastS x ∧ leastS x ≤ 1000) :
    formS x ten = formP ⟨x.s * x.p, x.q, x.two + ten, x.five + ten⟩ := by
  have ht := top_pos x hp
  have hn : x.s * x.p ≠ 0 := by rcases hs with h | h <;> rw [h] <;> omega
  have key : ∀ N : Int, N = x.s * topS x → formS x ten = formAt N x.q (leastS x + ten) := by
    intro N hN
    have ha : N.natAbs = (topS x).natAbs := by rw [hN]; rcases hs with h | h <;> rw [h] <;> omega
    unfold formS formAt
    by_cases h1 : 9223372036854775807 < topS x
    · rw [if_pos h1]
      by_cases h2 : leastS x + ten < -1000 ∨ 1000 < leastS x + ten
      · rw [if_pos h2]
      · rw [if_neg h2, if_neg (by omega)]
    · rw [if_neg h1]
      have := hl (by omega)
      by_cases h2 : leastS x + ten < -1000 ∨ 1000 < leastS x + ten
      · rw [if_pos h2, if_pos (by omega)]
      · rw [if_neg h2, if_neg (by omega), if_pos (by omega), hN, Int.add_comm ten]
  unfold formP
  simp only []
  rw [if_neg hn]
  unfold topS leastS at key
  by_cases hlt : x.two < x.five
  · rw [if_pos hlt, if_pos hlt] at key
    rw [if_pos (show x.two + ten ≤ x.five + ten by omega)]
    rw [show (x.five + ten - (x.two + ten)).toNat = (x.five - x.two).toNat from by omega]
    exact key _ (by rw [Int.mul_assoc])
  · rw [if_neg hlt, if_neg hlt] at key
    by_cases he : x.two = x.five
    · rw [if_pos (show x.two + ten ≤ x.five + ten by omega)]
      rw [show (x.five + ten - (x.two + ten)).toNat = 0 from by omega]
      rw [show x.two + ten = x.five + ten from by omega]
      refine key _ ?_
      rw [show (x.two - x.five).toNat = 0 from by omega]
      simp
    · rw [if_neg (show ¬ x.two + ten ≤ x.five + ten by omega)]
      rw [show (x.two + ten - (x.five + ten)).toNat = (x.two - x.five).toNat from by omega]
      exact key _ (by rw [Int.mul_assoc])

theorem least_in {B : Int} {x : Sp} (h : x.Ok B) (hB : B ≤ 1000) : -1000 ≤ leastS x ∧ leastS x ≤ 1000 := by
  obtain ⟨_, _, _, _, _, h1, h2, h3, h4⟩ := h
  unfold leastS
  split <;> omega

theorem formS_near (x : Sp) (ten : Int) (hx : x.Ok 900) : formS x (near ten) = formS x ten := by
  obtain ⟨_, _, _, _, _, h1, h2, h3, h4⟩ := hx
  have hl : -900 ≤ leastS x ∧ leastS x ≤ 900 := by unfold leastS; split <;> omega
  unfold near
  by_cases t1 : ten < -2000
  · rw [if_pos t1]
    unfold formS
    split
    · rfl
    · rw [if_pos (by omega), if_pos (by omega)]
  rw [if_neg t1]
  by_cases t2 : 2000 < ten
  · rw [if_pos t2]
    unfold formS
    split
    · rfl
    · rw [if_pos (by omega), if_pos (by omega)]
  · rw [if_neg t2]

theorem make_eq (num den ten : Int) (h1 : num ≤ 9223372036854775807) (h2 : den ≤ 9223372036854775807) : makeG num den ten = makeR num den ten := by
  by_cases ha : num < -9223372036854775807 ∨ den < -9223372036854775807
  · unfold makeG makeR; rw [if_pos ha, if_pos ha]
  by_cases hd : den = 0
  · unfold makeG makeR; rw [if_neg ha, if_neg ha, if_pos hd, if_pos hd]
  by_cases hn : num = 0
  · subst hn
    rw [make_of_zero den ten (by omega) hd]
    unfold makeR; rw [if_neg ha, if_neg hd, if_pos rfl]
  · have ok := ofS_ok num den hn hd (by omega) (by omega)
    rw [make_canon num den ten (by omega) (by omega) hn hd, canon_of num den _ hn hd]
    rw [← form_formS (ofS num den) (near ten) ok.1 ok.2.1 (fun _ => least_in ok (by omega))]
    rw [formS_near _ _ (ok.more (by omega))]
    unfold makeR; rw [if_neg ha, if_neg hd, if_neg hn]

theorem mul_mod0 (a b k : Int) (h : b % k = 0) : (a * b) % k = 0 := by
  rw [Int.mul_emod, h]; simp

theorem quo_mod (a k : Int) (g : Nat) (hg : (g : Int) ∣ a) (h : a % k ≠ 0) : a.tdiv g % k ≠ 0 := by
  rw [Int.tdiv_eq_ediv_of_dvd hg]
  intro hz
  apply h
  rw [← Int.mul_ediv_cancel' hg]
  exact mul_mod0 _ _ _ hz

theorem neg_mod (a k : Int) (h : a % k ≠ 0) : (-a) % k ≠ 0 := by
  intro hz
  apply h
  have h1 : k ∣ -a := Int.dvd_of_emod_eq_zero hz
  exact Int.emod_eq_zero_of_dvd (Int.dvd_neg.1 h1)

theorem abs_mod (a k : Int) (h : a % k ≠ 0) : (a.natAbs : Int) % k ≠ 0 := by
  rcases Int.lt_or_le a 0 with hn | hn
  · rw [show (a.natAbs : Int) = -a from by omega]; exact neg_mod a k h
  · rw [show (a.natAbs : Int) = a from by omega]; exact h

/-- What a quotient taken apart is like. -/
structure Fit (n d : Int) : Prop where
  n2 : n % 2 ≠ 0
  n5 : n % 5 ≠ 0
  d1 : 1 ≤ d
  d2 : d % 2 ≠ 0
  d5 : d % 5 ≠ 0
  co : Int.gcd n d = 1

theorem sign_mod (s a k : Int) (hs : s = 1 ∨ s = -1) (h : a % k ≠ 0) : (s * a) % k ≠ 0 := by
  rcases hs with rfl | rfl
  · simpa using h
  · rw [show (-1 : Int) * a = -a from by omega]; exact neg_mod a k h

theorem sign_gcd (s a b : Int) (hs : s = 1 ∨ s = -1) : Int.gcd (s * a) b = Int.gcd a b := by
  rcases hs with rfl | rfl
  · simp
  · rw [show (-1 : Int) * a = -a from by omega]; simp

theorem canon_fit (num den t : Int) (hn : num ≠ 0) (hd : den ≠ 0) : Fit (canon num den t).n (canon num den t).d := by
  obtain ⟨_, a2, a5⟩ := odd_spec num hn
  obtain ⟨_, b2, b5⟩ := odd_spec den hd
  have hs := sign_cases den hd
  have dl : ((Int.gcd (odd num) (odd den) : Nat) : Int) ∣ odd num := Int.gcd_dvd_left _ _
  have dr : ((Int.gcd (odd num) (odd den) : Nat) : Int) ∣ ((odd den).natAbs : Int) := by
    have := Int.gcd_dvd_right (odd num) (odd den)
    exact Int.dvd_natAbs.2 this
  have hp : 1 ≤ ((odd den).natAbs : Int) := by have := odd_ne den hd; omega
  refine ⟨sign_mod _ _ _ hs (quo_mod _ _ _ dl a2), sign_mod _ _ _ hs (quo_mod _ _ _ dl a5), tdiv_pos _ _ hp dr, quo_mod _ _ _ dr (abs_mod _ _ b2), quo_mod _ _ _ dr (abs_mod _ _ b5), ?_⟩
  show Int.gcd (den.sign * (odd num).tdiv (Int.gcd (odd num) (odd den))) (((odd den).natAbs : Int).tdiv (Int.gcd (odd num) (odd den))) = 1
  rw [sign_gcd _ _ _ hs, Int.tdiv_eq_ediv_of_dvd dl, Int.tdiv_eq_ediv_of_dvd dr]
  have := Int.gcd_ediv_gcd_ediv_gcd (i := odd num) (j := ((odd den).natAbs : Int)) (by rw [gcd_abs_r]; have := gcd_pos_r (odd num) ((odd den).natAbs : Int) hp; rw [gcd_abs_r] at this; omega)
  rw [gcd_abs_r] at this
  exact this

theorem gcd5 (d : Int) (h : d % 5 ≠ 0) : Int.gcd 5 d = 1 := by
  have h1 : Int.gcd 5 d ∣ 5 := Nat.gcd_dvd_left 5 d.natAbs
  have h2 : Int.gcd 5 d ≤ 5 := Nat.le_of_dvd (by omega) h1
  have h3 : ((Int.gcd 5 d : Nat) : Int) ∣ d := Int.gcd_dvd_right _ _
  rcases (show Int.gcd 5 d = 0 ∨ Int.gcd 5 d = 1 ∨ Int.gcd 5 d = 2 ∨ Int.gcd 5 d = 3 ∨ Int.gcd 5 d = 4 ∨ Int.gcd 5 d = 5 by omega) with e | e | e | e | e | e
  · rw [e] at h1; omega
  · exact e
  · rw [e] at h1; omega
  · rw [e] at h1; omega
  · rw [e] at h1; omega
  · rw [e] at h3
    exact absurd (Int.emod_eq_zero_of_dvd h3) h
theorem gcd2 (d : Int) (h : d % 2 ≠ 0) : Int.gcd 2 d = 1 := by
  have h1 : Int.gcd 2 d ∣ 2 := Nat.gcd_dvd_left 2 d.natAbs
  have h2 : Int.gcd 2 d ≤ 2 := Nat.le_of_dvd (by omega) h1
  have h3 : ((Int.gcd 2 d : Nat) : Int) ∣ d := Int.gcd_dvd_right _ _
  rcases (show Int.gcd 2 d = 0 ∨ Int.gcd 2 d = 1 ∨ Int.gcd 2 d = 2 by omega) with e | e | e
  · rw [e] at h1; omega
  · exact e
  · rw [e] at h3
    exact absurd (Int.emod_eq_zero_of_dvd h3) h

theorem co_mul (a b d : Int) (h1 : Int.gcd a d = 1) (h2 : Int.gcd b d = 1) : Int.gcd (a * b) d = 1 := by
  unfold Int.gcd at *
  rw [Int.natAbs_mul]
  exact Nat.Coprime.mul_left h1 h2

theorem co_pow (a d : Int) (k : Nat) (h : Int.gcd a d = 1) : Int.gcd (a ^ k) d = 1 := by
  induction k with
  | zero => simp
  | succ k ih => rw [Int.pow_succ]; exact co_mul _ _ _ ih h

theorem pow2_mod5 : ∀ t : Nat, (2 : Int) ^ t % 5 ≠ 0
  | 0 => by decide
  | t + 1 => by rw [Int.pow_succ]; exact mod5_mul _ _ (pow2_mod5 t) (by decide)

/-- A form tells a right frac. -/
theorem form_right (p : Pt) (h : Fit p.n p.d) (he : (formP p).e = 0) : (formP p).n ≠ 0 ∧ (formP p).n % 10 ≠ 0 ∧ (formP p).d = p.d ∧ Int.gcd (formP p).n p.d = 1 ∧ -1000 ≤ (formP p).t ∧ (formP p).t ≤ 1000 := by
  have hn : p.n ≠ 0 := fun h0 => h.n2 (by rw [h0]; decide)
  have at_ : ∀ N t : Int, N % 10 ≠ 0 → Int.gcd N p.d = 1 → (formAt N p.d t).e = 0 → (formAt N p.d t).n ≠ 0 ∧ (formAt N p.d t).n % 10 ≠ 0 ∧ (formAt N p.d t).d = p.d ∧ Int.gcd (formAt N p.d t).n p.d = 1 ∧ -1000 ≤ (formAt N p.d t).t ∧ (formAt N p.d t).t ≤ 1000 := by
    intro N t h10 hc hz
    unfold formAt at *
    split at hz
    · exact absurd hz (by decide)
    · rename_i hf
      rw [if_neg hf]
      split at hz
      · rename_i hf2
        rw [if_pos hf2]
        exact ⟨fun h0 => h10 (by show N % 10 = 0; rw [show N = 0 from h0]; decide), h10, rfl, hc, by show -1000 ≤ t; omega, by show t ≤ 1000; omega⟩
      · exact absurd hz (by decide)
  unfold formP at *
  rw [if_neg hn] at *
  by_cases hle : p.e2 ≤ p.e5
  · rw [if_pos hle] at *
    refine at_ _ _ ?_ (co_mul _ _ _ h.co (co_pow _ _ _ (gcd5 p.d h.d5))) he
    have := mod2_mul p.n (5 ^ (p.e5 - p.e2).toNat) h.n2 (pow5_mod2 _)
    omega
  · rw [if_neg hle] at *
    refine at_ _ _ ?_ (co_mul _ _ _ h.co (co_pow _ _ _ (gcd2 p.d h.d2))) he
    have := mod5_mul p.n (2 ^ (p.e2 - p.e5).toNat) h.n5 (pow2_mod5 _)
    omega

/-- What the document calls right, said at length. -/
structure Good (n d t : Int) : Prop where
  d1 : 1 ≤ d
  d2 : d % 2 ≠ 0
  d5 : d % 5 ≠ 0
  n10 : n % 10 ≠ 0
  co : Int.gcd n d = 1
  t1 : -1000 ≤ t
  t2 : t ≤ 1000

theorem right_good (n d t : Int) (hn : n ≠ 0) (hf : -9223372036854775807 ≤ n) : rightR n d t = true ↔ Good n d t := by
  unfold rightR
  rw [if_neg hn]
  constructor
  · intro h
    simp [hf] at h
    obtain ⟨⟨⟨⟨⟨⟨h1, h2⟩, h3⟩, h4⟩, h5⟩, h6⟩, h7⟩ := h
    exact ⟨h1, by omega, by omega, by omega, h5, h6, h7⟩
  · rintro ⟨h1, h2, h3, h4, h5, h6, h7⟩
    simp [hf, h1, h5, h6, h7]
    omega

/-- The parts of a right frac: nothing is left to be taken out. -/
theorem good_parts {n d t : Int} (hn : n ≠ 0) (h : Good n d t) : odd d = d ∧ o2 d = 0 ∧ o5 d = 0 ∧ Int.gcd (odd n) d = 1 ∧ (o2 n = 0 ∨ o5 n = 0) := by
  obtain ⟨a, b, c⟩ := odd_is d d 0 0 (by have := h.d1; omega) (by simp) h.d2 h.d5
  obtain ⟨e, _, _⟩ := odd_spec n hn
  refine ⟨a, by omega, by omega, ?_, ?_⟩
  · have hd : odd n ∣ n := ⟨5 ^ (o5 n).toNat * 2 ^ (o2 n).toNat, by rw [← Int.mul_assoc, e]⟩
    have h1 : Int.gcd (odd n) d ∣ Int.gcd n d := by
      have g1 : ((Int.gcd (odd n) d : Nat) : Int) ∣ n := Int.dvd_trans (Int.gcd_dvd_left _ _) hd
      exact Int.dvd_gcd g1 (Int.gcd_dvd_right _ _)
    rw [h.co] at h1
    exact Nat.dvd_one.1 h1
  · have p2 : 0 ≤ o2 n := Int.natCast_nonneg _
    have p5 : 0 ≤ o5 n := Int.natCast_nonneg _
    rcases (show o2 n = 0 ∨ o5 n = 0 ∨ (1 ≤ o2 n ∧ 1 ≤ o5 n) by omega) with h0 | h0 | ⟨h2, h5⟩
    · exact .inl h0
    · exact .inr h0
    · exfalso
      apply h.n10
      obtain ⟨i, hi⟩ : ∃ i, (o2 n).toNat = i + 1 := ⟨(o2 n).toNat - 1, by omega⟩
      obtain ⟨j, hj⟩ : ∃ j, (o5 n).toNat = j + 1 := ⟨(o5 n).toNat - 1, by omega⟩
      rw [hi, hj, Int.pow_succ, Int.pow_succ] at e
      have hm : odd n * (5 ^ j * 5) * (2 ^ i * 2) = 10 * (odd n * 5 ^ j * 2 ^ i) := by
        rw [show (10 : Int) = 5 * 2 from rfl]; ac_rfl
      have : n = 10 * (odd n * 5 ^ j * 2 ^ i) := e.symm.trans hm
      rw [this]; exact Int.mul_emod_right _ _

theorem parts_eq (n d t : Int) (hn : n ≠ 0) : partsP n d t = ⟨odd n, d, o2 n + t, o5 n + t⟩ := by
  unfold partsP; rw [apart_eq n t hn]

/-- A right frac's form is it. -/
theorem good_form {n d t : Int} (hn : n ≠ 0) (h : Good n d t) (hb : n.natAbs ≤ 9223372036854775807) : formP (partsP n d t) = ⟨n, d, t, 0⟩ := by
  obtain ⟨_, _, _, _, hz⟩ := good_parts hn h
  obtain ⟨e, _, _⟩ := odd_spec n hn
  have p2 : 0 ≤ o2 n := Int.natCast_nonneg _
  have p5 : 0 ≤ o5 n := Int.natCast_nonneg _
  rw [parts_eq n d t hn]
  unfold formP
  simp only []
  rw [if_neg (odd_ne n hn)]
  have t1 := h.t1
  have t2 := h.t2
  by_cases hle : o2 n + t ≤ o5 n + t
  · have h0 : o2 n = 0 := by omega
    rw [if_pos hle, show (o5 n + t - (o2 n + t)).toNat = (o5 n).toNat from by omega, h0]
    rw [h0] at e
    simp at e
    unfold formAt
    rw [e, if_neg (by omega), if_pos hb]
    simp
  · have h0 : o5 n = 0 := by omega
    rw [if_neg hle, show (o2 n + t - (o5 n + t)).toNat = (o2 n).toNat from by omega, h0]
    rw [h0] at e
    simp at e
    unfold formAt
    rw [e, if_neg (by omega), if_pos hb]
    simp

theorem canon_good {n d t : Int} (hn : n ≠ 0) (h : Good n d t) : canon n d t = partsP n d t := by
  obtain ⟨a, b, c, g, _⟩ := good_parts hn h
  have d1 := h.d1
  rw [parts_eq n d t hn]
  unfold canon
  rw [a, b, c, g, Int.sign_eq_one_of_pos (by omega)]
  have : ((d.natAbs : Nat) : Int) = d := by omega
  simp [this]

theorem right_eq (n d t : Int) (h1 : n ≤ 9223372036854775807) (h2 : d ≤ 9223372036854775807) : rightB n d t = rightR n d t := by
  unfold rightB
  by_cases hn : n = 0
  · subst hn
    by_cases hd : d = 0
    · subst hd
      have : makeG 0 0 t = ⟨0, 0, 0, 11⟩ := by unfold makeG; rw [if_neg (by omega), if_pos rfl]
      rw [this]; unfold rightR; rw [if_pos rfl]; simp
    by_cases hd2 : d < -9223372036854775807
    · have : makeG 0 d t = ⟨0, 0, 0, 1⟩ := by unfold makeG; rw [if_pos (.inr hd2)]
      rw [this]; unfold rightR; rw [if_pos rfl]
      rw [Bool.eq_iff_iff]; simp; omega
    rw [make_of_zero d t (by omega) hd]
    unfold rightR; rw [if_pos rfl, Bool.eq_iff_iff]
    simp
    constructor
    · rintro ⟨rfl, rfl⟩; exact ⟨rfl, rfl⟩
    · rintro ⟨rfl, rfl⟩; exact ⟨rfl, rfl⟩
  by_cases hf : n < -9223372036854775807
  · have : makeG n d t = ⟨0, 0, 0, 1⟩ := by unfold makeG; rw [if_pos (.inl hf)]
    rw [this]; unfold rightR; rw [if_neg hn, Bool.eq_iff_iff]; simp; omega
  rw [Bool.eq_iff_iff, right_good n d t hn (by omega), beq_iff_eq]
  constructor
  · intro h
    by_cases hd : d < -9223372036854775807
    · have : makeG n d t = ⟨0, 0, 0, 1⟩ := by unfold makeG; rw [if_pos (.inr hd)]
      rw [this] at h; simp at h
    by_cases hd0 : d = 0
    · have : makeG n d t = ⟨0, 0, 0, 11⟩ := by unfold makeG; rw [if_neg (by omega), if_pos hd0]
      rw [this] at h; simp at h
    rw [make_canon n d t (by omega) (by omega) hn hd0] at h
    have fit := canon_fit n d (near t) hn hd0
    obtain ⟨f1, f2, f3, f4, f5, f6⟩ := form_right _ fit (by rw [h])
    rw [h] at f1 f2 f3 f4 f5 f6
    simp only at f1 f2 f3 f4 f5 f6
    rw [← f3] at f4
    exact ⟨by rw [f3]; exact fit.d1, by rw [f3]; exact fit.d2, by rw [f3]; exact fit.d5, f2, f4, f5, f6⟩
  · intro h
    have d1 := h.d1
    have t1 := h.t1
    have t2 := h.t2
    rw [make_canon n d t (by omega) (by omega) hn (by omega), near_same t (by omega) (by omega), canon_good hn h]
    exact good_form hn h (by omega)

theorem formAt_zero (N d t : Int) (he : (formAt N d t).e ≠ 0) : formAt N d t = over := by
  unfold formAt at *
  split
  · rfl
  · rename_i h
    rw [if_neg h] at he
    split
    · rename_i h2
      rw [if_pos h2] at he
      exact absurd rfl he
    · rfl

theorem form_over (p : Pt) (he : (formP p).e ≠ 0) : formP p = over := by
  unfold formP at *
  split
  · rename_i h
    rw [if_pos h] at he
    exact absurd rfl he
  · rename_i h
    rw [if_neg h] at he
    split
    · rename_i h2
      rw [if_pos h2] at he
      exact formAt_zero _ _ _ he
    · rename_i h2
      rw [if_neg h2] at he
      exact formAt_zero _ _ _ he

theorem right_zero (t : Int) : rightB 0 0 t = false := by
  unfold rightB
  have : makeG 0 0 t = ⟨0, 0, 0, 11⟩ := by unfold makeG; rw [if_neg (by omega), if_pos rfl]
  rw [this]; simp

/-- What is made is right, just if there is no error. -/
theorem make_right (num den ten : Int) (h1 : num ≤ 9223372036854775807) (h2 : den ≤ 9223372036854775807) : rightB (makeG num den ten).n (makeG num den ten).d (makeG num den ten).t = ((makeG num den ten).e == 0) := by
  by_cases ha : num < -9223372036854775807 ∨ den < -9223372036854775807
  · have : makeG num den ten = ⟨0, 0, 0, 1⟩ := by unfold makeG; rw [if_pos ha]
    rw [this]; exact right_zero 0
  by_cases hd : den = 0
  · have : makeG num den ten = ⟨0, 0, 0, 11⟩ := by unfold makeG; rw [if_neg ha, if_pos hd]
    rw [this]; exact right_zero 0
  by_cases hn : num = 0
  · subst hn
    rw [make_of_zero den ten (by omega) hd, right_eq _ _ _ (by simp) (by simp)]
    decide
  have fine := make_fine num den ten h1 h2
  rw [make_canon num den ten (by omega) (by omega) hn hd] at *
  by_cases he : (formP (canon num den (near ten))).e = 0
  · obtain ⟨f1, f2, f3, f4, f5, f6⟩ := form_right _ (canon_fit num den (near ten) hn hd) he
    obtain ⟨g1, g2, g3, g4, g5⟩ := fine he
    have fit := canon_fit num den (near ten) hn hd
    rw [right_eq _ _ _ (by omega) g3, he]
    refine (right_good _ _ _ f1 (by omega)).2 ⟨by rw [f3]; exact fit.d1, by rw [f3]; exact fit.d2, by rw [f3]; exact fit.d5, f2, by rw [f3]; exact f4, f5, f6⟩
  · have e2 : ((formP (canon num den (near ten))).e == 0) = false := by simpa using he
    rw [e2, form_over _ he]
    exact right_zero 0

end Go.Proofs.YtjklbnakgkffnaaDoor.Frac

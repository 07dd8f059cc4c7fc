/-
  Plain mathematics: the powers of a right frac by products, one behind the other, and below 0 by a quotient. No program in this text.
-/
import Derived.Test.YtndinbefljajcaaDoorBP
namespace Go.Proofs.YtndinbefljajcaaDoor.Frac
open Go.Proofs.YtndinbefljajcaaDoor.Whole
set_option linter.unusedVariables false
set_option linter.unusedSimpArgs false

theorem pow_mod2 (a : Int) (h : a % 2 ≠ 0) : ∀ i : Nat, a ^ i % 2 ≠ 0
  | 0 => by simp
  | i + 1 => by rw [Int.pow_succ]; exact mod2_mul _ _ (pow_mod2 a h i) h
theorem pow_mod5 (a : Int) (h : a % 5 ≠ 0) : ∀ i : Nat, a ^ i % 5 ≠ 0
  | 0 => by simp
  | i + 1 => by rw [Int.pow_succ]; exact mod5_mul _ _ (pow_mod5 a h i) h
theorem pow_one_le (a : Int) (h : 1 ≤ a) (i : Nat) : 1 ≤ a ^ i := by
  have := Int.pow_pos (n := a) (m := i) (by omega)
  omega

theorem pow_fit {y : Pt} (h : Fit y.n y.d) (i : Nat) : Fit (powP y i).n (powP y i).d :=
  ⟨pow_mod2 _ h.n2 i, pow_mod5 _ h.n5 i, pow_one_le _ h.d1 i, pow_mod2 _ h.d2 i, pow_mod5 _ h.d5 i, co_pow_r _ _ _ (co_pow _ _ _ h.co)⟩

theorem pow_okB {y : Pt} (h : Fit y.n y.d) (i : Nat) (hf : fitsP (powP y i)) : (powP y i).Ok ((((i : Int) * y.e2).natAbs : Int) + (((i : Int) * y.e5).natAbs : Int)) := by
  obtain ⟨h1, h2⟩ := hf
  have hd := (pow_fit h i).d1
  refine ⟨h1, hd, by omega, ?_, ?_, ?_, ?_⟩
  · show _ ≤ (i : Int) * y.e2; omega
  · show (i : Int) * y.e2 ≤ _; omega
  · show _ ≤ (i : Int) * y.e5; omega
  · show (i : Int) * y.e5 ≤ _; omega

theorem powN_ok {n d t : Int} (hn : n ≠ 0) (h : Good n d t) (k : Nat) (he : (powN n d t k).e = 0) : fitsP (powP (partsP n d t) k) ∧ powN n d t k = formP (powP (partsP n d t) k) := by
  have e := pow_form hn h k
  by_cases hf : fitsP (powP (partsP n d t) k)
  · rw [if_pos hf] at e; exact ⟨hf, e.symm⟩
  · rw [if_neg hf] at e
    rw [← e] at he
    exact absurd he (by decide)

theorem powN_over (n d t : Int) (k : Nat) (he : (powN n d t k).e ≠ 0) : powN n d t k = over := by
  unfold powN at *
  split
  · rename_i hc
    rw [if_pos hc] at he
    exact absurd rfl he
  · rfl

theorem powN_mono (n d t : Int) (hn : n ≠ 0) (hd : 1 ≤ d) (i j : Nat) (h : i ≤ j) (he : (powN n d t i).e ≠ 0) : powN n d t j = over := by
  have a1 := abs_pow_mono n i j hn h
  have a2 := abs_pow_mono d i j (by omega) h
  have a3 : ((i : Int) * t).natAbs ≤ ((j : Int) * t).natAbs := by
    rw [Int.natAbs_mul, Int.natAbs_mul]
    exact Nat.mul_le_mul_right _ (by omega)
  unfold powN at *
  split at he
  · exact absurd rfl he
  · rename_i hc
    rw [if_neg]
    intro c
    apply hc
    exact ⟨by omega, by omega, by omega, by omega⟩

/-- One product more. -/
theorem powN_step {n d t : Int} (h1 : n ≤ 9223372036854775807) (h2 : d ≤ 9223372036854775807) (hn : n ≠ 0) (h : Good n d t) (r : rightB n d t = true) (i : Nat) (he : (powN n d t i).e = 0) : mulG (powN n d t i).n (powN n d t i).d (powN n d t i).t n d t = powN n d t (i + 1) := by
  obtain ⟨hf, e⟩ := powN_ok hn h i he
  have fit := good_fit hn h
  have fp := pow_fit fit i
  rw [e] at he ⊢
  have rx := form_is_right _ fp (pow_okB fit i hf) he
  unfold mulG
  rw [if_neg (by rw [rx, r]; simp), parts_form _ fp he, join_powP _ fit.co (parts_ne n d t hn) fit.d1 1 i, ← pow_form hn h (i + 1)]
  by_cases hg : fitsP (powP (partsP n d t) (i + 1))
  · rw [if_pos hg, if_pos hg]
  · rw [if_neg hg, if_neg hg, if_neg (by omega)]

theorem powG_up {n d t : Int} (hn : n ≠ 0) (h : Good n d t) (r : rightB n d t = true) (k : Nat) (hk : k ≤ 99) : powG n d t k = powN n d t k := by
  unfold powG
  rw [if_neg (by rw [r]; simp; omega), if_pos (by omega), Int.toNat_natCast]
  exact pow_up_is hn h k

theorem sign_pow (n : Int) : ∀ k : Nat, (n ^ k).sign = n.sign ^ k
  | 0 => by simp
  | k + 1 => by rw [Int.pow_succ, Int.sign_mul, sign_pow n k, Int.pow_succ]

theorem turn_pow (y : Pt) (hn : y.n ≠ 0) (k : Nat) : powP (turnP y) k = turnP (powP y k) := by
  have hk : (powP y k).n ≠ 0 := Int.pow_ne_zero hn
  rw [turn_sign y hn, turn_sign (powP y k) hk]
  unfold powP
  simp only []
  rw [sign_pow, Int.mul_pow, Int.natAbs_pow, Int.natCast_pow, Int.mul_neg, Int.mul_neg]

theorem turn_fit {y : Pt} (h : Fit y.n y.d) : Fit (turnP y).n (turnP y).d := by
  have hn : y.n ≠ 0 := fun h0 => h.n2 (by rw [h0]; decide)
  rw [turn_sign y hn]
  have hs := sign_cases y.n hn
  refine ⟨sign_mod _ _ _ hs h.d2, sign_mod _ _ _ hs h.d5, by show 1 ≤ (y.n.natAbs : Int); omega, abs_mod _ _ h.n2, abs_mod _ _ h.n5, ?_⟩
  show Int.gcd (y.n.sign * y.d) (y.n.natAbs : Int) = 1
  rw [sign_gcd _ _ _ hs, gcd_abs_r, Int.gcd_comm]
  exact h.co

theorem fits_turn {y : Pt} (hn : y.n ≠ 0) (h : fitsP y) : fitsP (turnP y) := by
  rw [turn_sign y hn]
  obtain ⟨h1, h2⟩ := h
  refine ⟨?_, ?_⟩
  · show (y.n.sign * y.d).natAbs ≤ _
    rw [abs_sign _ _ (sign_cases y.n hn)]; exact h2
  · show ((y.n.natAbs : Int)).natAbs ≤ _
    omega

theorem powP_one (y : Pt) : powP y 1 = y := by
  obtain ⟨a, b, c, d⟩ := y
  unfold powP
  simp only [Int.pow_succ, Int.pow_zero, Int.one_mul]
  simp

/-- Below 0 a power is 1 by that above. -/
theorem pow_div {n d t : Int} (h1 : n ≤ 9223372036854775807) (h2 : d ≤ 9223372036854775807) (hn : n ≠ 0) (h : Good n d t) (r : rightB n d t = true) (k : Nat) (hk : 1 ≤ k) (hk' : k ≤ 99) (he : (powN n d t k).e = 0) :
    divG 1 1 0 (powN n d t k).n (powN n d t k).d (powN n d t k).t = powG n d t (-(k : Int)) := by
  obtain ⟨hf, e⟩ := powN_ok hn h k he
  have fit := good_fit hn h
  have fp := pow_fit fit k
  have pn := parts_ne n d t hn
  have kn : (powP (partsP n d t) k).n ≠ 0 := Int.pow_ne_zero pn
  rw [e] at he ⊢
  have rx := form_is_right _ fp (pow_okB fit k hf) he
  obtain ⟨f1, _⟩ := form_right _ fp he
  have p1 : partsP 1 1 0 = ⟨1, 1, 0, 0⟩ := by
    unfold partsP; rw [one_apart]
  have r1 : rightB 1 1 0 = true := by rw [right_eq 1 1 0 (by omega) (by omega)]; decide
  have tf := turn_fit fp
  have tn : (turnP (powP (partsP n d t) k)).n ≠ 0 := fun h0 => tf.n2 (by rw [h0]; decide)
  have tfit := turn_fit fit
  have tpn : (turnP (partsP n d t)).n ≠ 0 := fun h0 => tfit.n2 (by rw [h0]; decide)
  have ft := fits_turn kn hf
  unfold divG powG
  rw [if_neg (by rw [rx, r1]; simp), if_neg f1, parts_form _ fp he, p1, if_neg (by rw [r]; simp; omega), if_neg (by omega), if_neg hn, one_apart]
  rw [join_from_one _ 1 tf.co tn tf.d1, powP_one, if_pos ft]
  rw [show (-(-(k : Int))).toNat = k from by omega, join_from_one _ k tfit.co tpn tfit.d1, turn_pow _ pn, if_pos ft]

theorem powG_zero_up (k : Nat) (hk : 1 ≤ k) (hk' : k ≤ 99) : powG 0 1 0 k = ⟨0, 1, 0, 0⟩ := by
  have r : rightB 0 1 0 = true := by rw [right_eq _ _ _ (by omega) (by omega)]; decide
  unfold powG
  rw [if_neg (by rw [r]; simp; omega), if_pos (by omega), Int.toNat_natCast, one_apart, parts_zero]
  obtain ⟨m, rfl⟩ : ∃ m, k = m + 1 := ⟨k - 1, by omega⟩
  exact join_one_zero m _ _

theorem powG_zero_down (k : Nat) (hk : 1 ≤ k) (hk' : k ≤ 99) : powG 0 1 0 (-(k : Int)) = ⟨0, 0, 0, 11⟩ := by
  have r : rightB 0 1 0 = true := by rw [right_eq _ _ _ (by omega) (by omega)]; decide
  unfold powG
  rw [if_neg (by rw [r]; simp; omega), if_neg (by omega), if_pos rfl]

theorem powG_none (n d t : Int) (r : rightB n d t = true) : powG n d t 0 = ⟨1, 1, 0, 0⟩ := by
  unfold powG
  rw [if_neg (by rw [r]; simp), if_pos (by omega), one_apart]
  simp [joinP, formP, formAt]

/-- The powers as the law makes them: one product behind the other. -/
theorem powG_step (n d t : Int) (h1 : n ≤ 9223372036854775807) (h2 : d ≤ 9223372036854775807) (r : rightB n d t = true) (i : Nat) (hi : i + 1 ≤ 99) (he : (powG n d t i).e = 0) : mulG (powG n d t i).n (powG n d t i).d (powG n d t i).t n d t = powG n d t ((i + 1 : Nat) : Int) := by
  by_cases hn : n = 0
  · subst hn
    obtain ⟨rfl, rfl⟩ := right_zero_is h2 r
    rw [powG_zero_up (i + 1) (by omega) hi]
    by_cases hi0 : i = 0
    · subst hi0
      rw [show ((0 : Nat) : Int) = 0 from rfl, powG_none 0 1 0 r]
      decide +kernel
    · rw [powG_zero_up i (by omega) (by omega)]
      decide +kernel
  · have g := right_good_of h1 h2 hn r
    rw [powG_up hn g r i (by omega)] at he ⊢
    rw [powG_up hn g r (i + 1) hi]
    exact powN_step h1 h2 hn g r i he

theorem powG_stays (n d t : Int) (h1 : n ≤ 9223372036854775807) (h2 : d ≤ 9223372036854775807) (r : rightB n d t = true) (i j : Nat) (h : i ≤ j) (hj : j ≤ 99) (he : (powG n d t i).e ≠ 0) : powG n d t j = powG n d t i := by
  by_cases hn : n = 0
  · subst hn
    obtain ⟨rfl, rfl⟩ := right_zero_is h2 r
    exfalso; apply he
    by_cases hi0 : i = 0
    · subst hi0
      rw [show ((0 : Nat) : Int) = 0 from rfl, powG_none 0 1 0 r]
    · rw [powG_zero_up i (by omega) (by omega)]
  · have g := right_good_of h1 h2 hn r
    rw [powG_up hn g r i (by omega)] at he ⊢
    rw [powG_up hn g r j hj, powN_mono n d t hn g.d1 i j h he, powN_over n d t i he]

theorem powG_fine (n d t : Int) (h1 : n ≤ 9223372036854775807) (h2 : d ≤ 9223372036854775807) (r : rightB n d t = true) (i : Nat) (hi : i ≤ 99) : (powG n d t i).Fine := by
  have f := right_fine h1 h2 r
  unfold powG
  rw [if_neg (by rw [r]; simp; omega), if_pos (by omega)]
  exact join_fine (parts_ok n d t f.1 f.2.1 f.2.2.1 (by omega) (by omega)) _ (apart_ok 1 0 (by decide) (by omega) (by omega)).1

theorem powG_err (n d t : Int) (r : rightB n d t = true) (i : Nat) (hi : i ≤ 99) : (powG n d t i).e = 0 ∨ powG n d t i = over := by
  unfold powG
  rw [if_neg (by rw [r]; simp; omega), if_pos (by omega)]
  have je : ∀ (k : Nat) (x y : Pt), (joinP x k y).e = 0 ∨ joinP x k y = over := by
    intro k
    induction k with
    | zero => intro x y; by_cases he : (formP x).e = 0
              · exact .inl he
              · exact .inr (form_over x he)
    | succ k ih =>
      intro x y
      unfold joinP
      cases timesP x y with
      | none => exact .inr rfl
      | some z => exact ih z y
  exact je _ _ _

end Go.Proofs.YtndinbefljajcaaDoor.Frac

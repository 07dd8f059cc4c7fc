/-
  Plain mathematics of worths: a power of a power is that of their product; a power is a product of so many. No program in this text.
-/
import Derived.Test.YtndinbefljajcaaDoorVK
namespace Go.Proofs.YtndinbefljajcaaDoor.Worth
open Go.Proofs.YtndinbefljajcaaDoor.Frac (Got mulG divG powG makeG rightB Pt Fit timesN timesD timesP formP joinP partsP over powN powP fitsP)
open Go.Proofs.YtndinbefljajcaaDoor.Dims (D7 dZero dOf get_of addG subG timesG reckonG)
set_option linter.unusedVariables false
set_option linter.unusedSimpArgs false

theorem pow_right (n d t : Int) (h1 : n ≤ 9223372036854775807) (h2 : d ≤ 9223372036854775807) (r : rightB n d t = true) (i : Nat) (hi : i ≤ 99) (he : (powG n d t i).e = 0) : rightB (powG n d t i).n (powG n d t i).d (powG n d t i).t = true := by
  by_cases hn : n = 0
  · subst hn
    obtain ⟨rfl, rfl⟩ := Frac.right_zero_is h2 r
    by_cases h0 : i = 0
    · subst h0
      rw [show ((0 : Nat) : Int) = 0 from rfl, Frac.powG_none 0 1 0 r]
      exact Frac.one_right
    · rw [Frac.powG_zero_up i (by omega) hi]
      exact Frac.zero_right
  · have hg := Frac.right_good_of h1 h2 hn r
    rw [Frac.powG_up hn hg r i hi] at he ⊢
    obtain ⟨hf, e⟩ := Frac.powN_ok hn hg i he
    have hF := Frac.good_fit hn hg
    rw [e] at he ⊢
    exact Frac.form_is_right _ (Frac.pow_fit hF i) (Frac.pow_okB hF i hf) he

theorem powN_is {n d t : Int} {k : Nat} (he : (powN n d t k).e = 0) : powN n d t k = ⟨n ^ k, d ^ k, k * t, 0⟩ ∧ (n ^ k).natAbs ≤ 9223372036854775807 ∧ (d ^ k).natAbs ≤ 9223372036854775807 ∧ -1000 ≤ k * t ∧ k * t ≤ 1000 := by
  unfold powN at he ⊢
  split at he
  · rename_i h
    rw [if_pos h]
    exact ⟨rfl, h⟩
  · exact absurd he (by decide)
theorem powN_mul (n d t : Int) (i k : Nat) : powN (n ^ i) (d ^ i) (i * t) k = powN n d t (i * k) := by
  unfold powN
  rw [← Int.pow_mul, ← Int.pow_mul, show (k : Int) * ((i : Int) * t) = ((i * k : Nat) : Int) * t from by rw [Int.natCast_mul, ← Int.mul_assoc, Int.mul_comm (k : Int) (i : Int)]]
theorem powN_one (k : Nat) : powN 1 1 0 k = ⟨1, 1, 0, 0⟩ := by
  unfold powN
  rw [Int.one_pow, Int.mul_zero, if_pos (by decide)]

/-- A power of a power is that of their product. -/
theorem pow_pow (n d t : Int) (h1 : n ≤ 9223372036854775807) (h2 : d ≤ 9223372036854775807) (r : rightB n d t = true) (i k : Nat) (hi : i ≤ 9) (hk : k ≤ 9) (he : (powG n d t i).e = 0) :
    powG (powG n d t i).n (powG n d t i).d (powG n d t i).t k = powG n d t ((i * k : Nat) : Int) := by
  have hik : i * k ≤ 99 := by
    have := Nat.mul_le_mul hi hk
    omega
  have hr := pow_right n d t h1 h2 r i (by omega) he
  by_cases hn : n = 0
  · subst hn
    obtain ⟨rfl, rfl⟩ := Frac.right_zero_is h2 r
    by_cases h0 : i = 0
    · subst h0
      rw [show ((0 : Nat) : Int) = 0 from rfl, Frac.powG_none 0 1 0 r] at hr ⊢
      simp only at hr ⊢
      rw [Nat.zero_mul, show ((0 : Nat) : Int) = 0 from rfl, Frac.powG_none 0 1 0 r]
      have hg := Frac.right_good_of (n := 1) (d := 1) (t := 0) (by omega) (by omega) (by omega) hr
      rw [Frac.powG_up (by omega) hg hr k (by omega), powN_one]
    · rw [Frac.powG_zero_up i (by omega) (by omega)] at hr ⊢
      simp only at hr ⊢
      by_cases hk0 : k = 0
      · subst hk0
        rw [Nat.mul_zero]
      · have : 1 ≤ i * k := Nat.mul_pos (by omega) (by omega)
        rw [Frac.powG_zero_up k (by omega) (by omega), Frac.powG_zero_up (i * k) this hik]
  · have hg := Frac.right_good_of h1 h2 hn r
    have hu := Frac.powG_up hn hg r i (by omega)
    rw [hu] at he hr ⊢
    obtain ⟨e, b1, b2, _, _⟩ := powN_is he
    rw [e] at hr ⊢
    simp only at hr ⊢
    have hn' : n ^ i ≠ 0 := Int.pow_ne_zero hn
    have hg' := Frac.right_good_of (by omega) (by omega) hn' hr
    rw [Frac.powG_up hn' hg' hr k (by omega), Frac.powG_up hn hg r (i * k) hik, powN_mul]

def timD (a : D7) (n : Int) : D7 := dOf (fun i => a.get i * n)
theorem mul_upto {x y m k : Int} (hx : -m ≤ x ∧ x ≤ m) (hy : 0 ≤ y ∧ y ≤ k) (hm : 0 ≤ m) : -(m * k) ≤ x * y ∧ x * y ≤ m * k := by
  have a1 : x * y ≤ m * y := Int.mul_le_mul_of_nonneg_right hx.2 hy.1
  have a2 : -m * y ≤ x * y := Int.mul_le_mul_of_nonneg_right hx.1 hy.1
  have a3 : m * y ≤ m * k := Int.mul_le_mul_of_nonneg_left hy.2 hm
  rw [Int.neg_mul] at a2
  omega
theorem tim_upto {a : D7} {m : Int} {n : Nat} (h : Upto a m) (hm : 0 ≤ m) : Upto (timD a n) (m * n) := fun i hi => by
  unfold timD
  rw [get_of _ i hi]
  exact mul_upto (h i hi) ⟨by omega, Int.le_refl _⟩ hm
theorem times_yes {a : D7} {m : Int} {n : Nat} (h : Upto a m) (hm : 0 ≤ m) (hm9 : m ≤ 99) (hn : n ≤ 99) (hmn : m * n ≤ 99) : timesG a n = (timD a n, true) := by
  have e : dOf (fun i => a.get i * Dims.within n 100) = timD a n := Dims.of_congr fun i _ => by rw [Dims.within_in (by omega) (by omega)]
  unfold timesG reckonG
  rw [if_pos ⟨h.right hm9, h.right hm9, by rw [e]; exact (tim_upto h hm).right hmn⟩, e]

theorem pow_is {a : Wo} {m : Int} {n : Nat} (ha : Mild a m) (hn : n ≤ 99) (hmn : m * n ≤ 99) : powW a n = if (powG a.n a.d a.t n).e ≠ 0 then (wZero, (powG a.n a.d a.t n).e) else (⟨(powG a.n a.d a.t n).n, (powG a.n a.d a.t n).d, (powG a.n a.d a.t n).t, timD a.D n, 0⟩, 0) := by
  unfold powW
  rw [if_neg (by omega), put_plain _ _ ha.right ha.right ha.g ha.g, times_yes ha.up ha.m.1 ha.m.2 hn hmn]
  simp
theorem pow_over {a : Wo} {m : Int} {n : Nat} (ha : Mild a m) (hn : n ≤ 99) (hmn : m * n ≤ 99) : (powW a n).2 = 0 ∨ powW a n = (wZero, 10) := by
  rw [pow_is ha hn hmn]
  rcases Frac.powG_err a.n a.d a.t ha.frac n hn with h | h
  · rw [if_neg (by simp [h])]; exact .inl rfl
  · rw [h]; exact .inr rfl
theorem pow_err {a : Wo} {m : Int} {n : Nat} (ha : Mild a m) (hn : n ≤ 99) (hmn : m * n ≤ 99) (he : (powW a n).2 = 0) : (powG a.n a.d a.t n).e = 0 ∧ powW a n = (⟨(powG a.n a.d a.t n).n, (powG a.n a.d a.t n).d, (powG a.n a.d a.t n).t, timD a.D n, 0⟩, 0) := by
  have h := pow_is ha hn hmn
  by_cases h0 : (powG a.n a.d a.t n).e = 0
  · rw [if_neg (by simp [h0])] at h
    exact ⟨h0, h⟩
  · rw [h, if_pos h0] at he
    exact absurd he h0
theorem pow_mild {a : Wo} {m : Int} {n : Nat} (ha : Mild a m) (hn : n ≤ 99) (hmn : m * n ≤ 99) (he : (powW a n).2 = 0) : Mild (powW a n).1 (m * n) := by
  obtain ⟨h0, h⟩ := pow_err ha hn hmn he
  have hf := Frac.powG_fine a.n a.d a.t ha.fine.n ha.fine.d ha.frac n hn h0
  have hr := pow_right a.n a.d a.t ha.fine.n ha.fine.d ha.frac n hn h0
  rw [h]
  have m0 : 0 ≤ m * (n : Int) := Int.mul_nonneg ha.m.1 (by omega)
  exact ⟨⟨by show (powG a.n a.d a.t n).n ≤ _; omega, by show (powG a.n a.d a.t n).d ≤ _; omega, ((tim_upto ha.up ha.m.1).right hmn).fine, by show _ ≤ (0 : Int); omega, by show (0 : Int) ≤ _; omega⟩, hr, tim_upto ha.up ha.m.1, rfl, m0, hmn⟩

/-- A power of a worth's power is that of the product. -/
theorem powW_pow {a : Wo} {i k : Nat} (ha : Mild a 9) (hi : i ≤ 3) (hk : k ≤ 3) (he : (powW a i).2 = 0) : powW (powW a i).1 k = powW a ((i * k : Nat) : Int) := by
  have hik : i * k ≤ 9 := by have := Nat.mul_le_mul hi hk; omega
  have hx := pow_mild ha (by omega) (by omega) he
  obtain ⟨h0, h⟩ := pow_err ha (by omega) (by omega) he
  have b2 : (9 : Int) * (i : Int) * (k : Int) ≤ 99 := by
    have : ((i * k : Nat) : Int) ≤ 9 := by omega
    rw [Int.natCast_mul] at this
    rw [Int.mul_assoc]; omega
  have hp := pow_pow a.n a.d a.t ha.fine.n ha.fine.d ha.frac i k (by omega) (by omega) h0
  have b3 : (9 : Int) * ((i * k : Nat) : Int) ≤ 99 := by omega
  rw [pow_is hx (by omega) b2, pow_is ha (by omega) b3, h]
  simp only
  rw [hp]
  have et : timD (timD a.D i) k = timD a.D ((i * k : Nat) : Int) := Dims.of_congr fun j hj => by
    unfold timD
    rw [get_of _ j hj, Int.natCast_mul, Int.mul_assoc]
  rw [et]

/-- Products of so many, one behind the other. -/
noncomputable def prodW (x : Wo) : Nat → Wo × Int
  | 0 => (⟨1, 1, 0, dZero, 0⟩, 0)
  | j + 1 => if (prodW x j).2 = 0 then mulW (prodW x j).1 x else prodW x j

theorem prod_pow {x : Wo} (hx : Mild x 27) : ∀ j : Nat, j ≤ 3 → prodW x j = powW x j
  | 0, _ => by
    rw [pow_is hx (by omega) (by omega), show ((0 : Nat) : Int) = 0 from rfl, Frac.powG_none _ _ _ hx.frac]
    have e : timD x.D 0 = dZero := Dims.d_ext fun i hi => by unfold timD; rw [get_of _ i hi, Dims.zero_get]; omega
    rw [e]
    rfl
  | j + 1, hj => by
    have ih := prod_pow hx j (by omega)
    unfold prodW
    rw [ih]
    by_cases he : (powW x j).2 = 0
    · rw [if_pos he]
      have hm := pow_mild hx (n := j) (by omega) (by omega) he
      obtain ⟨h0, h⟩ := pow_err hx (n := j) (by omega) (by omega) he
      rw [mul_is hm hx (by omega), pow_is hx (n := j + 1) (by omega) (by omega), h]
      simp only
      rw [Frac.powG_step x.n x.d x.t hx.fine.n hx.fine.d hx.frac j (by omega) h0]
      have e : sumD (timD x.D j) x.D = timD x.D ((j + 1 : Nat) : Int) := Dims.of_congr fun i hi => by
        unfold timD
        rw [get_of _ i hi, show ((j + 1 : Nat) : Int) = (j : Int) + 1 from by omega, Int.mul_add, Int.mul_one]
      rw [e]
    · rw [if_neg he]
      have h0 : (powG x.n x.d x.t j).e ≠ 0 := fun h => he (by rw [pow_is hx (by omega) (by omega), if_neg (by simp [h])])
      rw [pow_is hx (n := j) (by omega) (by omega), pow_is hx (n := j + 1) (by omega) (by omega), Frac.powG_stays x.n x.d x.t hx.fine.n hx.fine.d hx.frac j (j + 1) (by omega) (by omega) h0, if_pos h0, if_pos h0]

end Go.Proofs.YtndinbefljajcaaDoor.Worth

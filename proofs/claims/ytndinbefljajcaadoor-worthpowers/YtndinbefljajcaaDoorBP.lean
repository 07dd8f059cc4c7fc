/-
  Plain mathematics: a power is a product of so many; with -n it is 1 by that. No program in this text.
-/
import Derived.Test.YtndinbefljajcaaDoorFP
namespace Go.Proofs.YtndinbefljajcaaDoor.Frac
open Go.Proofs.YtndinbefljajcaaDoor.Whole
set_option linter.unusedVariables false
set_option linter.unusedSimpArgs false

/-- The i-th power of a number taken apart. -/
def powP (y : Pt) (i : Nat) : Pt := ⟨y.n ^ i, y.d ^ i, i * y.e2, i * y.e5⟩
def fitsP (p : Pt) : Prop := p.n.natAbs ≤ 9223372036854775807 ∧ p.d.natAbs ≤ 9223372036854775807
instance (p : Pt) : Decidable (fitsP p) := by unfold fitsP; exact inferInstance

theorem co_pow_r (a d : Int) (k : Nat) (h : Int.gcd a d = 1) : Int.gcd a (d ^ k) = 1 := by
  rw [Int.gcd_comm]; exact co_pow d a k (by rw [Int.gcd_comm]; exact h)

theorem times_pow (y : Pt) (i : Nat) (hc : Int.gcd y.n y.d = 1) : timesN (powP y i) y = y.n ^ (i + 1) ∧ timesD (powP y i) y = y.d ^ (i + 1) := by
  have g1 : Int.gcd (y.n ^ i) y.d = 1 := co_pow _ _ _ hc
  have g2 : Int.gcd y.n (y.d ^ i) = 1 := co_pow_r _ _ _ hc
  constructor
  · unfold timesN powP
    simp only []
    rw [g1, g2, tdiv_one, tdiv_one, Int.pow_succ]
  · unfold timesD powP
    simp only []
    rw [g1, g2, tdiv_one, tdiv_one, Int.pow_succ]

theorem times_pow_is (y : Pt) (i : Nat) (hc : Int.gcd y.n y.d = 1) (hf : fitsP (powP y (i + 1))) : timesP (powP y i) y = some (powP y (i + 1)) := by
  obtain ⟨eN, eD⟩ := times_pow y i hc
  unfold timesP
  have hf' : (y.n ^ (i + 1)).natAbs ≤ 9223372036854775807 ∧ (y.d ^ (i + 1)).natAbs ≤ 9223372036854775807 := hf
  rw [eN, eD, if_pos hf']
  unfold powP
  simp only []
  have e2 : (i : Int) * y.e2 + y.e2 = ((i + 1 : Nat) : Int) * y.e2 := by rw [Int.natCast_succ, Int.add_mul]; omega
  have e5 : (i : Int) * y.e5 + y.e5 = ((i + 1 : Nat) : Int) * y.e5 := by rw [Int.natCast_succ, Int.add_mul]; omega
  rw [e2, e5]

theorem times_pow_no (y : Pt) (i : Nat) (hc : Int.gcd y.n y.d = 1) (hf : ¬ fitsP (powP y (i + 1))) : timesP (powP y i) y = none := by
  obtain ⟨eN, eD⟩ := times_pow y i hc
  unfold timesP
  have hf' : ¬ ((y.n ^ (i + 1)).natAbs ≤ 9223372036854775807 ∧ (y.d ^ (i + 1)).natAbs ≤ 9223372036854775807) := hf
  rw [eN, eD, if_neg hf']

theorem abs_pow_mono (a : Int) (i j : Nat) (ha : a ≠ 0) (h : i ≤ j) : (a ^ i).natAbs ≤ (a ^ j).natAbs := by
  rw [Int.natAbs_pow, Int.natAbs_pow]
  exact Nat.pow_le_pow_right (by omega) h

theorem fits_mono (y : Pt) (i j : Nat) (hn : y.n ≠ 0) (hd : 1 ≤ y.d) (h : i ≤ j) (hf : fitsP (powP y j)) : fitsP (powP y i) := by
  obtain ⟨h1, h2⟩ := hf
  exact ⟨Nat.le_trans (abs_pow_mono y.n i j hn h) h1, Nat.le_trans (abs_pow_mono y.d i j (by omega) h) h2⟩

theorem join_powP (y : Pt) (hc : Int.gcd y.n y.d = 1) (hn : y.n ≠ 0) (hd : 1 ≤ y.d) : ∀ (k i : Nat), joinP (powP y i) k y = (if fitsP (powP y (i + k)) then formP (powP y (i + k)) else if k = 0 then formP (powP y i) else over)
  | 0, i => by
    show formP (powP y i) = _
    split
    · rfl
    · rfl
  | k + 1, i => by
    unfold joinP
    by_cases hf : fitsP (powP y (i + 1))
    · rw [times_pow_is y i hc hf]
      show joinP (powP y (i + 1)) k y = _
      rw [join_powP y hc hn hd k (i + 1), show i + 1 + k = i + (k + 1) from by omega]
      by_cases hg : fitsP (powP y (i + (k + 1)))
      · rw [if_pos hg, if_pos hg]
      · rw [if_neg hg, if_neg hg, if_neg (show ¬ k + 1 = 0 by omega)]
        by_cases hk : k = 0
        · exfalso; apply hg; rw [hk]; exact hf
        · rw [if_neg hk]
    · rw [times_pow_no y i hc hf]
      show over = _
      rw [if_neg (fun h => hf (fits_mono y (i + 1) (i + (k + 1)) hn hd (by omega) h)), if_neg (by omega)]

theorem join_from_one (y : Pt) (k : Nat) (hc : Int.gcd y.n y.d = 1) (hn : y.n ≠ 0) (hd : 1 ≤ y.d) : joinP ⟨1, 1, 0, 0⟩ k y = (if fitsP (powP y k) then formP (powP y k) else over) := by
  have e : (⟨1, 1, 0, 0⟩ : Pt) = powP y 0 := by unfold powP; simp
  rw [e, join_powP y hc hn hd k 0, Nat.zero_add]
  by_cases hf : fitsP (powP y k)
  · rw [if_pos hf, if_pos hf]
  · rw [if_neg hf, if_neg hf]
    by_cases hk : k = 0
    · exfalso; apply hf; rw [hk]; unfold powP fitsP; simp
    · rw [if_neg hk]

/-- A right frac's power, said at once. -/
def powN (n d t : Int) (k : Nat) : Got := if (n ^ k).natAbs ≤ 9223372036854775807 ∧ (d ^ k).natAbs ≤ 9223372036854775807 ∧ -1000 ≤ k * t ∧ k * t ≤ 1000 then ⟨n ^ k, d ^ k, k * t, 0⟩ else over

theorem pow_form {n d t : Int} (hn : n ≠ 0) (h : Good n d t) (k : Nat) : (if fitsP (powP (partsP n d t) k) then formP (powP (partsP n d t) k) else over) = powN n d t k := by
  obtain ⟨_, _, _, _, hz⟩ := good_parts hn h
  obtain ⟨e, _, _⟩ := odd_spec n hn
  have p2 : 0 ≤ o2 n := Int.natCast_nonneg _
  have p5 : 0 ≤ o5 n := Int.natCast_nonneg _
  have q2 : 0 ≤ (k : Int) * o2 n := Int.mul_nonneg (by omega) p2
  have q5 : 0 ≤ (k : Int) * o5 n := Int.mul_nonneg (by omega) p5
  have on := odd_ne n hn
  have ok := Int.pow_ne_zero (n := odd n) (m := k) on
  have key : ∀ (N : Int), N = n ^ k → (odd n ^ k).natAbs ≤ (n ^ k).natAbs → (if fitsP (powP (partsP n d t) k) then formAt N (d ^ k) (k * t) else over) = powN n d t k := by
    intro N hN hle
    have hfe : fitsP (powP (partsP n d t) k) ↔ ((odd n ^ k).natAbs ≤ 9223372036854775807 ∧ (d ^ k).natAbs ≤ 9223372036854775807) := by
      rw [parts_eq n d t hn]; exact Iff.rfl
    unfold powN formAt
    rw [hN]
    simp only [hfe]
    by_cases h1 : (n ^ k).natAbs ≤ 9223372036854775807
    · by_cases h2 : (d ^ k).natAbs ≤ 9223372036854775807
      · rw [if_pos ⟨by omega, h2⟩]
        by_cases h3 : (k : Int) * t < -1000 ∨ 1000 < (k : Int) * t
        · rw [if_pos h3, if_neg (by omega)]
        · rw [if_neg h3, if_pos h1, if_pos ⟨h1, h2, by omega, by omega⟩]
      · rw [if_neg (fun c => h2 c.2), if_neg (fun c => h2 c.2.1)]
    · have hr : ¬ ((n ^ k).natAbs ≤ 9223372036854775807 ∧ (d ^ k).natAbs ≤ 9223372036854775807 ∧ -1000 ≤ (k : Int) * t ∧ (k : Int) * t ≤ 1000) := fun c => h1 c.1
      rw [if_neg hr, if_neg h1]
      split
      · split <;> rfl
      · rfl
  have form : formP (powP (partsP n d t) k) = if (k : Int) * (o2 n + t) ≤ (k : Int) * (o5 n + t) then formAt (odd n ^ k * 5 ^ ((k : Int) * (o5 n + t) - (k : Int) * (o2 n + t)).toNat) (d ^ k) ((k : Int) * (o2 n + t)) else formAt (odd n ^ k * 2 ^ ((k : Int) * (o2 n + t) - (k : Int) * (o5 n + t)).toNat) (d ^ k) ((k : Int) * (o5 n + t)) := by
    rw [parts_eq n d t hn]
    unfold formP powP
    simp only []
    rw [if_neg ok]
  rw [form]
  have m2 : (k : Int) * (o2 n + t) = (k : Int) * o2 n + (k : Int) * t := Int.mul_add _ _ _
  have m5 : (k : Int) * (o5 n + t) = (k : Int) * o5 n + (k : Int) * t := Int.mul_add _ _ _
  rw [m2, m5]
  have five : o2 n = 0 → odd n ^ k * 5 ^ (k * (o5 n).toNat) = n ^ k := by
    intro h0
    rw [h0] at e
    simp at e
    rw [← e, Int.mul_pow, Nat.mul_comm k, Int.pow_mul]
    rw [e]
  have two : o5 n = 0 → odd n ^ k * 2 ^ (k * (o2 n).toNat) = n ^ k := by
    intro h0
    rw [h0] at e
    simp at e
    rw [← e, Int.mul_pow, Nat.mul_comm k, Int.pow_mul]
    rw [e]
  have tn : ∀ c : Int, 0 ≤ c → ((k : Int) * c).toNat = k * c.toNat := by
    intro c hc
    obtain ⟨m, rfl⟩ := Int.eq_ofNat_of_zero_le hc
    rw [← Int.natCast_mul, Int.toNat_natCast, Int.toNat_natCast]
  by_cases hle : (k : Int) * o2 n + (k : Int) * t ≤ (k : Int) * o5 n + (k : Int) * t
  · rw [if_pos hle]
    have h0 : (k : Int) * o2 n = 0 := by
      rcases hz with hz | hz
      · rw [hz]; simp
      · rw [hz] at hle; simp at hle; omega
    rw [h0, Int.zero_add, show ((k : Int) * o5 n + (k : Int) * t - (k : Int) * t).toNat = ((k : Int) * o5 n).toNat from by omega, tn _ p5]
    have hN : odd n ^ k * 5 ^ (k * (o5 n).toNat) = n ^ k := by
      rcases Int.mul_eq_zero.1 h0 with hk | hk
      · have : k = 0 := by omega
        subst this; simp
      · exact five hk
    refine key _ hN ?_
    rw [← hN, Int.natAbs_mul]
    exact Nat.le_mul_of_pos_right _ (by rw [Int.natAbs_pow]; exact Nat.pow_pos (by decide))
  · rw [if_neg hle]
    have h0 : (k : Int) * o5 n = 0 := by
      rcases hz with hz | hz
      · rw [hz] at hle; simp at hle; omega
      · rw [hz]; simp
    rw [h0, Int.zero_add, show ((k : Int) * o2 n + (k : Int) * t - (k : Int) * t).toNat = ((k : Int) * o2 n).toNat from by omega, tn _ p2]
    have hN : odd n ^ k * 2 ^ (k * (o2 n).toNat) = n ^ k := by
      rcases Int.mul_eq_zero.1 h0 with hk | hk
      · have : k = 0 := by omega
        subst this; simp
      · exact two hk
    refine key _ hN ?_
    rw [← hN, Int.natAbs_mul]
    exact Nat.le_mul_of_pos_right _ (by rw [Int.natAbs_pow]; exact Nat.pow_pos (by decide))

theorem pow_up_is {n d t : Int} (hn : n ≠ 0) (h : Good n d t) (k : Nat) : joinP (apartP 1 0) k (partsP n d t) = powN n d t k := by
  have fit := good_fit hn h
  rw [one_apart, join_from_one _ k fit.co (parts_ne n d t hn) fit.d1]
  exact pow_form hn h k

end Go.Proofs.YtndinbefljajcaaDoor.Frac

/-
  Plain mathematics of worths: products do not hang on the order; what is multiplied, and divided by the same, is what it was; what is divided by itself is 1; a product of three does not hang on which two come first. No program in this text.
-/
import Derived.Test.YtndinbefljajcaaDoorVB
import Derived.Test.YtndinbefljajcaaDoorBQ
namespace Go.Proofs.YtndinbefljajcaaDoor.Worth
open Go.Proofs.YtndinbefljajcaaDoor.Frac (Got mulG divG powG makeG rightB Pt Fit timesN timesD timesP formP joinP partsP over)
open Go.Proofs.YtndinbefljajcaaDoor.Dims (D7 dZero dOf get_of addG subG timesG reckonG)
set_option linter.unusedVariables false
set_option linter.unusedSimpArgs false

theorem put_plain {a b : Wo} (G : Got) (P : D7 × Bool) (ra : rightW a = true) (rb : rightW b = true) (ga : a.g = 0) (gb : b.g = 0) : putW a b G P = if G.e ≠ 0 then (wZero, G.e) else if P.2 = false then (wZero, 10) else (⟨G.n, G.d, G.t, P.1, 0⟩, 0) := by
  unfold putW
  rw [if_neg (by simp [ra, rb]), if_neg (by simp [ga, gb])]

/-- Each power within m. -/
def Upto (a : D7) (m : Int) : Prop := ∀ i, i < 7 → -m ≤ a.get i ∧ a.get i ≤ m
theorem Upto.right {a : D7} {m : Int} (h : Upto a m) (hm : m ≤ 99) : Dims.Right a := fun i hi => by have := h i hi; omega
def sumD (a b : D7) : D7 := dOf (fun i => a.get i + b.get i)
theorem sum_upto {a b : D7} {m k : Int} (h : Upto a m) (g : Upto b k) : Upto (sumD a b) (m + k) := fun i hi => by
  have := h i hi; have := g i hi; unfold sumD; rw [get_of _ i hi]; omega
theorem add_yes {a b : D7} {m k : Int} (h : Upto a m) (g : Upto b k) (hm : m ≤ 99) (hk : k ≤ 99) (hmk : m + k ≤ 99) : addG a b = (sumD a b, true) := by
  unfold addG reckonG
  rw [if_pos ⟨h.right hm, g.right hk, (sum_upto h g).right hmk⟩]
  rfl
theorem sum_comm (a b : D7) : sumD a b = sumD b a := Dims.of_congr fun i _ => by omega
theorem sum_assoc (a b c : D7) : sumD (sumD a b) c = sumD a (sumD b c) := Dims.of_congr fun i hi => by
  unfold sumD; rw [get_of _ i hi, get_of _ i hi]; omega
theorem sub_back {a b : D7} {m k : Int} (h : Upto a m) (g : Upto b k) (hm : m ≤ 99) (hk : k ≤ 99) (hmk : m + k ≤ 99) : subG (sumD a b) b = (a, true) := by
  have e : dOf (fun i => (sumD a b).get i - b.get i) = a := Dims.d_ext fun i hi => by
    rw [get_of _ i hi]; unfold sumD; rw [get_of _ i hi]; omega
  unfold subG reckonG
  rw [if_pos ⟨(sum_upto h g).right hmk, g.right hk, by rw [e]; exact h.right hm⟩, e]
theorem sub_self {a : D7} (h : Dims.Right a) : subG a a = (dZero, true) := by
  have e : dOf (fun i => a.get i - a.get i) = dZero := Dims.d_ext fun i hi => by
    rw [get_of _ i hi, Dims.zero_get]; omega
  unfold subG reckonG
  rw [if_pos ⟨h, h, by rw [e]; exact Dims.zero_right⟩, e]
theorem spec_upto (s : Wo) : Upto (specW s).D 9 := fun i hi => spec_dims s i hi

/-- A worth that is right, plain, its dims within m. -/
structure Mild (a : Wo) (m : Int) : Prop where
  fine : a.Fine
  frac : rightB a.n a.d a.t = true
  up : Upto a.D m
  g : a.g = 0
  m : 0 ≤ m ∧ m ≤ 99
theorem Mild.right {a : Wo} {m : Int} (h : Mild a m) : rightW a = true := (rightW_iff _).2 ⟨h.frac, h.up.right h.m.2, by rw [h.g]; omega, by rw [h.g]; omega⟩
theorem spec_mild (s : Wo) (hf : s.Fine) : Mild (specW s.plain) 9 := ⟨spec_fine _ (plain_fine hf), spec_frac _ (plain_fine hf), spec_upto _, spec_plain s, by omega, by omega⟩

theorem mul_is {a b : Wo} {m k : Int} (ha : Mild a m) (hb : Mild b k) (hmk : m + k ≤ 99) : mulW a b = if (mulG a.n a.d a.t b.n b.d b.t).e ≠ 0 then (wZero, (mulG a.n a.d a.t b.n b.d b.t).e) else (⟨(mulG a.n a.d a.t b.n b.d b.t).n, (mulG a.n a.d a.t b.n b.d b.t).d, (mulG a.n a.d a.t b.n b.d b.t).t, sumD a.D b.D, 0⟩, 0) := by
  unfold mulW
  rw [put_plain _ _ ha.right hb.right ha.g hb.g, add_yes ha.up hb.up ha.m.2 hb.m.2 hmk]
  simp
theorem mul_comm {a b : Wo} {m k : Int} (ha : Mild a m) (hb : Mild b k) (hmk : m + k ≤ 99) : mulW a b = mulW b a := by
  rw [mul_is ha hb hmk, mul_is hb ha (by omega), Frac.mul_comm a.n, sum_comm a.D]
theorem mul_over {a b : Wo} {m k : Int} (ha : Mild a m) (hb : Mild b k) (hmk : m + k ≤ 99) : (mulW a b).2 = 0 ∨ (mulW a b).2 = 10 := by
  rw [mul_is ha hb hmk]
  have h := Frac.mul_err a.n a.d a.t b.n b.d b.t ha.frac hb.frac
  rcases h with h | h
  · rw [if_neg (by simp [h])]; exact .inl rfl
  · rw [if_pos (by rw [h]; decide)]; exact .inr h

theorem mul_one (n d t : Int) (h1 : n ≤ 9223372036854775807) (h2 : d ≤ 9223372036854775807) (r : rightB n d t = true) (hn : n ≠ 0) : mulG 1 1 0 n d t = ⟨n, d, t, 0⟩ := by
  have h0 := Frac.powG_none n d t r
  have hs := Frac.powG_step n d t h1 h2 r 0 (by omega) (by rw [show ((0 : Nat) : Int) = 0 from rfl, h0])
  rw [show ((0 : Nat) : Int) = 0 from rfl, h0] at hs
  have hg := Frac.right_good_of h1 h2 hn r
  have hu := Frac.powG_up hn hg r 1 (by omega)
  have hf := Frac.right_fine h1 h2 r
  have e : ((0 + 1 : Nat) : Int) = ((1 : Nat) : Int) := rfl
  rw [e, hu] at hs
  show mulG 1 1 0 n d t = _
  rw [show mulG 1 1 0 n d t = Frac.powN n d t 1 from hs]
  unfold Frac.powN
  simp only [Int.pow_succ, Int.pow_zero, Int.one_mul]
  rw [if_pos]
  · simp
  · refine ⟨hf.1, by omega, by omega, by omega⟩

theorem div_self {b : Wo} {k : Int} (hb : Mild b k) (hn : b.n ≠ 0) : divW b b = (⟨1, 1, 0, dZero, 0⟩, 0) := by
  have h1 := mul_one b.n b.d b.t hb.fine.n hb.fine.d hb.frac hn
  have h2 := (Frac.mul_back 1 1 0 b.n b.d b.t (by omega) (by omega) hb.fine.n hb.fine.d Frac.one_right hb.frac hn (by rw [h1])).2
  rw [h1] at h2
  unfold divW
  rw [put_plain _ _ hb.right hb.right hb.g hb.g, h2, sub_self (hb.up.right hb.m.2)]
  simp
theorem div_none {b : Wo} {k : Int} (hb : Mild b k) (hn : b.n = 0) : divW b b = (wZero, 11) := by
  have hr := hb.frac
  rw [hn] at hr
  obtain ⟨e1, e2⟩ := Frac.right_zero_is hb.fine.d hr
  have h2 : divG b.n b.d b.t b.n b.d b.t = ⟨0, 0, 0, 11⟩ := by
    unfold divG
    rw [if_neg (by simp [hb.frac]), if_pos hn]
  unfold divW
  rw [put_plain _ _ hb.right hb.right hb.g hb.g, h2]
  simp

theorem div_back {a b : Wo} {m k : Int} (ha : Mild a m) (hb : Mild b k) (hmk : m + k ≤ 99) (hn : b.n ≠ 0) (he : (mulW a b).2 = 0) : Mild (mulW a b).1 (m + k) ∧ divW (mulW a b).1 b = (a, 0) := by
  have hM := mul_is ha hb hmk
  have hE : (mulG a.n a.d a.t b.n b.d b.t).e = 0 := by
    by_cases h : (mulG a.n a.d a.t b.n b.d b.t).e = 0
    · exact h
    · rw [hM, if_pos h] at he
      exact absurd he h
  rw [if_neg (by simp [hE])] at hM
  obtain ⟨hr, hd⟩ := Frac.mul_back a.n a.d a.t b.n b.d b.t ha.fine.n ha.fine.d hb.fine.n hb.fine.d ha.frac hb.frac hn hE
  have hf := Frac.mulG_fine a.n a.d a.t b.n b.d b.t ha.fine.n ha.fine.d hb.fine.n hb.fine.d ha.frac hb.frac hE
  have hX : Mild (⟨(mulG a.n a.d a.t b.n b.d b.t).n, (mulG a.n a.d a.t b.n b.d b.t).d, (mulG a.n a.d a.t b.n b.d b.t).t, sumD a.D b.D, 0⟩ : Wo) (m + k) :=
    ⟨⟨by show (mulG a.n a.d a.t b.n b.d b.t).n ≤ _; omega, by show (mulG a.n a.d a.t b.n b.d b.t).d ≤ _; omega, ((sum_upto ha.up hb.up).right hmk).fine, by show _ ≤ (0 : Int); omega, by show (0 : Int) ≤ _; omega⟩, hr, sum_upto ha.up hb.up, rfl, by have := ha.m; have := hb.m; omega, hmk⟩
  rw [hM]
  refine ⟨hX, ?_⟩
  unfold divW
  rw [put_plain _ _ hX.right hb.right hX.g hb.g]
  simp only
  rw [hd, sub_back ha.up hb.up ha.m.2 hb.m.2 hmk]
  have hg := ha.g
  obtain ⟨a0, a1, a2, a3, a4⟩ := a
  simp only at hg
  subst hg
  simp

theorem mul_mild {a b : Wo} {m k : Int} (ha : Mild a m) (hb : Mild b k) (hmk : m + k ≤ 99) (he : (mulW a b).2 = 0) : Mild (mulW a b).1 (m + k) := by
  by_cases hn : b.n = 0
  · have hr := hb.frac
    rw [hn] at hr
    obtain ⟨e1, e2⟩ := Frac.right_zero_is hb.fine.d hr
    have hz : mulG a.n a.d a.t b.n b.d b.t = ⟨0, 1, 0, 0⟩ := by
      rw [Frac.mul_eq _ _ _ _ _ _ ha.fine.n ha.fine.d hb.fine.n hb.fine.d]
      unfold Frac.mulR
      rw [if_neg (by rw [← Frac.right_eq _ _ _ ha.fine.n ha.fine.d, ← Frac.right_eq _ _ _ hb.fine.n hb.fine.d]; simp [ha.frac, hb.frac]), if_pos (.inr hn)]
    rw [mul_is ha hb hmk, hz]
    simp only [ne_eq, not_true_eq_false, if_false]
    exact ⟨⟨by show (0 : Int) ≤ _; omega, by show (1 : Int) ≤ _; omega, ((sum_upto ha.up hb.up).right hmk).fine, by show _ ≤ (0 : Int); omega, by show (0 : Int) ≤ _; omega⟩, Frac.zero_right, sum_upto ha.up hb.up, rfl, by have := ha.m; have := hb.m; omega, hmk⟩
  · exact (div_back ha hb hmk hn he).1

/-! ### Products of three -/

theorem dvd_co {a b d : Int} (h : b ∣ a * d) (hc : Int.gcd a b = 1) : b ∣ d := by
  have h1 : b.natAbs ∣ a.natAbs * d.natAbs := by rw [← Int.natAbs_mul]; exact Int.natAbs_dvd_natAbs.2 h
  have h2 : Nat.Coprime b.natAbs a.natAbs := by
    rw [Nat.coprime_comm]; exact hc
  exact Int.natAbs_dvd_natAbs.1 (Nat.Coprime.dvd_of_dvd_mul_left h2 h1)
theorem cross_one {a b c d : Int} (hb : 1 ≤ b) (hd : 1 ≤ d) (h1 : Int.gcd a b = 1) (h2 : Int.gcd c d = 1) (h : a * d = c * b) : a = c ∧ b = d := by
  have d1 : b ∣ d := by
    have : b ∣ a * d := ⟨c, by rw [h, Int.mul_comm]⟩
    exact dvd_co this h1
  have d2 : d ∣ b := by
    have : d ∣ c * b := ⟨a, by rw [← h, Int.mul_comm]⟩
    exact dvd_co this h2
  have e : b = d := Int.dvd_antisymm (by omega) (by omega) d1 d2
  subst e
  exact ⟨Int.eq_of_mul_eq_mul_right (by omega) h, rfl⟩

theorem times_cross (x y : Pt) (hx : Fit x.n x.d) (hy : Fit y.n y.d) : timesN x y * (x.d * y.d) = x.n * y.n * timesD x y ∧ Int.gcd (timesN x y) (timesD x y) = 1 ∧ 1 ≤ timesD x y := by
  obtain ⟨g, h', a, b, c, e, g1, h1, xa, ye, yb, xc, eN, eD, k1, k2, k3, k4, _, _⟩ := Frac.times_split x y hx hy
  have e1 := Frac.pos_factor g e g1 (by rw [← ye]; exact hy.d1)
  have c1 := Frac.pos_factor h' c h1 (by rw [← xc]; exact hx.d1)
  refine ⟨?_, by rw [eN, eD]; exact Frac.co_two a b c e k1 k2 k3 k4, by rw [eD]; exact Frac.one_mul_le _ _ c1 e1⟩
  rw [eN, eD, xa, ye, yb, xc]
  simp only [Int.mul_assoc, Int.mul_left_comm, Int.mul_comm]

theorem times_is {x y z : Pt} (h : timesP x y = some z) : z = ⟨timesN x y, timesD x y, x.e2 + y.e2, x.e5 + y.e5⟩ := by
  unfold timesP at h
  split at h
  · simpa using h.symm
  · exact absurd h (by simp)

theorem times_assoc {x y c z v : Pt} (hx : Fit x.n x.d) (hy : Fit y.n y.d) (hc : Fit c.n c.d) (h1 : timesP x y = some z) (h2 : timesP y c = some v) : timesP z c = timesP x v := by
  have fz := Frac.times_fit hx hy h1
  have fv := Frac.times_fit hy hc h2
  obtain ⟨p1, p2, p3⟩ := times_cross x y hx hy
  obtain ⟨q1, q2, q3⟩ := times_cross y c hy hc
  obtain ⟨r1, r2, r3⟩ := times_cross z c fz hc
  obtain ⟨s1, s2, s3⟩ := times_cross x v hx fv
  have ez := times_is h1
  have ev := times_is h2
  have zn : z.n = timesN x y := by rw [ez]
  have zd : z.d = timesD x y := by rw [ez]
  have vn : v.n = timesN y c := by rw [ev]
  have vd : v.d = timesD y c := by rw [ev]
  have z2 : z.e2 = x.e2 + y.e2 := by rw [ez]
  have z5 : z.e5 = x.e5 + y.e5 := by rw [ez]
  have v2 : v.e2 = y.e2 + c.e2 := by rw [ev]
  have v5 : v.e5 = y.e5 + c.e5 := by rw [ev]
  rw [← zn, ← zd] at p1
  rw [← vn, ← vd] at q1
  have hxd := hx.d1
  have hyd := hy.d1
  have hcd := hc.d1
  have hzd := fz.d1
  have hvd := fv.d1
  -- both are the product of the three
  have l1 : timesN z c * (x.d * y.d * c.d) = x.n * y.n * c.n * timesD z c := by
    have hz0 : z.d ≠ 0 := by omega
    refine Int.eq_of_mul_eq_mul_right hz0 ?_
    calc timesN z c * (x.d * y.d * c.d) * z.d = timesN z c * (z.d * c.d) * (x.d * y.d) := by simp only [Int.mul_assoc, Int.mul_left_comm, Int.mul_comm]
      _ = z.n * c.n * timesD z c * (x.d * y.d) := by rw [r1]
      _ = z.n * (x.d * y.d) * c.n * timesD z c := by simp only [Int.mul_assoc, Int.mul_left_comm, Int.mul_comm]
      _ = x.n * y.n * z.d * c.n * timesD z c := by rw [p1]
      _ = x.n * y.n * c.n * timesD z c * z.d := by simp only [Int.mul_assoc, Int.mul_left_comm, Int.mul_comm]
  have l2 : timesN x v * (x.d * y.d * c.d) = x.n * y.n * c.n * timesD x v := by
    have hv0 : v.d ≠ 0 := by omega
    refine Int.eq_of_mul_eq_mul_right hv0 ?_
    calc timesN x v * (x.d * y.d * c.d) * v.d = timesN x v * (x.d * v.d) * (y.d * c.d) := by simp only [Int.mul_assoc, Int.mul_left_comm, Int.mul_comm]
      _ = x.n * v.n * timesD x v * (y.d * c.d) := by rw [s1]
      _ = v.n * (y.d * c.d) * x.n * timesD x v := by simp only [Int.mul_assoc, Int.mul_left_comm, Int.mul_comm]
      _ = y.n * c.n * v.d * x.n * timesD x v := by rw [q1]
      _ = x.n * y.n * c.n * timesD x v * v.d := by simp only [Int.mul_assoc, Int.mul_left_comm, Int.mul_comm]
  have hD : x.d * y.d * c.d ≠ 0 := by
    have := Frac.one_mul_le _ _ (Frac.one_mul_le _ _ hxd hyd) hcd
    omega
  have hc1 : timesN z c * timesD x v = timesN x v * timesD z c := by
    refine Int.eq_of_mul_eq_mul_right hD ?_
    calc timesN z c * timesD x v * (x.d * y.d * c.d) = timesN z c * (x.d * y.d * c.d) * timesD x v := by simp only [Int.mul_assoc, Int.mul_left_comm, Int.mul_comm]
      _ = x.n * y.n * c.n * timesD z c * timesD x v := by rw [l1]
      _ = x.n * y.n * c.n * timesD x v * timesD z c := by simp only [Int.mul_assoc, Int.mul_left_comm, Int.mul_comm]
      _ = timesN x v * (x.d * y.d * c.d) * timesD z c := by rw [l2]
      _ = timesN x v * timesD z c * (x.d * y.d * c.d) := by simp only [Int.mul_assoc, Int.mul_left_comm, Int.mul_comm]
  obtain ⟨eN, eD⟩ := cross_one r3 s3 r2 s2 hc1
  unfold timesP
  rw [eN, eD, z2, z5, v2, v5, Int.add_assoc, Int.add_assoc]

theorem mul_join {n1 d1 t1 n2 d2 t2 : Int} (r1 : rightB n1 d1 t1 = true) (r2 : rightB n2 d2 t2 = true) : mulG n1 d1 t1 n2 d2 t2 = joinP (partsP n1 d1 t1) 1 (partsP n2 d2 t2) := by
  unfold mulG
  rw [if_neg (by simp [r1, r2])]
theorem join_one (x y : Pt) : joinP x 1 y = match timesP x y with
    | none => over
    | some z => formP z := by
  unfold joinP
  cases timesP x y <;> rfl
theorem mul_null {a b : Wo} {m k : Int} (ha : Mild a m) (hb : Mild b k) (h : a.n = 0 ∨ b.n = 0) : mulG a.n a.d a.t b.n b.d b.t = ⟨0, 1, 0, 0⟩ := by
  rw [Frac.mul_eq _ _ _ _ _ _ ha.fine.n ha.fine.d hb.fine.n hb.fine.d]
  unfold Frac.mulR
  rw [if_neg (by rw [← Frac.right_eq _ _ _ ha.fine.n ha.fine.d, ← Frac.right_eq _ _ _ hb.fine.n hb.fine.d]; simp [ha.frac, hb.frac]), if_pos h]

theorem mul_some {n1 d1 t1 n2 d2 t2 : Int} (r1 : rightB n1 d1 t1 = true) (r2 : rightB n2 d2 t2 = true) (h1 : n1 ≤ 9223372036854775807) (h2 : d1 ≤ 9223372036854775807) (h3 : n2 ≤ 9223372036854775807) (h4 : d2 ≤ 9223372036854775807) (m1 : n1 ≠ 0) (m2 : n2 ≠ 0) (he : (mulG n1 d1 t1 n2 d2 t2).e = 0) :
    ∃ z, timesP (partsP n1 d1 t1) (partsP n2 d2 t2) = some z ∧ partsP (mulG n1 d1 t1 n2 d2 t2).n (mulG n1 d1 t1 n2 d2 t2).d (mulG n1 d1 t1 n2 d2 t2).t = z := by
  rw [mul_join r1 r2, join_one] at he ⊢
  have f1 := Frac.good_fit m1 (Frac.right_good_of h1 h2 m1 r1)
  have f2 := Frac.good_fit m2 (Frac.right_good_of h3 h4 m2 r2)
  cases hz : timesP (partsP n1 d1 t1) (partsP n2 d2 t2) with
  | none => rw [hz] at he; exact absurd he (by decide)
  | some z =>
    rw [hz] at he
    exact ⟨z, rfl, Frac.parts_form z (Frac.times_fit f1 f2 hz) he⟩

/-- A product of three fracs does not hang on which two come first. -/
theorem frac_chain {a b c x v : Wo} {i j k m1 m2 : Int} (ha : Mild a i) (hb : Mild b j) (hc : Mild c k) (hx : Mild x m1) (hv : Mild v m2)
    (e1 : mulG a.n a.d a.t b.n b.d b.t = ⟨x.n, x.d, x.t, 0⟩) (e2 : mulG b.n b.d b.t c.n c.d c.t = ⟨v.n, v.d, v.t, 0⟩) :
    mulG x.n x.d x.t c.n c.d c.t = mulG a.n a.d a.t v.n v.d v.t := by
  by_cases za : a.n = 0
  · have h := mul_null ha hb (.inl za)
    rw [e1] at h
    injection h with h
    rw [mul_null hx hc (.inl h), mul_null ha hv (.inl za)]
  by_cases zb : b.n = 0
  · have h := mul_null ha hb (.inr zb)
    have h' := mul_null hb hc (.inl zb)
    rw [e1] at h
    rw [e2] at h'
    injection h with h
    injection h' with h'
    rw [mul_null hx hc (.inl h), mul_null ha hv (.inr h')]
  by_cases zc : c.n = 0
  · have h' := mul_null hb hc (.inr zc)
    rw [e2] at h'
    injection h' with h'
    rw [mul_null hx hc (.inr zc), mul_null ha hv (.inr h')]
  obtain ⟨z, hz, pz⟩ := mul_some ha.frac hb.frac ha.fine.n ha.fine.d hb.fine.n hb.fine.d za zb (by rw [e1])
  obtain ⟨u, hu, pu⟩ := mul_some hb.frac hc.frac hb.fine.n hb.fine.d hc.fine.n hc.fine.d zb zc (by rw [e2])
  rw [e1] at pz
  rw [e2] at pu
  simp only at pz pu
  have fa := Frac.good_fit za (Frac.right_good_of ha.fine.n ha.fine.d za ha.frac)
  have fb := Frac.good_fit zb (Frac.right_good_of hb.fine.n hb.fine.d zb hb.frac)
  have fc := Frac.good_fit zc (Frac.right_good_of hc.fine.n hc.fine.d zc hc.frac)
  rw [mul_join hx.frac hc.frac, mul_join ha.frac hv.frac, pz, pu, join_one, join_one, times_assoc fa fb fc hz hu]

theorem mul_parts {a b : Wo} {m k : Int} (ha : Mild a m) (hb : Mild b k) (hmk : m + k ≤ 99) (he : (mulW a b).2 = 0) : mulG a.n a.d a.t b.n b.d b.t = ⟨(mulW a b).1.n, (mulW a b).1.d, (mulW a b).1.t, 0⟩ ∧ (mulW a b).1.D = sumD a.D b.D := by
  have hM := mul_is ha hb hmk
  have hE : (mulG a.n a.d a.t b.n b.d b.t).e = 0 := by
    by_cases h : (mulG a.n a.d a.t b.n b.d b.t).e = 0
    · exact h
    · rw [hM, if_pos h] at he
      exact absurd he h
  rw [if_neg (by simp [hE])] at hM
  rw [hM]
  refine ⟨?_, rfl⟩
  generalize mulG a.n a.d a.t b.n b.d b.t = G at *
  obtain ⟨g0, g1, g2, g3⟩ := G
  simp only at hE
  subst hE
  rfl

/-- A product of three worths does not hang on which two come first. -/
theorem mul_chain {a b c : Wo} {i j k : Int} (ha : Mild a i) (hb : Mild b j) (hc : Mild c k) (h : i + j + k ≤ 99) (e1 : (mulW a b).2 = 0) (e2 : (mulW b c).2 = 0) : mulW (mulW a b).1 c = mulW a (mulW b c).1 := by
  have i0 := ha.m
  have j0 := hb.m
  have k0 := hc.m
  obtain ⟨p1, p2⟩ := mul_parts ha hb (by omega) e1
  obtain ⟨q1, q2⟩ := mul_parts hb hc (by omega) e2
  have hx := mul_mild ha hb (by omega) e1
  have hv := mul_mild hb hc (by omega) e2
  rw [mul_is hx hc (by omega), mul_is ha hv (by omega), frac_chain ha hb hc hx hv p1 q1, p2, q2, sum_assoc]

end Go.Proofs.YtndinbefljajcaaDoor.Worth

/-
  Plain mathematics for the document's own answer on exact numbers: its numbers taken apart, its forms, products and powers, as functions; no program in this text.
-/
import Derived.Test.YtjklbnakgkffnaaDoorFN
namespace Go.Proofs.YtjklbnakgkffnaaDoor.Frac
open Go.Proofs.YtjklbnakgkffnaaDoor.Whole
set_option linter.unusedVariables false
set_option linter.unusedSimpArgs false

/-- The document's number taken apart: sign, above, below, twos and fives. -/
structure Sp where
  s : Int
  p : Int
  q : Int
  two : Int
  five : Int

def Sp.Ok (B : Int) (x : Sp) : Prop := (x.s = 1 ∨ x.s = -1) ∧ 1 ≤ x.p ∧ x.p ≤ 9223372036854775807 ∧ 1 ≤ x.q ∧ x.q ≤ 9223372036854775807 ∧ -B ≤ x.two ∧ x.two ≤ B ∧ -B ≤ x.five ∧ x.five ≤ B

theorem Sp.Ok.more {B C : Int} {x : Sp} (h : x.Ok B) (hc : B ≤ C) : x.Ok C := by
  obtain ⟨h0, h1, h2, h3, h4, h5, h6, h7, h8⟩ := h
  exact ⟨h0, h1, h2, h3, h4, by omega, by omega, by omega, by omega⟩

/-- Of two numbers above 0, with a sign. -/
def ofA (s A B : Int) : Sp := ⟨s, (spL (spL A 2) 5).tdiv (Int.gcd (spL (spL A 2) 5) (spL (spL B 2) 5)), (spL (spL B 2) 5).tdiv (Int.gcd (spL (spL A 2) 5) (spL (spL B 2) 5)), spT A 2 - spT B 2, spT (spL A 2) 5 - spT (spL B 2) 5⟩
def ofS (num den : Int) : Sp := ofA (num.sign * den.sign) num.natAbs den.natAbs
def leastS (x : Sp) : Int := if x.two < x.five then x.two else x.five
def topS (x : Sp) : Int := if x.two < x.five then x.p * 5 ^ (x.five - x.two).toNat else x.p * 2 ^ (x.two - x.five).toNat
def formS (x : Sp) (ten : Int) : Got := if 9223372036854775807 < topS x then over else if ten < -2000 ∨ 2000 < ten ∨ ten + leastS x < -1000 ∨ 1000 < ten + leastS x then over else ⟨x.s * topS x, x.q, ten + leastS x, 0⟩
def makeR (num den ten : Int) : Got := if num < -9223372036854775807 ∨ den < -9223372036854775807 then ⟨0, 0, 0, 1⟩ else if den = 0 then ⟨0, 0, 0, 11⟩ else if num = 0 then ⟨0, 1, 0, 0⟩ else formS (ofS num den) ten
def rightR (n d t : Int) : Bool := if n = 0 then decide (d = 1) && decide (t = 0) else decide (-9223372036854775807 ≤ n) && decide (1 ≤ d) && decide (d % 2 ≠ 0) && decide (d % 5 ≠ 0) && decide (n % 10 ≠ 0) && decide (Int.gcd n d = 1) && decide (-1000 ≤ t) && decide (t ≤ 1000)
def timesR (x y : Sp) : Option Sp :=
  if x.p.tdiv (Int.gcd x.p y.q) * y.p.tdiv (Int.gcd y.p x.q) ≤ 9223372036854775807 ∧ x.q.tdiv (Int.gcd y.p x.q) * y.q.tdiv (Int.gcd x.p y.q) ≤ 9223372036854775807 then
    some ⟨x.s * y.s, x.p.tdiv (Int.gcd x.p y.q) * y.p.tdiv (Int.gcd y.p x.q), x.q.tdiv (Int.gcd y.p x.q) * y.q.tdiv (Int.gcd x.p y.q), x.two + y.two, x.five + y.five⟩ else none
def timesF (x y : Sp) (ten : Int) : Got := match timesR x y with
  | some z => formS z ten
  | none => over
def turnS (x : Sp) : Sp := ⟨x.s, x.q, x.p, -x.two, -x.five⟩
def mulR (n1 d1 t1 n2 d2 t2 : Int) : Got := if rightR n1 d1 t1 = false ∨ rightR n2 d2 t2 = false then ⟨0, 0, 0, 1⟩ else if n1 = 0 ∨ n2 = 0 then ⟨0, 1, 0, 0⟩ else timesF (ofS n1 d1) (ofS n2 d2) (t1 + t2)
def divR (n1 d1 t1 n2 d2 t2 : Int) : Got := if rightR n1 d1 t1 = false ∨ rightR n2 d2 t2 = false then ⟨0, 0, 0, 1⟩ else if n2 = 0 then ⟨0, 0, 0, 11⟩ else if n1 = 0 then ⟨0, 1, 0, 0⟩ else timesF (ofS n1 d1) (turnS (ofS n2 d2)) (t1 - t2)
/-- So many products, with y from x on; none, if one goes beyond the limits. -/
def powS (x : Sp) : Nat → Sp → Option Sp
  | 0, _ => some x
  | k + 1, y => if x.p * y.p ≤ 9223372036854775807 ∧ x.q * y.q ≤ 9223372036854775807 then powS ⟨x.s * y.s, x.p * y.p, x.q * y.q, x.two, x.five⟩ k y else none
def powF (y : Sp) (k : Nat) (ten : Int) : Got := match powS ⟨1, 1, 1, y.two * k, y.five * k⟩ k y with
  | some z => formS z ten
  | none => over
def powR (n d t k : Int) : Got := if rightR n d t = false ∨ k < -99 ∨ 99 < k then ⟨0, 0, 0, 1⟩ else if n = 0 ∧ k < 0 then ⟨0, 0, 0, 11⟩ else if k = 0 then ⟨1, 1, 0, 0⟩ else if n = 0 then ⟨n, d, t, 0⟩ else if k < 0 then powF (turnS (ofS n d)) (-k).toNat (t * k) else powF (ofS n d) k.toNat (t * k)

theorem ofA_ok (s A B : Int) (hs : s = 1 ∨ s = -1) (hA : 1 ≤ A) (hA' : A ≤ 9223372036854775807) (hB : 1 ≤ B) (hB' : B ≤ 9223372036854775807) : (ofA s A B).Ok 63 := by
  have a1 := odd_pos A hA
  have b1 := odd_pos B hB
  have a2 := odd_le A (by omega)
  have b2 := odd_le B (by omega)
  have a3 := o2_lt A (by omega) (by omega)
  have b3 := o2_lt B (by omega) (by omega)
  have a5 := o5_lt A (by omega) (by omega)
  have b5 := o5_lt B (by omega) (by omega)
  have t1 := tdiv_pos (odd A) (Int.gcd (odd A) (odd B)) a1 (Int.gcd_dvd_left _ _)
  have t2 := tdiv_pos (odd B) (Int.gcd (odd A) (odd B)) b1 (Int.gcd_dvd_right _ _)
  have t3 := tdiv_le (odd A) (Int.gcd (odd A) (odd B))
  have t4 := tdiv_le (odd B) (Int.gcd (odd A) (odd B))
  refine ⟨hs, t1, ?_, t2, ?_, ?_, ?_, ?_, ?_⟩
  · show (odd A).tdiv (Int.gcd (odd A) (odd B)) ≤ _; omega
  · show (odd B).tdiv (Int.gcd (odd A) (odd B)) ≤ _; omega
  · show -63 ≤ o2 A - o2 B; omega
  · show o2 A - o2 B ≤ 63; omega
  · show -63 ≤ o5 A - o5 B; omega
  · show o5 A - o5 B ≤ 63; omega

theorem sign_cases (n : Int) (h : n ≠ 0) : n.sign = 1 ∨ n.sign = -1 := by
  rcases Int.lt_or_le n 0 with h' | h'
  · exact .inr (Int.sign_eq_neg_one_of_neg h')
  · exact .inl (Int.sign_eq_one_of_pos (by omega))

theorem sign_mul_cases (a b : Int) (ha : a = 1 ∨ a = -1) (hb : b = 1 ∨ b = -1) : a * b = 1 ∨ a * b = -1 := by
  rcases ha with rfl | rfl <;> rcases hb with rfl | rfl <;> decide

theorem ofS_ok (n d : Int) (hn : n ≠ 0) (hd : d ≠ 0) (h1 : n.natAbs ≤ 9223372036854775807) (h2 : d.natAbs ≤ 9223372036854775807) : (ofS n d).Ok 63 :=
  ofA_ok _ _ _ (sign_mul_cases _ _ (sign_cases n hn) (sign_cases d hd)) (by omega) (by omega) (by omega) (by omega)

theorem turnS_ok {B : Int} {x : Sp} (h : x.Ok B) : (turnS x).Ok B := by
  obtain ⟨h0, h1, h2, h3, h4, h5, h6, h7, h8⟩ := h
  exact ⟨h0, h3, h4, h1, h2, by show -B ≤ -x.two; omega, by show -x.two ≤ B; omega, by show -B ≤ -x.five; omega, by show -x.five ≤ B; omega⟩

end Go.Proofs.YtjklbnakgkffnaaDoor.Frac

/-
  Contracts of frac.apart, frac.partsOf, (frac.parts).turned: a number taken apart; the world below stays as it was. Contracts of (frac.parts).form: the form of a number that was taken apart, or that it goes beyond the limits; the world below stays as it was. Contracts of frac.partsOf, frac.times and its closure, frac.join. Plain mathematics for exact numbers: a number taken apart, put together, its form; no program in this text. Contracts of frac.apart, partsOf, turned, times, form, join, each by one Lean function of the numbers; the world below stays as it was. Contracts of frac.Make, Right, Mul, Div, Pow, each by one Lean function of the numbers; the world below stays as it was.
-/
import Derived.Test.YthofogokpolhdaaGreatDoorWRX
import Derived.Handy
namespace Go.Proofs.YthofogokpolhdaaGreatDoor.Frac
open Go.RowKit
open Go.Proofs.YthofogokpolhdaaGreatDoor.Whole
set_option linter.unusedVariables false
set_option linter.unusedSimpArgs false

/-- Behind a call that only makes memory all old cells, and their marks, read as before. -/
theorem bcell {W w1 : World} (hb : Below W.heap.size W w1) : (∀ b o, b < W.heap.size → w1.cell? ⟨b, o, none⟩ = W.cell? ⟨b, o, none⟩) ∧ (∀ b o, b < W.heap.size → w1.frozen? ⟨b, o, none⟩ = W.frozen? ⟨b, o, none⟩) :=
  ⟨fun b o h => hb.cell (p := ⟨b, o, none⟩) h, fun b o h => hb.frozen (p := ⟨b, o, none⟩) h⟩

end Go.Proofs.YthofogokpolhdaaGreatDoor.Frac

namespace Go.Proofs.YthofogokpolhdaaGreatDoor.Frac
open Go.RowKit
open Go.Proofs.YthofogokpolhdaaGreatDoor.Whole
set_option linter.unusedVariables false
set_option linter.unusedSimpArgs false

/-- A greater power is a greater number. -/
theorem pow_step (n q : Int) (k : Nat) : n * q ^ k * q = n * q ^ (k + 1) := by rw [Int.pow_succ, Int.mul_assoc]
theorem pow_mono (n q : Int) (k m : Nat) (hq : 1 ≤ q) (h : k ≤ m) : (n * q ^ k).natAbs ≤ (n * q ^ m).natAbs := by
  rw [Int.natAbs_mul, Int.natAbs_mul, Int.natAbs_pow, Int.natAbs_pow]
  exact Nat.mul_le_mul_left _ (Nat.pow_le_pow_right (by omega) h)

end Go.Proofs.YthofogokpolhdaaGreatDoor.Frac

namespace Go.Proofs.YthofogokpolhdaaGreatDoor.Frac
open Go.RowKit
open Go.Proofs.YthofogokpolhdaaGreatDoor.Whole
set_option linter.unusedVariables false
set_option linter.unusedSimpArgs false

/-- A call that only draws, behind draws. -/
theorem draws_more {P : Program} {f : FuncId} {args : Array Value} {v : Value} (c : ∀ W : World, Calls P f args W fun e w' => e = .returned v ∧ ∃ m, w' = W.drewN m) (w : World) (i j : Nat) :
    Calls P f args (w.drewN (i + j)) fun e w' => e = .returned v ∧ ∃ m, w' = w.drewN (i + m) := by
  refine (c _).mono ?_
  rintro e w' ⟨he, m, hm⟩
  refine ⟨he, j + m, ?_⟩
  rw [hm, World.drewN_drewN]
  exact congrArg w.drewN (Nat.add_assoc i j m)
theorem draws_none {P : Program} {f : FuncId} {args : Array Value} {v : Value} {w : World} (c : Calls P f args w fun e w' => e = .returned v ∧ w = w') : Calls P f args w fun e w' => e = .returned v ∧ ∃ m, w' = w.drewN m :=
  c.mono fun _ _ h => ⟨h.1, 0, h.2.symm⟩

theorem tdiv_small (a g : Int) (_hg : 1 ≤ g) : (a.tdiv g).natAbs ≤ a.natAbs := by
  rw [Int.natAbs_tdiv]; exact Nat.div_le_self _ _

end Go.Proofs.YthofogokpolhdaaGreatDoor.Frac

namespace Go.Proofs.YthofogokpolhdaaGreatDoor.Frac
open Go.Proofs.YthofogokpolhdaaGreatDoor.Whole
set_option linter.unusedVariables false
set_option linter.unusedSimpArgs false

/-- A number taken apart: n by d, times 2 to the power of e2, and 5 to that of e5. -/
structure Pt where
  n : Int
  d : Int
  e2 : Int
  e5 : Int

/-- A frac, and an error's number. -/
structure Got where
  n : Int
  d : Int
  t : Int
  e : Int
  deriving DecidableEq

def over : Got := ⟨0, 0, 0, 10⟩
def odd (n : Int) : Int := spL (spL n 2) 5
def apartP (n ten : Int) : Pt := if n = 0 then ⟨0, 1, ten, ten⟩ else ⟨spL (spL n 2) 5, 1, spT n 2 + ten, spT (spL n 2) 5 + ten⟩
def partsP (n d ten : Int) : Pt := ⟨(apartP n ten).n, d, (apartP n ten).e2, (apartP n ten).e5⟩
def turnP (p : Pt) : Pt := if p.n < 0 then ⟨-p.d, -p.n, -p.e2, -p.e5⟩ else ⟨p.d, p.n, -p.e2, -p.e5⟩
def timesN (x y : Pt) : Int := x.n.tdiv (Int.gcd x.n y.d) * y.n.tdiv (Int.gcd y.n x.d)
def timesD (x y : Pt) : Int := x.d.tdiv (Int.gcd y.n x.d) * y.d.tdiv (Int.gcd x.n y.d)
def timesP (x y : Pt) : Option Pt := if (timesN x y).natAbs ≤ 9223372036854775807 ∧ (timesD x y).natAbs ≤ 9223372036854775807 then some ⟨timesN x y, timesD x y, x.e2 + y.e2, x.e5 + y.e5⟩ else none
def formAt (N d t : Int) : Got := if t < -1000 ∨ 1000 < t then over else if N.natAbs ≤ 9223372036854775807 then ⟨N, d, t, 0⟩ else over
def formP (p : Pt) : Got := if p.n = 0 then ⟨0, 1, 0, 0⟩ else if p.e2 ≤ p.e5 then formAt (p.n * 5 ^ (p.e5 - p.e2).toNat) p.d p.e2 else formAt (p.n * 2 ^ (p.e2 - p.e5).toNat) p.d p.e5
def joinP (x : Pt) : Nat → Pt → Got
  | 0, _ => formP x
  | k + 1, y => match timesP x y with
    | none => over
    | some z => joinP z k y

def near (ten : Int) : Int := if ten < -2000 then -2000 else if 2000 < ten then 2000 else ten
def makeG (num den ten : Int) : Got := if num < -9223372036854775807 ∨ den < -9223372036854775807 then ⟨0, 0, 0, 1⟩ else if den = 0 then ⟨0, 0, 0, 11⟩ else joinP (apartP num (near ten)) 1 (turnP (apartP den 0))
def rightB (n d t : Int) : Bool := makeG n d t == ⟨n, d, t, 0⟩
def mulG (n1 d1 t1 n2 d2 t2 : Int) : Got := if rightB n1 d1 t1 = false ∨ rightB n2 d2 t2 = false then ⟨0, 0, 0, 1⟩ else joinP (partsP n1 d1 t1) 1 (partsP n2 d2 t2)
def divG (n1 d1 t1 n2 d2 t2 : Int) : Got := if rightB n1 d1 t1 = false ∨ rightB n2 d2 t2 = false then ⟨0, 0, 0, 1⟩ else if n2 = 0 then ⟨0, 0, 0, 11⟩ else joinP (partsP n1 d1 t1) 1 (turnP (partsP n2 d2 t2))
def powG (n d t k : Int) : Got := if rightB n d t = false ∨ k < -99 ∨ 99 < k then ⟨0, 0, 0, 1⟩ else if 0 ≤ k then joinP (apartP 1 0) k.toNat (partsP n d t) else if n = 0 then ⟨0, 0, 0, 11⟩ else joinP (apartP 1 0) (-k).toNat (turnP (partsP n d t))

/-- What the walks keep: numbers within int64, the divisor above 0, powers within B. -/
def Pt.Ok (B : Int) (p : Pt) : Prop := p.n.natAbs ≤ 9223372036854775807 ∧ 1 ≤ p.d ∧ p.d ≤ 9223372036854775807 ∧ -B ≤ p.e2 ∧ p.e2 ≤ B ∧ -B ≤ p.e5 ∧ p.e5 ≤ B

theorem Pt.Ok.more {B C : Int} {p : Pt} (h : p.Ok B) (hc : B ≤ C) : p.Ok C := by
  obtain ⟨h1, h2, h3, h4, h5, h6, h7⟩ := h
  exact ⟨h1, h2, h3, by omega, by omega, by omega, by omega⟩

theorem spL_ne (n k : Int) (hk : 2 ≤ k) (h0 : n ≠ 0) : spL n k ≠ 0 := fun h => by
  have := (sp_spec n k hk h0).2; rw [h] at this; simp at this

theorem apart_ok (n ten : Int) (hn : n.natAbs ≤ 9223372036854775807) (h1 : -2000 ≤ ten) (h2 : ten ≤ 2000) : (apartP n ten).Ok 2100 ∧ (apartP n ten).d = 1 := by
  unfold apartP
  by_cases h0 : n = 0
  · rw [if_pos h0]; exact ⟨⟨by simp, by simp, by simp, by show -2100 ≤ ten; omega, by show ten ≤ 2100; omega, by show -2100 ≤ ten; omega, by show ten ≤ 2100; omega⟩, rfl⟩
  · rw [if_neg h0]
    have b2 := spT_lt n 2 (by omega) h0 (by omega)
    have hL0 := spL_ne n 2 (by omega) h0
    have hLb := spL_le n 2 (by omega) h0
    have b5 := spT_lt (spL n 2) 5 (by omega) hL0 (by omega)
    have hLb5 := spL_le (spL n 2) 5 (by omega) hL0
    exact ⟨⟨by show (spL (spL n 2) 5).natAbs ≤ _; omega, by simp, by simp, by show -2100 ≤ (spT n 2 : Int) + ten; omega, by show (spT n 2 : Int) + ten ≤ 2100; omega, by show -2100 ≤ (spT (spL n 2) 5 : Int) + ten; omega, by show (spT (spL n 2) 5 : Int) + ten ≤ 2100; omega⟩, rfl⟩

theorem parts_ok (n d ten : Int) (hn : n.natAbs ≤ 9223372036854775807) (hd : 1 ≤ d) (hd' : d ≤ 9223372036854775807) (h1 : -2000 ≤ ten) (h2 : ten ≤ 2000) : (partsP n d ten).Ok 2100 := by
  obtain ⟨⟨a1, _, _, a4, a5, a6, a7⟩, _⟩ := apart_ok n ten hn h1 h2
  exact ⟨a1, hd, hd', a4, a5, a6, a7⟩

theorem turn_ok {B : Int} {p : Pt} (h : p.Ok B) (h0 : p.n ≠ 0) : (turnP p).Ok B := by
  obtain ⟨h1, h2, h3, h4, h5, h6, h7⟩ := h
  unfold turnP
  by_cases hn : p.n < 0
  · rw [if_pos hn]
    exact ⟨by show (-p.d).natAbs ≤ _; omega, by show 1 ≤ -p.n; omega, by show -p.n ≤ _; omega, by show -B ≤ -p.e2; omega, by show -p.e2 ≤ B; omega, by show -B ≤ -p.e5; omega, by show -p.e5 ≤ B; omega⟩
  · rw [if_neg hn]
    exact ⟨by show (p.d).natAbs ≤ _; omega, by show 1 ≤ p.n; omega, by show p.n ≤ _; omega, by show -B ≤ -p.e2; omega, by show -p.e2 ≤ B; omega, by show -B ≤ -p.e5; omega, by show -p.e5 ≤ B; omega⟩

theorem gcd_pos_r (a b : Int) (hb : 1 ≤ b) : (1 : Int) ≤ (Int.gcd a b : Nat) := by
  have : 0 < Int.gcd a b := Int.gcd_pos_of_ne_zero_right a (by omega)
  omega

theorem tdiv_pos (d : Int) (g : Nat) (hd : 1 ≤ d) (hg : (g : Int) ∣ d) : 1 ≤ d.tdiv g := by
  rw [Int.tdiv_eq_ediv_of_dvd hg]
  obtain ⟨c, hc⟩ := hg
  have hg0 : (g : Int) ≠ 0 := fun h => by rw [h] at hc; simp at hc; omega
  rw [hc, Int.mul_ediv_cancel_left _ hg0]
  rcases Int.lt_or_le 0 c with h | h
  · omega
  · exfalso
    have : (g : Int) * c ≤ 0 := Int.mul_nonpos_of_nonneg_of_nonpos (by omega) h
    omega

theorem timesD_pos (x y : Pt) (hx : 1 ≤ x.d) (hy : 1 ≤ y.d) : 1 ≤ timesD x y := by
  unfold timesD
  have h1 := tdiv_pos x.d (Int.gcd y.n x.d) hx (Int.gcd_dvd_right _ _)
  have h2 := tdiv_pos y.d (Int.gcd x.n y.d) hy (Int.gcd_dvd_right _ _)
  have := Int.mul_le_mul h1 h2 (by omega) (by omega)
  omega

theorem times_ok {B C : Int} {x y z : Pt} (hx : x.Ok B) (hy : y.Ok C) (h : timesP x y = some z) : z.Ok (B + C) := by
  obtain ⟨h1, h2, h3, h4, h5, h6, h7⟩ := hx
  obtain ⟨k1, k2, k3, k4, k5, k6, k7⟩ := hy
  unfold timesP at h
  split at h
  · rename_i hf
    simp only [Option.some.injEq] at h
    subst h
    have hp := timesD_pos x y h2 k2
    exact ⟨hf.1, hp, by show timesD x y ≤ _; have := hf.2; omega, by show -(B + C) ≤ x.e2 + y.e2; omega, by show x.e2 + y.e2 ≤ B + C; omega, by show -(B + C) ≤ x.e5 + y.e5; omega, by show x.e5 + y.e5 ≤ B + C; omega⟩
  · exact absurd h (by simp)

def Got.Fine (g : Got) : Prop := g.e = 0 → g.n.natAbs ≤ 9223372036854775807 ∧ 1 ≤ g.d ∧ g.d ≤ 9223372036854775807 ∧ -1000 ≤ g.t ∧ g.t ≤ 1000

theorem over_fine : over.Fine := fun h => absurd h (by decide)

theorem formAt_fine (N d t : Int) (h1 : 1 ≤ d) (h2 : d ≤ 9223372036854775807) : (formAt N d t).Fine := by
  unfold formAt
  by_cases hf : t < -1000 ∨ 1000 < t
  · rw [if_pos hf]; exact over_fine
  rw [if_neg hf]
  by_cases hN : N.natAbs ≤ 9223372036854775807
  · rw [if_pos hN]; exact fun _ => ⟨hN, h1, h2, by show -1000 ≤ t; omega, by show t ≤ 1000; omega⟩
  · rw [if_neg hN]; exact over_fine

theorem form_fine {B : Int} {p : Pt} (h : p.Ok B) : (formP p).Fine := by
  unfold formP
  by_cases h0 : p.n = 0
  · rw [if_pos h0]; exact fun _ => ⟨by simp, by simp, by simp, by simp, by simp⟩
  rw [if_neg h0]
  by_cases hle : p.e2 ≤ p.e5
  · rw [if_pos hle]; exact formAt_fine _ _ _ h.2.1 h.2.2.1
  · rw [if_neg hle]; exact formAt_fine _ _ _ h.2.1 h.2.2.1

theorem join_fine {C : Int} {y : Pt} (hy : y.Ok C) : ∀ (k : Nat) {B : Int} {x : Pt}, x.Ok B → (joinP x k y).Fine
  | 0, _, _, hx => form_fine hx
  | k + 1, _, x, hx => by
    unfold joinP
    cases ht : timesP x y with
    | none => exact over_fine
    | some z => exact join_fine hy k (times_ok hx hy ht)

theorem near_in (ten : Int) : -2000 ≤ near ten ∧ near ten ≤ 2000 := by
  unfold near
  by_cases h1 : ten < -2000
  · rw [if_pos h1]; omega
  rw [if_neg h1]
  by_cases h2 : 2000 < ten
  · rw [if_pos h2]; omega
  · rw [if_neg h2]; omega

theorem apart_ne (n ten : Int) (h0 : n ≠ 0) : (apartP n ten).n ≠ 0 := by
  unfold apartP; rw [if_neg h0]; exact spL_ne _ 5 (by omega) (spL_ne _ 2 (by omega) h0)

theorem parts_ne (n d ten : Int) (h0 : n ≠ 0) : (partsP n d ten).n ≠ 0 := apart_ne n ten h0

theorem make_fine (num den ten : Int) (h1 : num ≤ 9223372036854775807) (h2 : den ≤ 9223372036854775807) : (makeG num den ten).Fine := by
  unfold makeG
  by_cases ha : num < -9223372036854775807 ∨ den < -9223372036854775807
  · rw [if_pos ha]; exact fun h => absurd h (by decide)
  rw [if_neg ha]
  by_cases h0 : den = 0
  · rw [if_pos h0]; exact fun h => absurd h (by decide)
  rw [if_neg h0]
  obtain ⟨n1, n2⟩ := near_in ten
  exact join_fine (turn_ok (apart_ok den 0 (by omega) (by omega) (by omega)).1 (apart_ne den 0 h0)) 1 (apart_ok num (near ten) (by omega) n1 n2).1

theorem right_fine {n d t : Int} (h1 : n ≤ 9223372036854775807) (h2 : d ≤ 9223372036854775807) (h : rightB n d t = true) : n.natAbs ≤ 9223372036854775807 ∧ 1 ≤ d ∧ d ≤ 9223372036854775807 ∧ -1000 ≤ t ∧ t ≤ 1000 := by
  unfold rightB at h
  have e : makeG n d t = ⟨n, d, t, 0⟩ := by simpa using h
  have := make_fine n d t h1 h2
  rw [e] at this
  exact this rfl

end Go.Proofs.YthofogokpolhdaaGreatDoor.Frac

namespace Go.Proofs.YthofogokpolhdaaGreatDoor.Frac
open Go.RowKit
open Go.Proofs.YthofogokpolhdaaGreatDoor.Whole
set_option linter.unusedVariables false
set_option linter.unusedSimpArgs false

def Pt.v (p : Pt) : Value := .agg #[.int .i64 p.n, .int .i64 p.d, .int .i64 p.e2, .int .i64 p.e5]
def Got.v (g : Got) : Value := .tuple #[.agg #[.int .i64 g.n, .int .i64 g.d, .int .i64 g.t], .int .i64 g.e]
def onceV : Option Pt → Value
  | some z => .tuple #[z.v, .bool true]
  | none => .tuple #[.agg #[.int .i64 0, .int .i64 0, .int .i64 0, .int .i64 0], .bool false]

/-- In the world w the block b holds p. -/
def Lies (w : World) (b : Nat) (p : Pt) : Prop := w.cell? ⟨b, 0, none⟩ = some (.int .i64 p.n) ∧ w.cell? ⟨b, 1, none⟩ = some (.int .i64 p.d) ∧ w.cell? ⟨b, 2, none⟩ = some (.int .i64 p.e2) ∧ w.cell? ⟨b, 3, none⟩ = some (.int .i64 p.e5) ∧ b < w.heap.size

theorem Lies.below {w w' : World} {b : Nat} {p : Pt} {B : Nat} (h : Lies w b p) (hb : Below B w w') (hB : b < B) : Lies w' b p := by
  obtain ⟨h0, h1, h2, h3, hz⟩ := h
  exact ⟨(hb.cell (p := ⟨b, 0, none⟩) hB).trans h0, (hb.cell (p := ⟨b, 1, none⟩) hB).trans h1, (hb.cell (p := ⟨b, 2, none⟩) hB).trans h2, (hb.cell (p := ⟨b, 3, none⟩) hB).trans h3, by have := hb.size; omega⟩

/-- How join's world stands at the head of a round: its own two blocks are the number so far, and the result. -/
def JoinAt (w v : World) (z : Pt) : Prop :=
  Below w.heap.size w v ∧ Lies v w.heap.size z ∧ (∀ j, v.frozen? ⟨w.heap.size, j, none⟩ = false) ∧ v.cell? ⟨w.heap.size + 1, 0, none⟩ = some (.int .i64 0) ∧ v.cell? ⟨w.heap.size + 1, 1, none⟩ = some (.int .i64 0) ∧ v.cell? ⟨w.heap.size + 1, 2, none⟩ = some (.int .i64 0) ∧ (∀ j, v.frozen? ⟨w.heap.size + 1, j, none⟩ = false) ∧ w.heap.size + 1 < v.heap.size

theorem JoinAt.below {w v v' : World} {z : Pt} (h : JoinAt w v z) (hb : Below v.heap.size v v') : JoinAt w v' z := by
  obtain ⟨h1, h2, h3, h4, h5, h6, h7, h8⟩ := h
  have hz := h2.2.2.2.2
  refine ⟨h1.trans (hb.mono (by omega)), h2.below hb hz, fun j => (hb.frozen (p := ⟨w.heap.size, j, none⟩) hz).trans (h3 j), (hb.cell (p := ⟨w.heap.size + 1, 0, none⟩) h8).trans h4, (hb.cell (p := ⟨w.heap.size + 1, 1, none⟩) h8).trans h5, (hb.cell (p := ⟨w.heap.size + 1, 2, none⟩) h8).trans h6, fun j => (hb.frozen (p := ⟨w.heap.size + 1, j, none⟩) h8).trans (h7 j), ?_⟩
  have := hb.size
  omega

theorem JoinAt.set {w v : World} {z : Pt} (h : JoinAt w v z) (y : Pt) :
    JoinAt w ((((v.setCell ⟨w.heap.size, 0, none⟩ (.int .i64 y.n)).setCell ⟨w.heap.size, 1, none⟩ (.int .i64 y.d)).setCell ⟨w.heap.size, 2, none⟩ (.int .i64 y.e2)).setCell ⟨w.heap.size, 3, none⟩ (.int .i64 y.e5)) y := by
  obtain ⟨h1, ⟨l0, l1, l2, l3, l4⟩, h3, h4, h5, h6, h7, h8⟩ := h
  refine ⟨by go_grown, ⟨?_, ?_, ?_, ?_, ?_⟩, fun j => ?_, ?_, ?_, ?_, fun j => ?_, ?_⟩
  all_goals simp [go_sem, *]

end Go.Proofs.YthofogokpolhdaaGreatDoor.Frac

namespace Go.Proofs.YthofogokpolhdaaGreatDoor.Frac
open Go.RowKit
open Go.Proofs.YthofogokpolhdaaGreatDoor.Whole
set_option linter.unusedVariables false
set_option linter.unusedSimpArgs false

theorem Below.go {w v v' : World} (h : Below w.heap.size w v) (h' : Below v.heap.size v v') : Below w.heap.size w v' := h.trans (h'.mono h.size)

/-- In the world v the block b is room for a frac. -/
def Room (v : World) (b : Nat) : Prop :=
  v.cell? ⟨b, 0, none⟩ = some (.int .i64 0) ∧ v.cell? ⟨b, 1, none⟩ = some (.int .i64 0) ∧ v.cell? ⟨b, 2, none⟩ = some (.int .i64 0) ∧ (∀ j, v.frozen? ⟨b, j, none⟩ = false) ∧ b < v.heap.size

theorem Room.below {v v' : World} {b B : Nat} (h : Room v b) (hb : Below B v v') (hB : b < B) : Room v' b := by
  obtain ⟨h0, h1, h2, h3, hz⟩ := h
  exact ⟨(hb.cell (p := ⟨b, 0, none⟩) hB).trans h0, (hb.cell (p := ⟨b, 1, none⟩) hB).trans h1, (hb.cell (p := ⟨b, 2, none⟩) hB).trans h2, fun j => (hb.frozen (p := ⟨b, j, none⟩) hB).trans (h3 j), by have := hb.size; omega⟩

/-- The powers of ten that are tried, as the program holds them. -/
def NearIs (ten t : Int) : Prop := ten ≤ -2000 ∧ t = -2000 ∨ 2000 < ten ∧ t = 2000 ∨ -2000 < ten ∧ ten ≤ 2000 ∧ t = ten

theorem right_of {n d t : Int} {G : Got} (h : makeG n d t = G) : rightB n d t = decide (G.n = n ∧ G.d = d ∧ G.t = t ∧ G.e = 0) := by
  unfold rightB
  rw [h]
  obtain ⟨a, b, c, e⟩ := G
  rw [Bool.eq_iff_iff]
  simp

end Go.Proofs.YthofogokpolhdaaGreatDoor.Frac


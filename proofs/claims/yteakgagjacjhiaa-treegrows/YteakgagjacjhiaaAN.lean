/-
  What is right about a table, as plain functions.
-/
import Derived.Test.YteakgagjacjhiaaAM
namespace Go.Proofs.Yteakgagjacjhiaa.Atoms
open Go.RowKit
set_option linter.unusedVariables false
set_option linter.unusedSimpArgs false

/-- A letter of codes that may stand in those of a notation. -/
def letterZ (n b : Int) : Bool :=
  if 97 ≤ b ∧ b ≤ 122 then decide (n ≠ 2 ∧ n ≠ 4) else if 65 ≤ b ∧ b ≤ 90 then true else decide (b = 37 ∨ b = 39 ∨ b = 95 ∨ b = 91 ∨ b = 93)
/-- The letter at a place, 0 behind the end. -/
def at0 (s : List UInt8) (i : Nat) : Int := ((s.getD i 0).toNat : Int)
def lettersB (n : Int) (s : List UInt8) : Bool := s.all fun c => letterZ n (c.toNat : Int)
/-- A code of a notation. -/
def codeB (n : Int) (s : List UInt8) : Bool := decide (1 ≤ s.length) && (decide (s.length ≤ 8) && lettersB n s)
/-- A code as a key. -/
def keyOf (n : Int) (s : List UInt8) : List Int := [n, at0 s 0, at0 s 1, at0 s 2, at0 s 3, at0 s 4, at0 s 5, at0 s 6, at0 s 7]
def keyV (k : List Int) : Value := .agg (k.map (Value.int .u8)).toArray
def noKey : List Int := [0, 0, 0, 0, 0, 0, 0, 0, 0]
/-- As far as it is made: k letters. -/
def upto (s : List UInt8) (k i : Nat) : Int := if i < k then at0 s i else 0

/-- One more row's codes: those from notation n on. -/
def addFrom (K : List (List Int)) : Int → List (List UInt8) → Option (List (List Int))
  | _, [] => some K
  | n, s :: r =>
    if s = [] then addFrom K (n + 1) r
    else if codeB n s = true ∧ keyOf n s ∉ K then addFrom (K ++ [keyOf n s]) (n + 1) r else none
def addP (K : List (List Int)) (l : List (List UInt8)) : Option (List (List Int)) := if l.headD [] = [] then none else addFrom K 1 l
def Row.codes (r : Row) : List (List UInt8) := [r.c0, r.c1, r.c2, r.c3, r.c4]
def Pre.codes (r : Pre) : List (List UInt8) := [r.c0, r.c1, r.c2, r.c3, r.c4]

/-- All of an atom is right but its codes, and what its terms are. -/
def worthB (r : Row) : Bool :=
  if r.tag < 0 ∨ 99 < r.tag then false
  else if 0 ≤ r.base ∧ r.base < 7 then decide (r.num = 1 ∧ r.den = 1 ∧ r.ten = 0 ∧ r.tag = 0 ∧ r.ts.length = 0)
  else if r.base ≠ -1 ∨ 9 < r.ts.length then false
  else decide ((Frac.makeG r.num r.den r.ten).e = 0 ∧ (Frac.makeG r.num r.den r.ten).n ≠ 0)
/-- A term is a power of one of the plain atoms ahead. -/
def termB (rows : List Row) (i : Nat) (t : Int × Int) : Bool :=
  if t.1 < 0 ∨ (i : Int) ≤ t.1 ∨ (rows.getD t.1.toNat default).tag ≠ 0 then false else decide (t.2 ≠ 0 ∧ -9 ≤ t.2 ∧ t.2 ≤ 9)
def rowB (rows : List Row) (i : Nat) : Bool := worthB (rows.getD i default) && (rows.getD i default).ts.all (termB rows i)
/-- The first atom that is not right, from place i on, with m left; and the codes that were there. -/
def wrongA (rows : List Row) : Nat → Nat → List (List Int) → Int
  | 0, _, _ => -1
  | m + 1, i, K =>
    match addP K (rows.getD i default).codes with
    | none => i
    | some K' => if rowB rows i then wrongA rows m (i + 1) K' else i
def wrongP (ps : List Pre) : Nat → Nat → List (List Int) → Int
  | 0, _, _ => -1
  | m + 1, i, K =>
    match addP K (ps.getD i default).codes with
    | none => i
    | some K' => if -30 ≤ (ps.getD i default).ten ∧ (ps.getD i default).ten ≤ 30 then wrongP ps m (i + 1) K' else i
/-- P5.2. -/
def checkT (rows : List Row) (ps : List Pre) : Int :=
  if 100 < rows.length ∨ 30 < ps.length then (rows.length + ps.length : Nat)
  else if wrongA rows rows.length 0 [] ≠ -1 then wrongA rows rows.length 0 []
  else if wrongP ps ps.length 0 [] ≠ -1 then (rows.length : Int) + wrongP ps ps.length 0 []
  else -1

end Go.Proofs.Yteakgagjacjhiaa.Atoms

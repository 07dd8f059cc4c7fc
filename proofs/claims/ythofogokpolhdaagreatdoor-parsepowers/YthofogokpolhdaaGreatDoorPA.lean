/-
  Reading tokens, as plain functions: what may stand at a place, and what is done with it. No program in this text.
-/
import Derived.Test.YthofogokpolhdaaGreatDoorUA
import Derived.Test.YthofogokpolhdaaGreatDoorXM
namespace Go.Proofs.YthofogokpolhdaaGreatDoor.Parses
open Go.Proofs.YthofogokpolhdaaGreatDoor.Trees (Stp)
open Go.Proofs.YthofogokpolhdaaGreatDoor.Toks (Tok)
set_option linter.unusedVariables false
set_option linter.unusedSimpArgs false

/-- How far the reading is: what may stand there (0 behind open, 1 behind an operator, 2 and 3 behind a symbol, 4 behind Pow, 5 behind a sign, 6 behind a base, 7 behind a note), what waits (the last one for the innermost main), whether a number is one below 0, the steps. -/
structure Rd where
  may : Nat
  waits : List Int
  below : Bool
  tree : List Stp
inductive Got where
  | go (s : Rd)
  | no
  | deep

/-- Does a token of that kind stand there? -/
def isK (L : List Tok) (i : Nat) (k : Int) : Bool := decide (i < L.length) && decide ((L.getD i default).kind = k)
def opStep (op : Int) : Stp := ⟨op, -1, 0, 0, 0, []⟩
def putS (s : Rd) (x : Stp) : Rd := { s with tree := s.tree ++ [x] }
def closeS (s : Rd) : Rd := if s.waits.getLastD 0 = 0 then s else putS s (opStep (s.waits.getLastD 0))
def waitS (s : Rd) (op : Int) : Rd := { s with waits := s.waits.dropLast ++ [op], may := 1 }
def openS (s : Rd) : Rd := { s with waits := s.waits ++ [0], may := 0 }
def mayS (s : Rd) (k : Nat) : Rd := { s with may := k }
/-- The last step's power. -/
def powS (s : Rd) (k : Int) : Rd := { s with tree := s.tree.dropLast ++ [{ s.tree.getLastD default with n := k }] }

def inverseG (L : List Tok) (i : Nat) (s : Rd) : Got := if isK L i 5 = true then .go (waitS s 5) else .no
def symbolG (pow : Bool) (L : List Tok) (i : Nat) (s : Rd) : Got :=
  if isK L i 1 = true then .go { putS s ⟨2, -1, (i : Int), 1, 0, []⟩ with below := false, may := if pow = true then 2 else 3 } else .no
def numberG (L : List Tok) (i : Nat) (s : Rd) : Got :=
  if isK L i 2 = true ∧ 1 ≤ (L.getD i default).num then .go (mayS (putS s ⟨1, -1, 0, 0, (L.getD i default).num, []⟩) 6) else .no
def leftG (L : List Tok) (i : Nat) (s : Rd) : Got := if isK L i 7 = true then (if s.waits.length = 33 then .deep else .go (openS s)) else .no
def notedG (L : List Tok) (i : Nat) (s : Rd) (op : Int) : Got := if isK L i 9 = true then .go (mayS (putS s ⟨op, -1, 0, 0, 0, (L.getD i default).text⟩) 7) else .no
def signG (L : List Tok) (i : Nat) (s : Rd) : Got := if isK L i 3 = true then .go { s with below := decide ((L.getD i default).text = [45]), may := 5 } else .no
def powerG (L : List Tok) (i : Nat) (s : Rd) : Got :=
  if isK L i 2 = true ∧ 0 ≤ (L.getD i default).num ∧ (L.getD i default).num ≤ 99 then .go (mayS (powS s (if s.below = true then 0 - (L.getD i default).num else (L.getD i default).num)) 6) else .no
def operatorG (L : List Tok) (i : Nat) (s : Rd) : Got :=
  if isK L i 4 = true then .go (waitS (closeS s) 3) else if isK L i 5 = true then .go (waitS (closeS s) 4) else .no
def rightG (L : List Tok) (i : Nat) (s : Rd) : Got :=
  if isK L i 8 = true ∧ s.waits.length ≠ 1 then .go (mayS { closeS s with waits := s.waits.dropLast } 6) else .no
def endG (L : List Tok) (i : Nat) (s : Rd) : Got := if i < L.length ∨ 1 < s.waits.length then .no else .go (closeS s)
def raiseG (L : List Tok) (i : Nat) (s : Rd) : Got := if isK L i 6 = true then .go (mayS s 4) else .no

/-- Those that are asked, by numbers. -/
def askG (pow : Bool) (L : List Tok) (i : Nat) (s : Rd) : Nat → Got
  | 0 => inverseG L i s
  | 1 => symbolG pow L i s
  | 2 => numberG L i s
  | 3 => leftG L i s
  | 4 => notedG L i s 7
  | 5 => signG L i s
  | 6 => powerG L i s
  | 7 => notedG L i s 6
  | 8 => operatorG L i s
  | 9 => rightG L i s
  | 10 => endG L i s
  | _ => raiseG L i s
/-- Who is asked where. -/
def rowOf : Nat → List Nat
  | 0 => [0, 1, 2, 3, 4]
  | 1 => [1, 2, 3, 4]
  | 2 => [11, 7, 8, 9, 10]
  | 3 => [5, 6, 7, 8, 9, 10]
  | 4 => [5, 6]
  | 5 => [6]
  | 6 => [7, 8, 9, 10]
  | 8 => []
  | _ => [8, 9, 10]
/-- The first one that takes what stands there. -/
def firstG (pow : Bool) (L : List Tok) (i : Nat) (s : Rd) : List Nat → Got
  | [] => .no
  | k :: r => match askG pow L i s k with
    | .no => firstG pow L i s r
    | g => g
/-- How the reading ends: the steps; or an error, at a token. -/
inductive Red where
  | done (s : Rd)
  | bad (err : Int) (at_ : Nat)
def readG (pow : Bool) (L : List Tok) : Nat → Nat → Rd → Red
  | _, 0, s => .done s
  | i, m + 1, s => match firstG pow L i s (rowOf s.may) with
    | .go s' => readG pow L (i + 1) m s'
    | .no => .bad 14 i
    | .deep => .bad 13 i
def placeG (L : List Tok) (size : Int) (i : Nat) : Int := if i < L.length then ((L.getD i default).pos : Int) else size
/-- As it is made: nothing may stand there yet. -/
def zeroR : Rd := ⟨8, [], false, []⟩
def startR : Rd := openS zeroR
/-- All tokens, and the end behind them. -/
def readAll (pow : Bool) (L : List Tok) : Red := readG pow L 0 (L.length + 1) startR

end Go.Proofs.YthofogokpolhdaaGreatDoor.Parses

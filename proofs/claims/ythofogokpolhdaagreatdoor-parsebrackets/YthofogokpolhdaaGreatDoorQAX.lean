/-
  Texts put together of pieces, each of which is a token: their tokens. No program in this text. Reading, token by token: what each of those that are asked says where such a token stands. No program in this text. Trees as rows of pieces, and what is read of these: the tree. No program in this text but the table. Texts of trees: their tokens, and what they are parsed to. No program in this text but the table. Texts of trees with more behind, or ahead: what is refused, and where. No program in this text but the table.
-/
import Derived.Test.YthofogokpolhdaaGreatDoorPX
namespace Go.Proofs.YthofogokpolhdaaGreatDoor.Parses
open Go.Proofs.YthofogokpolhdaaGreatDoor.Toks
open Go.Proofs.YthofogokpolhdaaGreatDoor.Style (stZ isN upL up1 plainL fineL fineZ St)
open Go.Proofs.YthofogokpolhdaaGreatDoor.Texts (val isDig)
set_option linter.unusedVariables false
set_option linter.unusedSimpArgs false

/-- A piece: a token without its place. -/
structure Pc where
  kind : Int
  text : List UInt8
  num : Int
  deriving DecidableEq, Inhabited
def byteZ (x : Int) : UInt8 := UInt8.ofNat x.toNat
/-- Its bytes. -/
def rawP (n : Int) (x : Pc) : List UInt8 := if x.kind = 9 then byteZ (stZ n).op :: (x.text ++ [byteZ (stZ n).cl]) else x.text
/-- It is a token, wherever it stands. -/
structure PcOk (n : Int) (x : Pc) : Prop where
  next : ∀ J, (∀ c J', J = c :: J' → x.kind ≤ 2 → kd n c ≠ x.kind) → nextT n (rawP n x ++ J) = some ⟨x.kind, x.text, x.num, (rawP n x).length⟩
  head : ∃ c r, rawP n x = c :: r ∧ kd n c = x.kind
def raws (n : Int) : List Pc → List UInt8
  | [] => []
  | x :: r => rawP n x ++ raws n r
/-- No two stand side by side that would be one. -/
def Sep : List Pc → Prop
  | [] => True
  | [_] => True
  | x :: y :: r => (x.kind ≤ 2 → y.kind ≠ x.kind) ∧ Sep (y :: r)
def placed (n : Int) : Nat → List Pc → List (Tok × Nat)
  | _, [] => []
  | p, x :: r => (⟨x.kind, p, x.text, x.num⟩, p + (rawP n x).length) :: placed n (p + (rawP n x).length) r
theorem raws_app (n : Int) : ∀ a b : List Pc, raws n (a ++ b) = raws n a ++ raws n b
  | [], b => rfl
  | x :: a, b => by simp only [List.cons_append, raws, raws_app n a b, List.append_assoc]
theorem Sep.tail {x : Pc} {r : List Pc} (h : Sep (x :: r)) : Sep r := by
  cases r with
  | nil => trivial
  | cons y r => exact h.2
/-- The tokens of pieces, whatever stands behind that does not go on with the last one. -/
theorem lex_pieces {n : Int} : ∀ (ps : List Pc) (p : Nat) (R : List UInt8), (∀ x ∈ ps, PcOk n x) → Sep ps → (∀ x, ps.getLast? = some x → ∀ c J', R = c :: J' → x.kind ≤ 2 → kd n c ≠ x.kind) →
    lexL n p (raws n ps ++ R) = placed n p ps ++ lexL n (p + (raws n ps).length) R
  | [], p, R, _, _, _ => by simp only [raws, placed, List.nil_append, List.length_nil, Nat.add_zero]
  | [x], p, R, h, _, hR => by
    have hx := h x (by simp)
    have e : raws n [x] ++ R = rawP n x ++ R := by simp only [raws, List.append_nil]
    rw [e, lexL_some (hx.next R (hR x rfl)), List.drop_left]
    simp only [raws, placed, List.append_nil, List.cons_append, List.nil_append]
  | x :: y :: r, p, R, h, hs, hR => by
    have hx := h x (by simp)
    obtain ⟨c, r', he, hc⟩ := (h y (by simp)).head
    have e : raws n (x :: y :: r) ++ R = rawP n x ++ (raws n (y :: r) ++ R) := by simp only [raws, List.append_assoc]
    have hn := hx.next (raws n (y :: r) ++ R) (fun c' J' e' hk => by
      have e2 : raws n (y :: r) ++ R = c :: (r' ++ raws n r ++ R) := by simp only [raws, he, List.cons_append, List.append_assoc]
      rw [e2] at e'
      injection e' with e1 _
      rw [← e1, hc]
      exact hs.1 hk)
    rw [e, lexL_some hn, List.drop_left, lex_pieces (y :: r) _ R (fun z hz => h z (List.mem_cons_of_mem _ hz)) hs.tail (fun z hz => hR z (by rw [List.getLast?_cons_cons]; exact hz))]
    have el : p + (raws n (x :: y :: r)).length = p + (rawP n x).length + (raws n (y :: r)).length := by
      show p + (rawP n x ++ raws n (y :: r)).length = _
      rw [List.length_append]; omega
    rw [el]; rfl

/-! ### Pieces of each kind -/

theorem ok_sym {n : Int} {t : List UInt8} (h0 : t ≠ []) (hk : ∀ c ∈ t, kd n c = 1) (hu : upL (stZ n).fold t = t) : PcOk n ⟨1, t, 0⟩ := by
  have hr : rawP n ⟨1, t, 0⟩ = t := rfl
  refine ⟨fun J hJ => ?_, ?_⟩
  · rw [hr]
    have hg : goL n 1 (t ++ J) = t.length := run_app (Toks.isK n 1) t J (fun c hc => isK_yes (hk c hc)) (fun c J' e => isK_ne (hJ c J' e (by simp)))
    cases t with
    | nil => exact absurd rfl h0
    | cons c r =>
      have hc := hk c (by simp)
      rw [List.cons_append] at hg ⊢
      simp only [nextT]
      rw [if_neg (by omega), if_pos hc, hg, ← List.cons_append, List.take_left' rfl, hu]
  · cases t with
    | nil => exact absurd rfl h0
    | cons c r => exact ⟨c, r, rfl, hk c (by simp)⟩
theorem ok_num {n : Int} {t : List UInt8} (h0 : t ≠ []) (hk : ∀ c ∈ t, kd n c = 2) (hv : val 0 t ≤ 9223372036854775807) : PcOk n ⟨2, t, (val 0 t : Int)⟩ := by
  have hr : rawP n ⟨2, t, (val 0 t : Int)⟩ = t := rfl
  refine ⟨fun J hJ => ?_, ?_⟩
  · rw [hr]
    have hg : goL n 2 (t ++ J) = t.length := run_app (Toks.isK n 2) t J (fun c hc => isK_yes (hk c hc)) (fun c J' e => isK_ne (hJ c J' e (by simp)))
    cases t with
    | nil => exact absurd rfl h0
    | cons c r =>
      have hc := hk c (by simp)
      rw [List.cons_append] at hg ⊢
      simp only [nextT]
      rw [if_neg (by omega), if_neg (by omega), if_pos hc, hg, ← List.cons_append, List.take_left' rfl, if_pos hv]
  · cases t with
    | nil => exact absurd rfl h0
    | cons c r => exact ⟨c, r, rfl, hk c (by simp)⟩
theorem ok_one {n : Int} {c : UInt8} (h : kd n c ≠ 0 ∧ kd n c ≠ 10 ∧ kd n c ≠ 1 ∧ kd n c ≠ 2 ∧ kd n c ≠ 9) : PcOk n ⟨kd n c, [c], 0⟩ := by
  have hr : rawP n ⟨kd n c, [c], 0⟩ = [c] := by unfold rawP; rw [if_neg h.2.2.2.2]
  refine ⟨fun J hJ => ?_, ⟨c, [], hr, rfl⟩⟩
  rw [hr]
  obtain ⟨a, b, d, e, f⟩ := h
  simp only [nextT, List.cons_append, List.nil_append]
  rw [if_neg (by omega), if_neg d, if_neg e, if_neg f]; rfl
theorem plain_in {n : Int} {t : List UInt8} (h : plainL (stZ n) t = true) : (stZ n).op ≠ 0 ∧ ∀ c ∈ t, (c.toNat : Int) ≠ (stZ n).cl := by
  unfold plainL at h
  rw [Bool.and_eq_true] at h
  refine ⟨fun e => ?_, fun c hc e => ?_⟩
  · have h1 := h.1
    rw [e] at h1; cases h1
  · have h2 := h.2
    unfold fineL at h2
    have := List.all_eq_true.1 h2 c hc
    unfold fineZ at this
    rw [e] at this
    simp at this
theorem ok_note {n : Int} {t : List UInt8} (h : plainL (stZ n) t = true) : PcOk n ⟨9, t, 0⟩ := by
  obtain ⟨h0, hin⟩ := plain_in h
  have hr : rawP n ⟨9, t, 0⟩ = byteZ (stZ n).op :: (t ++ [byteZ (stZ n).cl]) := rfl
  have hb : kd n (byteZ (stZ n).op) = 9 ∧ kd n (byteZ (stZ n).cl) = 10 := by
    rcases st_notes h0 with ⟨rfl | rfl, h2, h3⟩ | ⟨rfl, h2, h3⟩ <;> exact ⟨rfl, rfl⟩
  refine ⟨fun J hJ => ?_, ⟨_, _, hr, hb.1⟩⟩
  have ho : offL n (t ++ byteZ (stZ n).cl :: J) = t.length := run_app (noC n) t _ (fun c hc => by
      unfold noC
      have : kd n c ≠ 10 := fun e => hin c hc (kd_cl e)
      simp [this]) (fun x J' e => by
      injection e with e1 _
      subst e1
      unfold noC; rw [hb.2]; rfl)
  rw [hr, List.cons_append, List.append_assoc]
  simp only [nextT, List.cons_append, List.nil_append]
  rw [if_neg (by omega), if_neg (by omega), if_neg (by omega), if_pos hb.1, ho, List.take_left' rfl, if_pos ⟨by simp, h⟩]
  simp only [List.length_cons, List.length_append, List.length_nil]

end Go.Proofs.YthofogokpolhdaaGreatDoor.Parses

namespace Go.Proofs.YthofogokpolhdaaGreatDoor.Parses
open Go.Proofs.YthofogokpolhdaaGreatDoor.Trees (Stp)
open Go.Proofs.YthofogokpolhdaaGreatDoor.Toks (Tok)
set_option linter.unusedVariables false
set_option linter.unusedSimpArgs false

/-- These pieces' tokens stand there. -/
def Has (L : List Tok) : Nat → List Pc → Prop
  | _, [] => True
  | i, p :: r => (i < L.length ∧ (L.getD i default).kind = p.kind ∧ (L.getD i default).text = p.text ∧ (L.getD i default).num = p.num) ∧ Has L (i + 1) r
theorem Has.app {L : List Tok} : ∀ {a b : List Pc} {i : Nat}, Has L i (a ++ b) → Has L i a ∧ Has L (i + a.length) b
  | [], b, i, h => ⟨trivial, h⟩
  | x :: a, b, i, h => by
    obtain ⟨h1, h2⟩ := h
    obtain ⟨h3, h4⟩ := Has.app (a := a) h2
    refine ⟨⟨h1, h3⟩, ?_⟩
    rw [List.length_cons, show i + (a.length + 1) = i + 1 + a.length by omega]
    exact h4
/-- So many tokens are gone by. -/
def Goes (pow : Bool) (L : List Tok) (i m : Nat) (s s' : Rd) : Prop := ∀ m', readG pow L i (m + m') s = readG pow L (i + m) m' s'
theorem Goes.zero (pow : Bool) (L : List Tok) (i : Nat) (s : Rd) : Goes pow L i 0 s s := fun m' => by rw [Nat.zero_add, Nat.add_zero]
theorem Goes.trans {pow : Bool} {L : List Tok} {i m1 m2 : Nat} {a b c : Rd} (h : Goes pow L i m1 a b) (k : Goes pow L (i + m1) m2 b c) : Goes pow L i (m1 + m2) a c := fun m' => by
  rw [Nat.add_assoc, h (m2 + m'), k m', Nat.add_assoc]
theorem Goes.one {pow : Bool} {L : List Tok} {i : Nat} {s s' : Rd} (h : firstG pow L i s (rowOf s.may) = .go s') : Goes pow L i 1 s s' := fun m' => by
  rw [show 1 + m' = m' + 1 by omega]
  conv => lhs; unfold readG
  rw [h]
theorem isK_has {L : List Tok} {i : Nat} (hi : i < L.length) {k : Int} (h : (L.getD i default).kind = k) (k' : Int) : isK L i k' = decide (k = k') := by
  unfold isK
  rw [decide_eq_true hi, Bool.true_and, h]
theorem isK_end {L : List Tok} {i : Nat} (hi : ¬ i < L.length) (k : Int) : isK L i k = false := by
  unfold isK
  rw [decide_eq_false hi, Bool.false_and]

/-! ### What is taken at the begin of an item -/

/-- A symbol, where an item may stand. -/
theorem go_sym {pow : Bool} {L : List Tok} {i : Nat} {s : Rd} (hm : s.may ≤ 1) (hi : i < L.length) (hk : (L.getD i default).kind = 1) :
    firstG pow L i s (rowOf s.may) = .go { putS s ⟨2, -1, (i : Int), 1, 0, []⟩ with below := false, may := if pow = true then 2 else 3 } := by
  have e := isK_has hi hk
  rcases (by omega : s.may = 0 ∨ s.may = 1) with h | h <;> rw [h] <;> simp [rowOf, firstG, askG, inverseG, symbolG, e]
theorem go_num {pow : Bool} {L : List Tok} {i : Nat} {s : Rd} (hm : s.may ≤ 1) (hi : i < L.length) (hk : (L.getD i default).kind = 2) (hn : 1 ≤ (L.getD i default).num) :
    firstG pow L i s (rowOf s.may) = .go (mayS (putS s ⟨1, -1, 0, 0, (L.getD i default).num, []⟩) 6) := by
  have e := isK_has hi hk
  have hn' : 1 ≤ (L[i]?.getD default).num := by rw [← List.getD_eq_getElem?_getD]; exact hn
  rcases (by omega : s.may = 0 ∨ s.may = 1) with h | h <;> rw [h] <;> simp [rowOf, firstG, askG, inverseG, symbolG, numberG, e, hn']
theorem go_left {pow : Bool} {L : List Tok} {i : Nat} {s : Rd} (hm : s.may ≤ 1) (hi : i < L.length) (hk : (L.getD i default).kind = 7) (hw : s.waits.length ≠ 33) :
    firstG pow L i s (rowOf s.may) = .go (openS s) := by
  have e := isK_has hi hk
  rcases (by omega : s.may = 0 ∨ s.may = 1) with h | h <;> rw [h] <;> simp [rowOf, firstG, askG, inverseG, symbolG, numberG, leftG, e, hw]
theorem no_left {pow : Bool} {L : List Tok} {i : Nat} {s : Rd} (hm : s.may ≤ 1) (hi : i < L.length) (hk : (L.getD i default).kind = 7) (hw : s.waits.length = 33) :
    firstG pow L i s (rowOf s.may) = .deep := by
  have e := isK_has hi hk
  rcases (by omega : s.may = 0 ∨ s.may = 1) with h | h <;> rw [h] <;> simp [rowOf, firstG, askG, inverseG, symbolG, numberG, leftG, e, hw]
theorem go_alone {pow : Bool} {L : List Tok} {i : Nat} {s : Rd} (hm : s.may ≤ 1) (hi : i < L.length) (hk : (L.getD i default).kind = 9) :
    firstG pow L i s (rowOf s.may) = .go (mayS (putS s ⟨7, -1, 0, 0, 0, (L.getD i default).text⟩) 7) := by
  have e := isK_has hi hk
  rcases (by omega : s.may = 0 ∨ s.may = 1) with h | h <;> rw [h] <;> simp [rowOf, firstG, askG, inverseG, symbolG, numberG, leftG, notedG, e]
theorem go_inv {pow : Bool} {L : List Tok} {i : Nat} {s : Rd} (hm : s.may = 0) (hi : i < L.length) (hk : (L.getD i default).kind = 5) :
    firstG pow L i s (rowOf s.may) = .go (waitS s 5) := by
  have e := isK_has hi hk
  rw [hm]; simp [rowOf, firstG, askG, inverseG, e]

/-! ### What is taken behind one -/

/-- Behind an item: 2, 3 behind a symbol, 6 behind another base, 7 behind a note. -/
def Behind (m : Nat) : Prop := m = 2 ∨ m = 3 ∨ m = 6 ∨ m = 7
theorem go_note {pow : Bool} {L : List Tok} {i : Nat} {s : Rd} (hm : s.may = 2 ∨ s.may = 3 ∨ s.may = 6) (hi : i < L.length) (hk : (L.getD i default).kind = 9) :
    firstG pow L i s (rowOf s.may) = .go (mayS (putS s ⟨6, -1, 0, 0, 0, (L.getD i default).text⟩) 7) := by
  have e := isK_has hi hk
  rcases hm with h | h | h <;> rw [h] <;> simp [rowOf, firstG, askG, raiseG, signG, powerG, notedG, e]
theorem no_note {pow : Bool} {L : List Tok} {i : Nat} {s : Rd} (hm : s.may = 7) (hi : i < L.length) (hk : (L.getD i default).kind = 9) :
    firstG pow L i s (rowOf s.may) = .no := by
  have e := isK_has hi hk
  rw [hm]; simp [rowOf, firstG, askG, operatorG, rightG, endG, e, hi]
theorem go_oper {pow : Bool} {L : List Tok} {i : Nat} {s : Rd} (hm : Behind s.may) (hi : i < L.length) {op : Int} (ho : op = 3 ∨ op = 4) (hk : (L.getD i default).kind = op + 1) :
    firstG pow L i s (rowOf s.may) = .go (waitS (closeS s) op) := by
  have e := isK_has hi hk
  rcases ho with rfl | rfl <;> rcases hm with h | h | h | h <;> rw [h] <;> simp [rowOf, firstG, askG, raiseG, signG, powerG, notedG, operatorG, e]
theorem go_right {pow : Bool} {L : List Tok} {i : Nat} {s : Rd} (hm : Behind s.may) (hi : i < L.length) (hk : (L.getD i default).kind = 8) (hw : s.waits.length ≠ 1) :
    firstG pow L i s (rowOf s.may) = .go (mayS { closeS s with waits := s.waits.dropLast } 6) := by
  have e := isK_has hi hk
  rcases hm with h | h | h | h <;> rw [h] <;> simp [rowOf, firstG, askG, raiseG, signG, powerG, notedG, operatorG, rightG, e, hw]
theorem no_right {pow : Bool} {L : List Tok} {i : Nat} {s : Rd} (hm : Behind s.may) (hi : i < L.length) (hk : (L.getD i default).kind = 8) (hw : s.waits.length = 1) :
    firstG pow L i s (rowOf s.may) = .no := by
  have e := isK_has hi hk
  rcases hm with h | h | h | h <;> rw [h] <;> simp [rowOf, firstG, askG, raiseG, signG, powerG, notedG, operatorG, rightG, endG, e, hw, hi]
/-- A token of no kind stands nowhere. -/
theorem no_odd {pow : Bool} {L : List Tok} {i : Nat} {s : Rd} (hi : i < L.length) (hk : (L.getD i default).kind = 0) (hm : s.may ≤ 7) :
    firstG pow L i s (rowOf s.may) = .no := by
  have e := isK_has hi hk
  rcases (by omega : s.may = 0 ∨ s.may = 1 ∨ s.may = 2 ∨ s.may = 3 ∨ s.may = 4 ∨ s.may = 5 ∨ s.may = 6 ∨ s.may = 7) with h | h | h | h | h | h | h | h <;> rw [h] <;> simp [rowOf, firstG, askG, inverseG, symbolG, numberG, leftG, raiseG, signG, powerG, notedG, operatorG, rightG, endG, e, hi]
theorem go_end {pow : Bool} {L : List Tok} {i : Nat} {s : Rd} (hm : Behind s.may) (hi : ¬ i < L.length) (hw : ¬ 1 < s.waits.length) :
    firstG pow L i s (rowOf s.may) = .go (closeS s) := by
  have e := isK_end hi
  rcases hm with h | h | h | h <;> rw [h] <;> simp [rowOf, firstG, askG, raiseG, signG, powerG, notedG, operatorG, rightG, endG, e, hi, hw]
/-- At the end nothing begins; where brackets are open, nothing ends. -/
theorem no_end {pow : Bool} {L : List Tok} {i : Nat} {s : Rd} (hi : ¬ i < L.length) (h : s.may ≤ 1 ∨ s.may ≤ 7 ∧ 1 < s.waits.length) :
    firstG pow L i s (rowOf s.may) = .no := by
  have e := isK_end hi
  rcases h with h | ⟨h, hw⟩
  · rcases (by omega : s.may = 0 ∨ s.may = 1) with h | h <;> rw [h] <;> simp [rowOf, firstG, askG, inverseG, symbolG, numberG, leftG, notedG, e]
  · rcases (by omega : s.may = 0 ∨ s.may = 1 ∨ s.may = 2 ∨ s.may = 3 ∨ s.may = 4 ∨ s.may = 5 ∨ s.may = 6 ∨ s.may = 7) with h | h | h | h | h | h | h | h <;> rw [h] <;> simp [rowOf, firstG, askG, inverseG, symbolG, numberG, leftG, raiseG, signG, powerG, notedG, operatorG, rightG, endG, e, hi, hw]

/-! ### A symbol's number -/

theorem go_raise {pow : Bool} {L : List Tok} {i : Nat} {s : Rd} (hm : s.may = 2) (hi : i < L.length) (hk : (L.getD i default).kind = 6) :
    firstG pow L i s (rowOf s.may) = .go (mayS s 4) := by
  have e := isK_has hi hk
  rw [hm]; simp [rowOf, firstG, askG, raiseG, e]
theorem go_sign {pow : Bool} {L : List Tok} {i : Nat} {s : Rd} (hm : s.may = 3 ∨ s.may = 4) (hi : i < L.length) (hk : (L.getD i default).kind = 3) :
    firstG pow L i s (rowOf s.may) = .go { s with below := decide ((L.getD i default).text = [45]), may := 5 } := by
  have e := isK_has hi hk
  rcases hm with h | h <;> rw [h] <;> simp [rowOf, firstG, askG, signG, e]
theorem go_power {pow : Bool} {L : List Tok} {i : Nat} {s : Rd} (hm : s.may = 3 ∨ s.may = 4 ∨ s.may = 5) (hi : i < L.length) (hk : (L.getD i default).kind = 2) (h0 : 0 ≤ (L.getD i default).num) (h9 : (L.getD i default).num ≤ 99) :
    firstG pow L i s (rowOf s.may) = .go (mayS (powS s (if s.below = true then 0 - (L.getD i default).num else (L.getD i default).num)) 6) := by
  have e := isK_has hi hk
  have h0' : 0 ≤ (L[i]?.getD default).num := by rw [← List.getD_eq_getElem?_getD]; exact h0
  have h9' : (L[i]?.getD default).num ≤ 99 := by rw [← List.getD_eq_getElem?_getD]; exact h9
  rcases hm with h | h | h <;> rw [h] <;> simp [rowOf, firstG, askG, signG, powerG, e, h0', h9']

end Go.Proofs.YthofogokpolhdaaGreatDoor.Parses

namespace Go.Proofs.YthofogokpolhdaaGreatDoor.Parses
open Go.Proofs.YthofogokpolhdaaGreatDoor.Trees (Stp Tr takesZ brkZ inZ mayZ flat_pos)
open Go.Proofs.YthofogokpolhdaaGreatDoor.Toks (Tok)
open Go.Proofs.YthofogokpolhdaaGreatDoor.Style (stZ plainL)
open Go.Proofs.YthofogokpolhdaaGreatDoor.Texts (val val_dec dec_ne dec_all isDig)
open Go.Proofs.YthofogokpolhdaaGreatDoor.Syms (symZ codeA codeP)
open Go.Proofs.YthofogokpolhdaaGreatDoor.Atoms (tableRs tablePs)
open Go.Lib (decDigits)
set_option linter.unusedVariables false
set_option linter.unusedSimpArgs false

/-- P10.2: the text of a prefix and an atom, in the notation k + 1; nothing, if there is none. -/
def textS (k : Nat) (pf a : Int) : List UInt8 :=
  if a < 0 ∨ (tableRs.length : Int) ≤ a ∨ pf < -1 ∨ (tablePs.length : Int) ≤ pf then []
  else if codeA tableRs k a.toNat = [] ∨ pf = -1 then codeA tableRs k a.toNat
  else if codeP tablePs k pf.toNat = [] ∨ (tableRs.getD a.toNat default).m = false then []
  else codeP tablePs k pf.toNat ++ codeA tableRs k a.toNat
def toldS (k : Nat) (pf a : Int) : Bool := decide (textS k pf a ≠ []) && decide (symZ k (textS k pf a) = (pf, a))

def onePc (k : Int) (c : UInt8) : Pc := ⟨k, [c], 0⟩
def numP (u : Nat) : Pc := ⟨2, decDigits u, (u : Int)⟩
def powP (k : Nat) (n : Int) : List Pc := if n = 1 then [] else (if powN k = true then [onePc 6 94] else []) ++ ((if n < 0 then [onePc 3 45] else []) ++ [numP n.natAbs])
def wrapP (b : Bool) (l : List Pc) : List Pc := if b = true then onePc 7 40 :: (l ++ [onePc 8 41]) else l
/-- A tree's pieces, in the notation k + 1. -/
def pcsT (k : Nat) : Tr → List Pc
  | .leaf x => if x.op = 1 then [numP x.num.toNat] else if x.op = 2 then ⟨1, textS k x.pf x.atom, 0⟩ :: powP k x.n else [⟨9, x.text, 0⟩]
  | .one x a => if x.op = 6 then wrapP (brkZ x.op a.top.op) (pcsT k a) ++ [⟨9, x.text, 0⟩] else onePc 5 (byteZ (stZ ((k : Int) + 1)).div) :: wrapP (brkZ x.op a.top.op) (pcsT k a)
  | .two x a b => pcsT k a ++ (if x.op = 3 then onePc 4 (byteZ (stZ ((k : Int) + 1)).mul) else onePc 5 (byteZ (stZ ((k : Int) + 1)).div)) :: wrapP (brkZ x.op b.top.op) (pcsT k b)

/-- A step that the notation k + 1 has. -/
structure FitS (k : Nat) (x : Stp) : Prop where
  op : 1 ≤ x.op ∧ x.op ≤ 7
  sym : x.op = 2 → toldS k x.pf x.atom = true ∧ (-99 ≤ x.n ∧ x.n ≤ 99) ∧ x = ⟨2, x.pf, x.atom, x.n, 0, []⟩
  num : x.op = 1 → (1 ≤ x.num ∧ x.num ≤ 9223372036854775807) ∧ x = ⟨1, -1, 0, 0, x.num, []⟩
  bin : x.op = 3 ∨ x.op = 4 ∨ x.op = 5 → x = opStep x.op
  note : x.op = 6 ∨ x.op = 7 → plainL (stZ ((k : Int) + 1)) x.text = true ∧ x = ⟨x.op, -1, 0, 0, 0, x.text⟩

/-- Steps as they were read are these, once their symbols have names. -/
def Nm (k : Nat) (L : List Tok) (A B : List Stp) : Prop := A.map (nameS k L) = B ∧ ∀ x ∈ A, badS k L x = false
theorem Nm.app {k : Nat} {L : List Tok} {A B A' B' : List Stp} (h : Nm k L A B) (h' : Nm k L A' B') : Nm k L (A ++ A') (B ++ B') :=
  ⟨by rw [List.map_append, h.1, h'.1], fun x hx => (List.mem_append.1 hx).elim (h.2 x) (h'.2 x)⟩
theorem Nm.nil (k : Nat) (L : List Tok) : Nm k L [] [] := ⟨rfl, fun x hx => by cases hx⟩
theorem Nm.plain {k : Nat} {L : List Tok} {x : Stp} (h : x.op ≠ 2) : Nm k L [x] [x] := by
  refine ⟨?_, fun y hy => ?_⟩
  · simp only [List.map_cons, List.map_nil, nameS, if_neg h]
  · rw [List.mem_singleton] at hy
    subst hy
    unfold badS
    have : (y.op == 2) = false := by simp [h]
    rw [this]; rfl
theorem Nm.sym {k : Nat} {L : List Tok} {i : Nat} {pf a n : Int} (ht : (L.getD i default).text = textS k pf a) (h : toldS k pf a = true) : Nm k L [⟨2, -1, (i : Int), n, 0, []⟩] [⟨2, pf, a, n, 0, []⟩] := by
  unfold toldS at h
  rw [Bool.and_eq_true, decide_eq_true_eq, decide_eq_true_eq] at h
  obtain ⟨h0, h1⟩ := h
  have e : tokOf L ⟨2, -1, (i : Int), n, 0, []⟩ = L.getD i default := by unfold tokOf; simp
  have ha : (a == -1) = false := by
    have : ¬ a < 0 := by
      intro hn
      apply h0
      unfold textS
      rw [if_pos (.inl hn)]
    simp; omega
  refine ⟨?_, fun y hy => ?_⟩
  · show [nameS k L _] = _
    unfold nameS
    rw [if_pos (show (⟨2, -1, (i : Int), n, 0, []⟩ : Stp).op = 2 from rfl), e, ht, h1]
  · rw [List.mem_singleton] at hy
    subst hy
    unfold badS
    rw [e, ht, h1, ha]; simp

/-- An item was read. -/
def ItemEnd (k : Nat) (L : List Tok) (i m : Nat) (s : Rd) (B : List Stp) (base : Bool) : Prop :=
  ∃ s' A, Goes (powN k) L i m s s' ∧ s'.waits = s.waits ∧ s'.tree = s.tree ++ A ∧ Nm k L A B ∧ Behind s'.may ∧ (base = true → s'.may ≠ 7)
/-- A main was read, but for what waits. -/
def MainEnd (k : Nat) (L : List Tok) (i m : Nat) (s : Rd) (W : List Int) (B : List Stp) : Prop :=
  ∃ s' A w, Goes (powN k) L i m s s' ∧ s'.waits = W ++ [w] ∧ s'.tree = s.tree ++ A ∧ Nm k L (A ++ (if w = 0 then [] else [opStep w])) B ∧ Behind s'.may

theorem last_app (W : List Int) (w : Int) : (W ++ [w]).getLastD 0 = w := by rw [List.getLastD_eq_getLast?]; simp
theorem close_of {s : Rd} {W : List Int} {w : Int} (h : s.waits = W ++ [w]) : (closeS s).tree = s.tree ++ (if w = 0 then [] else [opStep w]) ∧ (closeS s).waits = s.waits := by
  unfold closeS
  rw [h, last_app]
  by_cases hw : w = 0
  · rw [if_pos hw, if_pos hw, List.append_nil]; exact ⟨rfl, h⟩
  · rw [if_neg hw, if_neg hw]; exact ⟨rfl, h⟩

/-- A symbol's power. -/
theorem go_pow {k : Nat} {L : List Tok} {i j : Nat} {s : Rd} {T : List Stp} {n : Int} (hm : s.may = if powN k = true then 2 else 3) (hb : s.below = false) (ht : s.tree = T ++ [⟨2, -1, (j : Int), 1, 0, []⟩]) (hn : -99 ≤ n ∧ n ≤ 99) (h : Has L i (powP k n)) :
    ∃ s', Goes (powN k) L i (powP k n).length s s' ∧ s'.waits = s.waits ∧ s'.tree = T ++ [⟨2, -1, (j : Int), n, 0, []⟩] ∧ (s'.may = 2 ∨ s'.may = 3 ∨ s'.may = 6) := by
  have hpow : ∀ (x : Rd) (v : Int), x.tree = T ++ [⟨2, -1, (j : Int), 1, 0, []⟩] → (mayS (powS x v) 6).tree = T ++ [⟨2, -1, (j : Int), v, 0, []⟩] := by
    intro x v hx
    show x.tree.dropLast ++ [{ x.tree.getLastD default with n := v }] = _
    rw [hx, List.dropLast_concat, List.getLastD_eq_getLast?]; simp
  by_cases h1 : n = 1
  · subst h1
    refine ⟨s, Goes.zero _ _ _ _, rfl, ht, ?_⟩
    rw [hm]; split <;> simp
  have key : ∀ (i : Nat) (x : Rd), (x.may = 3 ∨ x.may = 4) → x.below = false → x.tree = s.tree → x.waits = s.waits → Has L i ((if n < 0 then [onePc 3 45] else []) ++ [numP n.natAbs]) →
      ∃ s', Goes (powN k) L i ((if n < 0 then [onePc 3 45] else []) ++ [numP n.natAbs]).length x s' ∧ s'.waits = s.waits ∧ s'.tree = T ++ [⟨2, -1, (j : Int), n, 0, []⟩] ∧ (s'.may = 2 ∨ s'.may = 3 ∨ s'.may = 6) := by
    intro i x hx hxb hxt hxw hH
    by_cases hneg : n < 0
    · rw [if_pos hneg] at hH ⊢
      obtain ⟨⟨a1, a2, a3, a4⟩, ⟨b1, b2, b3, b4⟩, _⟩ := hH
      have g1 := Goes.one (pow := powN k) (go_sign (pow := powN k) hx a1 a2)
      have ha : decide ((L.getD i default).text = [45]) = true := by rw [a3]; rfl
      rw [ha] at g1
      have hv : (L.getD (i + 1) default).num = (n.natAbs : Int) := b4
      have g2 := Goes.one (pow := powN k) (go_power (pow := powN k) (s := { x with below := true, may := 5 }) (.inr (.inr rfl)) b1 b2 (by rw [hv]; omega) (by rw [hv]; omega))
      refine ⟨_, g1.trans g2, hxw, ?_, .inr (.inr rfl)⟩
      rw [hpow { x with below := true, may := 5 } _ (hxt.trans ht), hv]
      have : (if ({ x with below := true, may := 5 } : Rd).below = true then 0 - (n.natAbs : Int) else (n.natAbs : Int)) = n := by
        show 0 - (n.natAbs : Int) = n
        omega
      rw [this]
    · rw [if_neg hneg] at hH ⊢
      obtain ⟨⟨b1, b2, b3, b4⟩, _⟩ := hH
      have hv : (L.getD i default).num = (n.natAbs : Int) := b4
      have g2 := Goes.one (pow := powN k) (go_power (pow := powN k) (s := x) (by rcases hx with h | h <;> simp [h]) b1 b2 (by rw [hv]; omega) (by rw [hv]; omega))
      refine ⟨_, g2, hxw, ?_, .inr (.inr rfl)⟩
      rw [hpow x _ (hxt.trans ht), hv, hxb]
      have : (if false = true then 0 - (n.natAbs : Int) else (n.natAbs : Int)) = n := by
        rw [if_neg (by simp)]; omega
      rw [this]
  unfold powP at h ⊢
  rw [if_neg h1] at h ⊢
  by_cases hp : powN k = true
  · rw [if_pos hp] at h hm ⊢
    obtain ⟨⟨a1, a2, a3, a4⟩, h'⟩ := h
    have g1 := Goes.one (pow := powN k) (go_raise (pow := powN k) hm a1 a2)
    obtain ⟨s', g2, r⟩ := key (i + 1) (mayS s 4) (.inr rfl) hb rfl rfl h'
    refine ⟨s', ?_, r⟩
    have := g1.trans g2
    rwa [List.length_append, List.length_singleton]
  · rw [if_neg hp] at h hm ⊢
    exact key i s (.inl hm) hb rfl rfl h

theorem wrap_len (b : Bool) (l : List Pc) : (wrapP b l).length = (if b = true then 1 else 0) + l.length + (if b = true then 1 else 0) := by
  unfold wrapP
  split
  · simp only [List.length_cons, List.length_append, List.length_nil]; omega
  · omega

/-- What is read of a tree's pieces: as an item; as a main. -/
def ReadsI (k : Nat) (L : List Tok) (T : Tr) : Prop := ∀ i s, s.may ≤ 1 → 1 ≤ s.waits.length → s.waits.length + T.nest ≤ 33 → Has L i (pcsT k T) → (T.top.op = 1 ∨ T.top.op = 2 ∨ T.top.op = 6 ∨ T.top.op = 7) → ItemEnd k L i (pcsT k T).length s T.flat (decide (T.top.op = 1 ∨ T.top.op = 2))
def ReadsM (k : Nat) (L : List Tok) (T : Tr) : Prop := ∀ i s W, s.may = 0 → s.waits = W ++ [0] → s.waits.length + T.nest ≤ 33 → Has L i (pcsT k T) → MainEnd k L i (pcsT k T).length s W T.flat

/-- Brackets, or none. -/
theorem reads_wrap {k : Nat} {L : List Tok} {T : Tr} (hI : ReadsI k L T) (hM : ReadsM k L T) (b : Bool) (hb : b = true ∨ (T.top.op = 1 ∨ T.top.op = 2 ∨ T.top.op = 6 ∨ T.top.op = 7)) {i : Nat} {s : Rd} (hm : s.may ≤ 1) (hw : 1 ≤ s.waits.length)
    (hn : s.waits.length + (T.nest + if b = true then 1 else 0) ≤ 33) (h : Has L i (wrapP b (pcsT k T))) : ItemEnd k L i (wrapP b (pcsT k T)).length s T.flat (b || decide (T.top.op = 1 ∨ T.top.op = 2)) := by
  cases b with
  | false =>
    exact hI i s hm hw hn h (by rcases hb with h | h; cases h; exact h)
  | true =>
    unfold wrapP at h ⊢
    rw [if_pos rfl] at h ⊢
    rw [if_pos rfl] at hn
    obtain ⟨⟨a1, a2, _, _⟩, h'⟩ := h
    obtain ⟨h1, ⟨c1, c2, _, _⟩, _⟩ := h'.app
    have g1 := Goes.one (pow := powN k) (go_left (pow := powN k) hm a1 a2 (by omega))
    obtain ⟨s1, A, w, g2, hw1, ht1, hN, hB⟩ := hM (i + 1) (openS s) s.waits rfl rfl (by
      show (s.waits ++ [0]).length + T.nest ≤ 33
      rw [List.length_append, List.length_singleton]; omega) h1
    have g3 := Goes.one (pow := powN k) (go_right (pow := powN k) hB c1 c2 (by rw [hw1, List.length_append, List.length_singleton]; omega))
    obtain ⟨e1, e2⟩ := close_of hw1
    refine ⟨mayS { closeS s1 with waits := s1.waits.dropLast } 6, A ++ (if w = 0 then [] else [opStep w]), ?_, ?_, ?_, hN, .inr (.inr (.inl rfl)), fun _ => by show (6 : Nat) ≠ 7; omega⟩
    · have := g1.trans (g2.trans g3)
      have el : (onePc 7 40 :: (pcsT k T ++ [onePc 8 41])).length = 1 + ((pcsT k T).length + 1) := by
        simp only [List.length_cons, List.length_append, List.length_nil]; omega
      rw [el]; exact this
    · show s1.waits.dropLast = s.waits
      rw [hw1, List.dropLast_concat]
    · show (closeS s1).tree = _
      rw [e1, ht1, List.append_assoc]; rfl

theorem brk_item {over op : Int} (ho : over = 3 ∨ over = 4 ∨ over = 5 ∨ over = 6) (h1 : 1 ≤ op ∧ op ≤ 7) : brkZ over op = true ∨ (op = 1 ∨ op = 2 ∨ op = 6 ∨ op = 7) := by
  unfold brkZ
  by_cases h : op = 3 ∨ op = 4 ∨ op = 5
  · left; rw [decide_eq_true h]; rfl
  · right; omega
theorem in_if (over op : Int) : inZ over op = if brkZ over op = true then 1 else 0 := rfl

theorem top_mem : ∀ T : Tr, T.top ∈ T.flat
  | .leaf x => by simp [Tr.flat, Tr.top]
  | .one x a => by simp [Tr.flat, Tr.top]
  | .two x a b => by simp [Tr.flat, Tr.top]

theorem reads_tree {k : Nat} {L : List Tok} {ok : Int → Int → Bool} : ∀ T : Tr, T.good ok → (∀ x ∈ T.flat, FitS k x) → ReadsI k L T ∧ ReadsM k L T
  | .leaf x, hg, hf => by
    have hx := hf x (by simp [Tr.flat])
    have hop : x.op = 1 ∨ x.op = 2 ∨ x.op = 7 := by
      have := hg.2
      have ho := hx.op
      unfold takesZ at this
      split at this
      · cases this
      · split at this
        · cases this
        · omega
    have hI : ReadsI k L (.leaf x) := by
      intro i s hm hw hn hH ho
      rcases hop with h | h | h
      · have e : pcsT k (.leaf x) = [numP x.num.toNat] := by show (if x.op = 1 then _ else _) = _; rw [if_pos h]
        obtain ⟨⟨n1, n2⟩, hxe⟩ := hx.num h
        rw [e] at hH ⊢
        obtain ⟨⟨a1, a2, a3, a4⟩, _⟩ := hH
        have hv : (L.getD i default).num = x.num := by rw [a4]; show ((x.num.toNat : Nat) : Int) = x.num; omega
        have g1 := Goes.one (pow := powN k) (go_num (pow := powN k) hm a1 a2 (by rw [hv]; exact n1))
        refine ⟨_, [x], g1, rfl, ?_, Nm.plain (by rw [h]; decide), .inr (.inr (.inl rfl)), fun _ => by show (6 : Nat) ≠ 7; omega⟩
        show s.tree ++ [⟨1, -1, 0, 0, (L.getD i default).num, []⟩] = s.tree ++ [x]
        rw [hv, ← hxe]
      · have e : pcsT k (.leaf x) = ⟨1, textS k x.pf x.atom, 0⟩ :: powP k x.n := by show (if x.op = 1 then _ else if x.op = 2 then _ else _) = _; rw [if_neg (by omega), if_pos h]
        obtain ⟨n1, n2, hxe⟩ := hx.sym h
        rw [e] at hH ⊢
        obtain ⟨⟨a1, a2, a3, a4⟩, hP⟩ := hH
        have g1 := Goes.one (pow := powN k) (go_sym (pow := powN k) hm a1 a2)
        obtain ⟨s', g2, h1, h2, h3⟩ := go_pow (k := k) (L := L) (i := i + 1) (j := i) (T := s.tree) (n := x.n) (s := { putS s ⟨2, -1, (i : Int), 1, 0, []⟩ with below := false, may := if powN k = true then 2 else 3 }) rfl rfl rfl n2 hP
        refine ⟨s', [⟨2, -1, (i : Int), x.n, 0, []⟩], ?_, h1, h2, ?_, ?_, fun _ => by rcases h3 with h | h | h <;> rw [h] <;> omega⟩
        · have := g1.trans g2
          rw [List.length_cons, show (powP k x.n).length + 1 = 1 + (powP k x.n).length by omega]
          exact this
        · show Nm k L _ [x]
          rw [hxe]
          exact Nm.sym a3 n1
        · rcases h3 with h | h | h
          · exact .inl h
          · exact .inr (.inl h)
          · exact .inr (.inr (.inl h))
      · have e : pcsT k (.leaf x) = [⟨9, x.text, 0⟩] := by show (if x.op = 1 then _ else if x.op = 2 then _ else _) = _; rw [if_neg (by omega), if_neg (by omega)]
        obtain ⟨n1, hxe⟩ := hx.note (.inr h)
        rw [e] at hH ⊢
        obtain ⟨⟨a1, a2, a3, a4⟩, _⟩ := hH
        have g1 := Goes.one (pow := powN k) (go_alone (pow := powN k) hm a1 a2)
        refine ⟨_, [x], g1, rfl, ?_, Nm.plain (by rw [h]; decide), .inr (.inr (.inr rfl)), fun hb => ?_⟩
        · show s.tree ++ [⟨7, -1, 0, 0, 0, (L.getD i default).text⟩] = s.tree ++ [x]
          rw [a3, hxe, h]
        · have hq : decide ((Tr.leaf x).top.op = 1 ∨ (Tr.leaf x).top.op = 2) = false := decide_eq_false (by show ¬ (x.op = 1 ∨ x.op = 2); omega)
          rw [hq] at hb; cases hb
    refine ⟨hI, fun i s W hm hw hn hH => ?_⟩
    obtain ⟨s', A, g, h1, h2, h3, h4, _⟩ := hI i s (by omega) (by rw [hw, List.length_append, List.length_singleton]; omega) hn hH (by show x.op = 1 ∨ x.op = 2 ∨ x.op = 6 ∨ x.op = 7; omega)
    exact ⟨s', A, 0, g, by rw [h1, hw], h2, by rw [if_pos rfl, List.append_nil]; exact h3, h4⟩
  | .one x a, hg, hf => by
    have hx := hf x (by simp [Tr.flat])
    obtain ⟨aI, aM⟩ := reads_tree a hg.2 (fun y hy => hf y (by simp [Tr.flat, hy]))
    have hat := (hf a.top (by simp [Tr.flat, top_mem])).op
    have hop : x.op = 5 ∨ x.op = 6 := by
      have := hg.1.2
      have ho := hx.op
      unfold takesZ at this
      split at this
      · cases this
      · split at this
        · omega
        · cases this
    by_cases h6 : x.op = 6
    · have e : pcsT k (.one x a) = wrapP (brkZ x.op a.top.op) (pcsT k a) ++ [⟨9, x.text, 0⟩] := by show (if x.op = 6 then _ else _) = _; rw [if_pos h6]
      have hI : ReadsI k L (.one x a) := by
        intro i s hm hw hn hH ho
        obtain ⟨n1, hxe⟩ := hx.note (.inl h6)
        rw [e] at hH ⊢
        obtain ⟨hH1, ⟨a1, a2, a3, a4⟩, _⟩ := hH.app
        have hb6 : brkZ x.op a.top.op = true ∨ (a.top.op = 1 ∨ a.top.op = 2) := by
          unfold brkZ
          by_cases h : a.top.op = 1 ∨ a.top.op = 2
          · exact .inr h
          · left
            by_cases h' : a.top.op = 3 ∨ a.top.op = 4 ∨ a.top.op = 5
            · rw [decide_eq_true h']; rfl
            · rw [decide_eq_true h6, decide_eq_true (show a.top.op = 6 ∨ a.top.op = 7 by omega)]; simp
        obtain ⟨s', A, g, h1, h2, h3, h4, h5⟩ := reads_wrap aI aM (brkZ x.op a.top.op) (brk_item (by omega) hat) hm hw (by rw [← in_if]; exact hn) hH1
        have hb7 : s'.may ≠ 7 := h5 (by
          rcases hb6 with h | h
          · rw [h]; rfl
          · rw [decide_eq_true h]; simp)
        have g2 := Goes.one (pow := powN k) (go_note (pow := powN k) (s := s') (by rcases h4 with h | h | h | h; exact .inl h; exact .inr (.inl h); exact .inr (.inr h); exact absurd h hb7) a1 a2)
        refine ⟨mayS (putS s' ⟨6, -1, 0, 0, 0, (L.getD (i + (wrapP (brkZ x.op a.top.op) (pcsT k a)).length) default).text⟩) 7, A ++ [x], ?_, h1, ?_, ?_, .inr (.inr (.inr rfl)), fun hb => ?_⟩
        · have := g.trans g2
          rwa [List.length_append, List.length_singleton]
        · show s'.tree ++ [⟨6, -1, 0, 0, 0, (L.getD (i + (wrapP (brkZ x.op a.top.op) (pcsT k a)).length) default).text⟩] = _
          rw [a3, h2, hxe, h6, List.append_assoc]
        · exact h3.app (Nm.plain (by rw [h6]; decide))
        · have hq : decide ((Tr.one x a).top.op = 1 ∨ (Tr.one x a).top.op = 2) = false := decide_eq_false (by show ¬ (x.op = 1 ∨ x.op = 2); omega)
          rw [hq] at hb; cases hb
      refine ⟨hI, fun i s W hm hw hn hH => ?_⟩
      obtain ⟨s', A, g, h1, h2, h3, h4, _⟩ := hI i s (by omega) (by rw [hw, List.length_append, List.length_singleton]; omega) hn hH (by show x.op = 1 ∨ x.op = 2 ∨ x.op = 6 ∨ x.op = 7; omega)
      exact ⟨s', A, 0, g, by rw [h1, hw], h2, by rw [if_pos rfl, List.append_nil]; exact h3, h4⟩
    · have h5 : x.op = 5 := by omega
      have e : pcsT k (.one x a) = onePc 5 (byteZ (stZ ((k : Int) + 1)).div) :: wrapP (brkZ x.op a.top.op) (pcsT k a) := by show (if x.op = 6 then _ else _) = _; rw [if_neg h6]
      refine ⟨fun i s hm hw hn hH ho => ?_, fun i s W hm hw hn hH => ?_⟩
      · exfalso
        have ho' : x.op = 1 ∨ x.op = 2 ∨ x.op = 6 ∨ x.op = 7 := ho
        omega
      · rw [e] at hH ⊢
        obtain ⟨⟨a1, a2, a3, a4⟩, hH1⟩ := hH
        have hxe := hx.bin (.inr (.inr h5))
        have g1 := Goes.one (pow := powN k) (go_inv (pow := powN k) hm a1 a2)
        have hww : (waitS s 5).waits = W ++ [5] := by show s.waits.dropLast ++ [5] = _; rw [hw, List.dropLast_concat]
        obtain ⟨s', A, g, h1, h2, h3, h4, _⟩ := reads_wrap aI aM (brkZ x.op a.top.op) (brk_item (by omega) hat) (s := waitS s 5) (i := i + 1) (by show (1 : Nat) ≤ 1; omega) (by rw [hww, List.length_append, List.length_singleton]; omega)
          (by rw [← in_if, hww, List.length_append, List.length_singleton]; rw [hw, List.length_append, List.length_singleton] at hn; exact hn) hH1
        refine ⟨s', A, 5, ?_, by rw [h1, hww], h2, ?_, h4⟩
        · have := g1.trans g
          rw [List.length_cons, show (wrapP (brkZ x.op a.top.op) (pcsT k a)).length + 1 = 1 + (wrapP (brkZ x.op a.top.op) (pcsT k a)).length by omega]
          exact this
        · rw [if_neg (by decide)]
          show Nm k L (A ++ [opStep 5]) (a.flat ++ [x])
          rw [hxe, h5]
          exact h3.app (Nm.plain (by show (5 : Int) ≠ 2; decide))
  | .two x a b, hg, hf => by
    have hx := hf x (by simp [Tr.flat])
    obtain ⟨aI, aM⟩ := reads_tree a hg.2.1 (fun y hy => hf y (by simp [Tr.flat, hy]))
    obtain ⟨bI, bM⟩ := reads_tree b hg.2.2 (fun y hy => hf y (by simp [Tr.flat, hy]))
    have hbt := (hf b.top (by simp [Tr.flat, top_mem])).op
    have hop : x.op = 3 ∨ x.op = 4 := by
      have := hg.1.2
      unfold takesZ at this
      split at this
      · assumption
      · split at this <;> cases this
    refine ⟨fun i s hm hw hn hH ho => ?_, fun i s W hm hw hn hH => ?_⟩
    · exfalso
      have ho' : x.op = 1 ∨ x.op = 2 ∨ x.op = 6 ∨ x.op = 7 := ho
      omega
    · have hn' : s.waits.length + max a.nest (b.nest + inZ x.op b.top.op) ≤ 33 := hn
      obtain ⟨hH1, ⟨c1, c2, _, _⟩, hH2⟩ := Has.app (show Has L i (pcsT k a ++ (if x.op = 3 then onePc 4 (byteZ (stZ ((k : Int) + 1)).mul) else onePc 5 (byteZ (stZ ((k : Int) + 1)).div)) :: wrapP (brkZ x.op b.top.op) (pcsT k b)) from hH)
      obtain ⟨s1, A, w, g1, w1, t1, n1, b1⟩ := aM i s W hm hw (by omega) hH1
      have hxe := hx.bin (by omega)
      have ck : (L.getD (i + (pcsT k a).length) default).kind = x.op + 1 := by
        rw [c2]
        rcases hop with h | h
        · rw [if_pos h, h]; rfl
        · rw [if_neg (by omega), h]; rfl
      have g2 := Goes.one (pow := powN k) (go_oper (pow := powN k) b1 c1 hop ck)
      obtain ⟨e1, e2⟩ := close_of w1
      have hww : (waitS (closeS s1) x.op).waits = W ++ [x.op] := by show (closeS s1).waits.dropLast ++ [x.op] = _; rw [e2, w1, List.dropLast_concat]
      obtain ⟨s', A', g3, h1, h2, h3, h4, _⟩ := reads_wrap bI bM (brkZ x.op b.top.op) (brk_item (by omega) hbt) (s := waitS (closeS s1) x.op) (i := i + (pcsT k a).length + 1) (by show (1 : Nat) ≤ 1; omega) (by rw [hww, List.length_append, List.length_singleton]; omega)
        (by rw [← in_if, hww, List.length_append, List.length_singleton]; rw [hw, List.length_append, List.length_singleton] at hn'; omega) hH2
      refine ⟨s', (A ++ (if w = 0 then [] else [opStep w])) ++ A', x.op, ?_, by rw [h1, hww], ?_, ?_, h4⟩
      · have := g1.trans (g2.trans g3)
        show Goes _ _ _ (pcsT k a ++ _ :: wrapP (brkZ x.op b.top.op) (pcsT k b)).length _ _
        rw [List.length_append, List.length_cons, show (wrapP (brkZ x.op b.top.op) (pcsT k b)).length + 1 = 1 + (wrapP (brkZ x.op b.top.op) (pcsT k b)).length by omega]
        exact this
      · rw [h2]
        show (closeS s1).tree ++ A' = _
        rw [e1, t1]; simp only [List.append_assoc]
      · rw [if_neg (show ¬ x.op = 0 by omega)]
        show Nm k L _ (a.flat ++ b.flat ++ [x])
        rw [← hxe]
        exact (n1.app h3).app (Nm.plain (show x.op ≠ 2 by omega))

end Go.Proofs.YthofogokpolhdaaGreatDoor.Parses

namespace Go.Proofs.YthofogokpolhdaaGreatDoor.Parses
open Go.Proofs.YthofogokpolhdaaGreatDoor.Trees (Stp Tr takesZ brkZ inZ mayZ flat_pos)
open Go.Proofs.YthofogokpolhdaaGreatDoor.Toks
open Go.Proofs.YthofogokpolhdaaGreatDoor.Style (stZ plainL upL up1)
open Go.Proofs.YthofogokpolhdaaGreatDoor.Texts (val val_dec dec_ne dec_all isDig)
open Go.Proofs.YthofogokpolhdaaGreatDoor.Syms (symZ codeA codeP)
open Go.Proofs.YthofogokpolhdaaGreatDoor.Atoms (tableRs tablePs)
open Go.Lib (decDigits)
set_option linter.unusedVariables false
set_option linter.unusedSimpArgs false

/-! ### Codes are letters -/

def lettersB (k : Nat) (t : List UInt8) : Bool := t.all fun c => decide (kd ((k : Int) + 1) c = 1) && decide (up1 (stZ ((k : Int) + 1)).fold c = c)
def codesB : Bool := (List.range 5).all fun k => ((List.range tableRs.length).all fun i => lettersB k (codeA tableRs k i)) && ((List.range tablePs.length).all fun i => lettersB k (codeP tablePs k i))
theorem codes_let : codesB = true := by decide +kernel
theorem letters_in {k : Nat} {t : List UInt8} (h : lettersB k t = true) : (∀ c ∈ t, kd ((k : Int) + 1) c = 1) ∧ upL (stZ ((k : Int) + 1)).fold t = t := by
  unfold lettersB at h
  rw [List.all_eq_true] at h
  refine ⟨fun c hc => ?_, ?_⟩
  · have := h c hc
    rw [Bool.and_eq_true, decide_eq_true_eq] at this
    exact this.1
  · unfold upL
    conv => rhs; rw [← List.map_id t]
    refine List.map_congr_left fun c hc => ?_
    have := h c hc
    rw [Bool.and_eq_true, decide_eq_true_eq, decide_eq_true_eq] at this
    exact this.2
theorem letters_app {k : Nat} {a b : List UInt8} (ha : lettersB k a = true) (hb : lettersB k b = true) : lettersB k (a ++ b) = true := by
  unfold lettersB at *
  rw [List.all_append, ha, hb]; rfl
theorem text_letters {k : Nat} (hk : k < 5) (pf a : Int) : lettersB k (textS k pf a) = true := by
  have h := codes_let
  unfold codesB at h
  have h5 := List.all_eq_true.1 h k (by rw [List.mem_range]; exact hk)
  rw [Bool.and_eq_true, List.all_eq_true, List.all_eq_true] at h5
  unfold textS
  split
  · rfl
  · rename_i h0
    have hA := h5.1 a.toNat (by rw [List.mem_range]; omega)
    split
    · exact hA
    · split
      · rfl
      · rename_i h1 h2
        have hP := h5.2 pf.toNat (by rw [List.mem_range]; omega)
        exact letters_app hP hA

/-! ### A tree's pieces -/

theorem kd_five {k : Nat} (hk : k < 5) : kd ((k : Int) + 1) 40 = 7 ∧ kd ((k : Int) + 1) 41 = 8 ∧ kd ((k : Int) + 1) 43 = 3 ∧ kd ((k : Int) + 1) 45 = 3 ∧ kd ((k : Int) + 1) (byteZ (stZ ((k : Int) + 1)).mul) = 4 ∧ kd ((k : Int) + 1) (byteZ (stZ ((k : Int) + 1)).div) = 5 ∧ kd ((k : Int) + 1) 32 = 0 := by
  match k, hk with
  | 0, _ => exact ⟨rfl, rfl, rfl, rfl, rfl, rfl, rfl⟩
  | 1, _ => exact ⟨rfl, rfl, rfl, rfl, rfl, rfl, rfl⟩
  | 2, _ => exact ⟨rfl, rfl, rfl, rfl, rfl, rfl, rfl⟩
  | 3, _ => exact ⟨rfl, rfl, rfl, rfl, rfl, rfl, rfl⟩
  | 4, _ => exact ⟨rfl, rfl, rfl, rfl, rfl, rfl, rfl⟩
theorem ok_kind {n : Int} {c : UInt8} {k : Int} (h : kd n c = k) (hk : k = 3 ∨ k = 4 ∨ k = 5 ∨ k = 6 ∨ k = 7 ∨ k = 8) : PcOk n (onePc k c) := by
  subst h
  exact ok_one (by omega)
theorem kd_dig {k : Nat} (hk : k < 5) {c : UInt8} (h : isDig c) : kd ((k : Int) + 1) c = 2 := by
  obtain ⟨h1, h2⟩ := h
  have e : c = UInt8.ofNat (48 + (c.toNat - 48)) := by
    rw [show 48 + (c.toNat - 48) = c.toNat by omega]; exact (UInt8.ofNat_toNat).symm
  rw [e]
  exact kd_digit hk _ (by omega)
theorem ok_dec {k : Nat} (hk : k < 5) (u : Nat) (hu : u ≤ 9223372036854775807) : PcOk ((k : Int) + 1) (numP u) := by
  have h := ok_num (n := (k : Int) + 1) (dec_ne u) (fun c hc => kd_dig hk (dec_all u c hc)) (by rw [val_dec]; exact hu)
  rw [val_dec] at h
  exact h

theorem ok_pow {k : Nat} (hk : k < 5) {n : Int} (hn : -99 ≤ n ∧ n ≤ 99) : ∀ x ∈ powP k n, PcOk ((k : Int) + 1) x := by
  intro x hx
  have k5 := kd_five hk
  have hp := kd_pow hk
  unfold powP at hx
  split at hx
  · cases hx
  · rcases List.mem_append.1 hx with h | h
    · split at h
      · rename_i hpw
        rw [List.mem_singleton] at h
        subst h
        rw [if_pos hpw] at hp
        exact ok_kind hp (by omega)
      · cases h
    · rcases List.mem_append.1 h with h | h
      · split at h
        · rw [List.mem_singleton] at h
          subst h
          exact ok_kind k5.2.2.2.1 (by omega)
        · cases h
      · rw [List.mem_singleton] at h
        subst h
        exact ok_dec hk _ (by omega)
theorem ok_wrap {k : Nat} (hk : k < 5) (b : Bool) {l : List Pc} (h : ∀ x ∈ l, PcOk ((k : Int) + 1) x) : ∀ x ∈ wrapP b l, PcOk ((k : Int) + 1) x := by
  intro x hx
  have k5 := kd_five hk
  unfold wrapP at hx
  split at hx
  · rw [List.mem_cons, List.mem_append, List.mem_singleton] at hx
    rcases hx with rfl | hx | rfl
    · exact ok_kind k5.1 (by omega)
    · exact h x hx
    · exact ok_kind k5.2.1 (by omega)
  · exact h x hx
theorem ok_symP {k : Nat} (hk : k < 5) {pf a : Int} (h : toldS k pf a = true) : PcOk ((k : Int) + 1) ⟨1, textS k pf a, 0⟩ := by
  unfold toldS at h
  rw [Bool.and_eq_true, decide_eq_true_eq] at h
  obtain ⟨h1, h2⟩ := letters_in (text_letters hk pf a)
  exact ok_sym h.1 h1 h2
theorem pcs_ok {k : Nat} (hk : k < 5) {ok : Int → Int → Bool} : ∀ T : Tr, T.good ok → (∀ x ∈ T.flat, FitS k x) → ∀ p ∈ pcsT k T, PcOk ((k : Int) + 1) p
  | .leaf x, hg, hf, p, hp => by
    have hx := hf x (by simp [Tr.flat])
    have hp' : p ∈ (if x.op = 1 then [numP x.num.toNat] else if x.op = 2 then ⟨1, textS k x.pf x.atom, 0⟩ :: powP k x.n else [⟨9, x.text, 0⟩]) := hp
    split at hp'
    · rename_i h
      rw [List.mem_singleton] at hp'
      subst hp'
      have := (hx.num h).1
      exact ok_dec hk _ (by omega)
    · split at hp'
      · rename_i h
        obtain ⟨n1, n2, _⟩ := hx.sym h
        rcases List.mem_cons.1 hp' with rfl | h'
        · exact ok_symP hk n1
        · exact ok_pow hk n2 p h'
      · rename_i h1 h2
        rw [List.mem_singleton] at hp'
        subst hp'
        by_cases h7 : x.op = 6 ∨ x.op = 7
        · exact ok_note (hx.note h7).1
        · exfalso
          have ho := hx.op
          have h4 := hg.2
          unfold takesZ at h4
          by_cases h34 : x.op = 3 ∨ x.op = 4
          · rw [if_pos h34] at h4; cases h4
          · rw [if_neg h34] at h4
            by_cases h56 : x.op = 5 ∨ x.op = 6
            · rw [if_pos h56] at h4; cases h4
            · omega
  | .one x a, hg, hf, p, hp => by
    have hx := hf x (by simp [Tr.flat])
    have ih := pcs_ok hk a hg.2 (fun y hy => hf y (by simp [Tr.flat, hy]))
    have k5 := kd_five hk
    have hp' : p ∈ (if x.op = 6 then wrapP (brkZ x.op a.top.op) (pcsT k a) ++ [⟨9, x.text, 0⟩] else onePc 5 (byteZ (stZ ((k : Int) + 1)).div) :: wrapP (brkZ x.op a.top.op) (pcsT k a)) := hp
    split at hp'
    · rename_i h
      rcases List.mem_append.1 hp' with h' | h'
      · exact ok_wrap hk _ ih p h'
      · rw [List.mem_singleton] at h'
        subst h'
        exact ok_note (hx.note (.inl h)).1
    · rcases List.mem_cons.1 hp' with rfl | h'
      · exact ok_kind k5.2.2.2.2.2.1 (by omega)
      · exact ok_wrap hk _ ih p h'
  | .two x a b, hg, hf, p, hp => by
    have ia := pcs_ok hk a hg.2.1 (fun y hy => hf y (by simp [Tr.flat, hy]))
    have ib := pcs_ok hk b hg.2.2 (fun y hy => hf y (by simp [Tr.flat, hy]))
    have k5 := kd_five hk
    have hp' : p ∈ pcsT k a ++ (if x.op = 3 then onePc 4 (byteZ (stZ ((k : Int) + 1)).mul) else onePc 5 (byteZ (stZ ((k : Int) + 1)).div)) :: wrapP (brkZ x.op b.top.op) (pcsT k b) := hp
    rcases List.mem_append.1 hp' with h' | h'
    · exact ia p h'
    · rcases List.mem_cons.1 h' with rfl | h'
      · split
        · exact ok_kind k5.2.2.2.2.1 (by omega)
        · exact ok_kind k5.2.2.2.2.2.1 (by omega)
      · exact ok_wrap hk _ ib p h'

/-! ### No two are one -/

theorem sep_cons {x : Pc} {r : List Pc} (h : 3 ≤ x.kind) (hr : Sep r) : Sep (x :: r) := by
  cases r with
  | nil => trivial
  | cons y r => exact ⟨fun e => by omega, hr⟩
theorem sep_app : ∀ {a b : List Pc} {y : Pc}, Sep a → Sep (y :: b) → 3 ≤ y.kind → Sep (a ++ y :: b)
  | [], b, y, _, hb, _ => hb
  | [x], b, y, _, hb, hy => ⟨fun e => by omega, hb⟩
  | x :: z :: r, b, y, ha, hb, hy => ⟨ha.1, sep_app (a := z :: r) ha.2 hb hy⟩
theorem sep_pow (k : Nat) (n : Int) (x : Pc) (hx : x.kind = 1) : Sep (x :: powP k n) := by
  have n3 : ∀ c, ¬ (onePc 3 c).kind ≤ 2 := fun c => by show ¬ (3 : Int) ≤ 2; decide
  have h3 : Sep [onePc 3 45, numP n.natAbs] := ⟨fun e => absurd e (n3 45), trivial⟩
  have hx' : ∀ y : Pc, y.kind ≠ 1 → (x.kind ≤ 2 → y.kind ≠ x.kind) := fun y hy _ => by rw [hx]; exact hy
  unfold powP
  split
  · trivial
  · split
    · refine ⟨hx' _ (by show (6 : Int) ≠ 1; decide), ?_⟩
      refine sep_cons (by show (3 : Int) ≤ 6; decide) ?_
      split
      · exact h3
      · trivial
    · rw [List.nil_append]
      split
      · exact ⟨hx' _ (by show (3 : Int) ≠ 1; decide), h3⟩
      · exact ⟨hx' _ (by show (2 : Int) ≠ 1; decide), trivial⟩
theorem sep_wrap (b : Bool) {l : List Pc} (h : Sep l) : Sep (wrapP b l) := by
  unfold wrapP
  split
  · exact sep_cons (by show (3 : Int) ≤ 7; omega) (sep_app h trivial (by show (3 : Int) ≤ 8; omega))
  · exact h
theorem pcs_sep (k : Nat) : ∀ T : Tr, Sep (pcsT k T)
  | .leaf x => by
    show Sep (if x.op = 1 then [numP x.num.toNat] else if x.op = 2 then ⟨1, textS k x.pf x.atom, 0⟩ :: powP k x.n else [⟨9, x.text, 0⟩])
    split
    · trivial
    · split
      · exact sep_pow k x.n _ rfl
      · trivial
  | .one x a => by
    have ih := pcs_sep k a
    show Sep (if x.op = 6 then wrapP (brkZ x.op a.top.op) (pcsT k a) ++ [⟨9, x.text, 0⟩] else onePc 5 (byteZ (stZ ((k : Int) + 1)).div) :: wrapP (brkZ x.op a.top.op) (pcsT k a))
    split
    · exact sep_app (sep_wrap _ ih) trivial (by show (3 : Int) ≤ 9; omega)
    · exact sep_cons (by show (3 : Int) ≤ 5; omega) (sep_wrap _ ih)
  | .two x a b => by
    have ia := pcs_sep k a
    have ib := pcs_sep k b
    show Sep (pcsT k a ++ (if x.op = 3 then onePc 4 (byteZ (stZ ((k : Int) + 1)).mul) else onePc 5 (byteZ (stZ ((k : Int) + 1)).div)) :: wrapP (brkZ x.op b.top.op) (pcsT k b))
    split
    · exact sep_app ia (sep_cons (by show (3 : Int) ≤ 4; omega) (sep_wrap _ ib)) (by show (3 : Int) ≤ 4; omega)
    · exact sep_app ia (sep_cons (by show (3 : Int) ≤ 5; omega) (sep_wrap _ ib)) (by show (3 : Int) ≤ 5; omega)

/-! ### Their tokens -/

theorem placed_len (n : Int) : ∀ (ps : List Pc) (p : Nat), (placed n p ps).length = ps.length
  | [], p => rfl
  | x :: r, p => by simp only [placed, List.length_cons, placed_len n r]
theorem placed_app (n : Int) : ∀ (a b : List Pc) (p : Nat), placed n p (a ++ b) = placed n p a ++ placed n (p + (raws n a).length) b
  | [], b, p => by simp only [placed, raws, List.nil_append, List.length_nil, Nat.add_zero]
  | x :: a, b, p => by
    simp only [List.cons_append, placed, raws, placed_app n a b, List.length_append]
    rw [Nat.add_assoc]
theorem placed_end (n : Int) : ∀ (ps : List Pc) (p : Nat), endL p (placed n p ps) = p + (raws n ps).length
  | [], p => rfl
  | x :: r, p => by
    simp only [placed, raws]
    rw [endL_cons]
    simp only
    rw [placed_end n r, List.length_append]; omega
theorem has_at (n : Int) : ∀ (ps : List Pc) (p : Nat) (A B : List Tok), Has (A ++ ((placed n p ps).map Prod.fst ++ B)) A.length ps
  | [], p, A, B => trivial
  | x :: r, p, A, B => by
    have e : (A ++ ((placed n p (x :: r)).map Prod.fst ++ B)) = (A ++ [⟨x.kind, p, x.text, x.num⟩]) ++ ((placed n (p + (rawP n x).length) r).map Prod.fst ++ B) := by
      simp only [placed, List.map_cons, List.cons_append, List.append_assoc, List.nil_append]
    have hg : (A ++ ((placed n p (x :: r)).map Prod.fst ++ B)).getD A.length default = ⟨x.kind, p, x.text, x.num⟩ := by
      rw [List.getD_eq_getElem?_getD, List.getElem?_append_right (Nat.le_refl _), Nat.sub_self]; rfl
    have ih := has_at n r (p + (rawP n x).length) (A ++ [⟨x.kind, p, x.text, x.num⟩]) B
    rw [← e, List.length_append, List.length_singleton] at ih
    refine ⟨⟨?_, by rw [hg], by rw [hg], by rw [hg]⟩, ih⟩
    rw [List.length_append, List.length_append, List.length_map, placed_len]
    simp only [List.length_cons]; omega
/-- What the text of pieces is for the reading. -/
theorem toks_pcs {n : Int} {ps : List Pc} (h : ∀ x ∈ ps, PcOk n x) (hs : Sep ps) : pToks n (raws n ps) = (placed n 0 ps).map Prod.fst ∧ Has (pToks n (raws n ps)) 0 ps ∧ (pToks n (raws n ps)).length = ps.length := by
  have hl := lex_pieces ps 0 [] h hs (fun _ _ c J' e => by cases e)
  rw [List.append_nil, lexL_none (r := []) rfl, List.append_nil] at hl
  have he : endOf n (raws n ps) = (raws n ps).length := by
    unfold endOf
    rw [hl, placed_end]; omega
  have e : pToks n (raws n ps) = (placed n 0 ps).map Prod.fst := by
    unfold pToks
    rw [if_neg (by rw [he]; omega), List.append_nil, hl]
  refine ⟨e, ?_, ?_⟩
  · have := has_at n ps 0 [] []
    rw [List.append_nil, List.nil_append] at this
    rw [e]; exact this
  · rw [e, List.length_map, placed_len]
/-- With more behind that begins no token. -/
theorem toks_odd {n : Int} {ps : List Pc} (h : ∀ x ∈ ps, PcOk n x) (hs : Sep ps) {c : UInt8} (hc : kd n c = 0) (R : List UInt8) : pToks n (raws n ps ++ c :: R) = (placed n 0 ps).map Prod.fst ++ [⟨0, (raws n ps).length, [], 0⟩] := by
  have hl := lex_pieces ps 0 (c :: R) h hs (fun x hx c' J' e hk => by
    injection e with e1 _
    subst e1
    rw [hc]
    obtain ⟨a, r, he, hk2⟩ := (h x (List.mem_of_getLast? hx)).head
    intro e0
    have hb := (h x (List.mem_of_getLast? hx)).next [] (fun _ _ e => by cases e)
    have h1 : 1 ≤ x.kind := (next_bounds hb).1.1
    omega)
  have hn : nextT n (c :: R) = none := by simp only [nextT]; rw [if_pos (.inl hc)]
  rw [lexL_none hn, List.append_nil] at hl
  have he : endOf n (raws n ps ++ c :: R) = (raws n ps).length := by
    unfold endOf
    rw [hl, placed_end]; omega
  unfold pToks
  rw [if_pos (by rw [he, List.length_append, List.length_cons]; omega), he, hl]

/-! ### What is parsed -/

theorem nm_tree {k : Nat} {L : List Tok} {size : Int} {s : Rd} {B : List Stp} (h : Nm k L s.tree B) : treeR k L size (.done s) = .ok B := by
  rw [treeR_none (List.find?_eq_none.2 fun x hx => by rw [h.2 x hx]; simp), h.1]
theorem start_w : startR.waits = [] ++ [0] ∧ startR.may = 0 ∧ startR.tree = [] := ⟨rfl, rfl, rfl⟩

/-- A tree that the notation k + 1 has, brackets not too deep. -/
structure Fits (k : Nat) (T : Tr) : Prop where
  k5 : k < 5
  good : ∃ ok, T.good ok
  fit : ∀ x ∈ T.flat, FitS k x
  nest : T.nest ≤ 32
theorem Fits.oks {k : Nat} {T : Tr} (h : Fits k T) : ∀ p ∈ pcsT k T, PcOk ((k : Int) + 1) p := by
  obtain ⟨ok, hg⟩ := h.good
  exact pcs_ok h.k5 T hg h.fit
def txtT (k : Nat) (T : Tr) : List UInt8 := raws ((k : Int) + 1) (pcsT k T)

/-- Gone over a tree's text from the beginning on. -/
theorem gone {k : Nat} {T : Tr} (h : Fits k T) {L : List Tok} (hH : Has L 0 (pcsT k T)) : ∃ s A w, Goes (powN k) L 0 (pcsT k T).length startR s ∧ s.waits = [w] ∧ Nm k L (A ++ (if w = 0 then [] else [opStep w])) T.flat ∧ s.tree = A ∧ Behind s.may := by
  obtain ⟨ok, hg⟩ := h.good
  obtain ⟨s, A, w, g, h1, h2, h3, h4⟩ := (reads_tree (L := L) T hg h.fit).2 0 startR [] rfl rfl (by show 1 + T.nest ≤ 33; have := h.nest; omega) hH
  exact ⟨s, A, w, g, h1, h3, h2, h4⟩
/-- P12.3: what is printed is parsed to the same tree. -/
theorem back_end {k : Nat} {T : Tr} (h : Fits k T) (size : Int) : treeAll k (pToks ((k : Int) + 1) (txtT k T)) size = .ok T.flat := by
  obtain ⟨_, hH, hl⟩ := toks_pcs (h.oks) (pcs_sep k T)
  show treeAll k (pToks ((k : Int) + 1) (raws ((k : Int) + 1) (pcsT k T))) size = _
  generalize pToks ((k : Int) + 1) (raws ((k : Int) + 1) (pcsT k T)) = L at *
  obtain ⟨s, A, w, g, hw, hN, ht, hB⟩ := gone h hH
  unfold treeAll readAll
  rw [hl, g 1, Nat.zero_add]
  obtain ⟨e1, _⟩ := close_of (W := []) (w := w) hw
  have ge := Goes.one (go_end (pow := powN k) hB (show ¬ (pcsT k T).length < L.length by omega) (by rw [hw]; simp)) 0
  rw [Nat.add_zero] at ge
  rw [ge]
  exact nm_tree (by rw [e1, ht]; exact hN)

end Go.Proofs.YthofogokpolhdaaGreatDoor.Parses

namespace Go.Proofs.YthofogokpolhdaaGreatDoor.Parses
open Go.Proofs.YthofogokpolhdaaGreatDoor.Trees (Stp Tr)
open Go.Proofs.YthofogokpolhdaaGreatDoor.Toks
open Go.Proofs.YthofogokpolhdaaGreatDoor.Style (stZ)
set_option linter.unusedVariables false
set_option linter.unusedSimpArgs false

theorem behind_le {m : Nat} (h : Behind m) : m ≤ 7 := by rcases h with h | h | h | h <;> omega
theorem at_end {n : Int} {ps : List Pc} {p : Pc} {r : List Pc} {q : Nat} (B : List Tok) : ((placed n q (ps ++ p :: r)).map Prod.fst ++ B).getD ps.length default = ⟨p.kind, q + (raws n ps).length, p.text, p.num⟩ := by
  rw [placed_app, List.map_append, List.append_assoc, List.getD_eq_getElem?_getD, List.getElem?_append_right (by rw [List.length_map, placed_len]; exact Nat.le_refl _), List.length_map, placed_len, Nat.sub_self]
  rfl
/-- A bracket that closes nothing. -/
theorem end_right {k : Nat} {T : Tr} (h : Fits k T) (size : Int) : treeAll k (pToks ((k : Int) + 1) (txtT k T ++ [41])) size = .error (14, ((txtT k T).length : Int), 0) := by
  have k5 := kd_five h.k5
  have e : txtT k T ++ [41] = raws ((k : Int) + 1) (pcsT k T ++ [onePc 8 41]) := by rw [raws_app]; rfl
  obtain ⟨hL, hH, hl⟩ := toks_pcs (n := (k : Int) + 1) (ps := pcsT k T ++ [onePc 8 41]) (fun x hx => by
    rcases List.mem_append.1 hx with hx | hx
    · exact h.oks x hx
    · rw [List.mem_singleton.1 hx]; exact ok_kind k5.2.1 (by omega)) (sep_app (pcs_sep k T) trivial (by show (3 : Int) ≤ 8; omega))
  have hp := at_end (n := (k : Int) + 1) (ps := pcsT k T) (p := onePc 8 41) (r := []) (q := 0) []
  rw [List.append_nil, ← hL] at hp
  rw [e]
  generalize pToks ((k : Int) + 1) (raws ((k : Int) + 1) (pcsT k T ++ [onePc 8 41])) = L at *
  obtain ⟨hH1, ⟨a1, a2, _, _⟩, _⟩ := hH.app
  rw [Nat.zero_add] at a1 a2
  obtain ⟨s, A, w, g, hw, hN, ht, hB⟩ := gone h hH1
  rw [List.length_append, List.length_singleton] at hl
  unfold treeAll readAll
  rw [hl, g 2, Nat.zero_add]
  have hno := no_right (pow := powN k) hB a1 a2 (by rw [hw]; rfl)
  unfold readG
  rw [hno]
  show Except.error (14, placeG L size (pcsT k T).length, 0) = _
  unfold placeG
  rw [if_pos a1, hp]
  show Except.error (14, ((0 + (txtT k T).length : Nat) : Int), 0) = _
  rw [Nat.zero_add]
/-- An operator at the end. -/
theorem end_oper {k : Nat} {T : Tr} (h : Fits k T) (size : Int) : treeAll k (pToks ((k : Int) + 1) (txtT k T ++ [byteZ (stZ ((k : Int) + 1)).mul])) size = .error (14, size, 0) := by
  have k5 := kd_five h.k5
  have e : txtT k T ++ [byteZ (stZ ((k : Int) + 1)).mul] = raws ((k : Int) + 1) (pcsT k T ++ [onePc 4 (byteZ (stZ ((k : Int) + 1)).mul)]) := by rw [raws_app]; rfl
  obtain ⟨hL, hH, hl⟩ := toks_pcs (n := (k : Int) + 1) (ps := pcsT k T ++ [onePc 4 (byteZ (stZ ((k : Int) + 1)).mul)]) (fun x hx => by
    rcases List.mem_append.1 hx with hx | hx
    · exact h.oks x hx
    · rw [List.mem_singleton.1 hx]; exact ok_kind k5.2.2.2.2.1 (by omega)) (sep_app (pcs_sep k T) trivial (by show (3 : Int) ≤ 4; omega))
  rw [e]
  generalize pToks ((k : Int) + 1) (raws ((k : Int) + 1) (pcsT k T ++ [onePc 4 (byteZ (stZ ((k : Int) + 1)).mul)])) = L at *
  obtain ⟨hH1, ⟨a1, a2, _, _⟩, _⟩ := hH.app
  rw [Nat.zero_add] at a1 a2
  obtain ⟨s, A, w, g, hw, hN, ht, hB⟩ := gone h hH1
  rw [List.length_append, List.length_singleton] at hl
  have g2 := Goes.one (go_oper (pow := powN k) hB a1 (op := 3) (.inl rfl) a2) 1
  unfold treeAll readAll
  rw [hl, g 2, Nat.zero_add, show (2 : Nat) = 1 + 1 from rfl, g2]
  have hno := no_end (pow := powN k) (L := L) (i := (pcsT k T).length + 1) (s := waitS (closeS s) 3) (by omega) (.inl (by show (1 : Nat) ≤ 1; omega))
  unfold readG
  rw [hno]
  show Except.error (14, placeG L size ((pcsT k T).length + 1), 0) = _
  unfold placeG
  rw [if_neg (by omega)]
/-- A bracket that is not closed. -/
theorem end_left {k : Nat} {T : Tr} (h : Fits k T) (h31 : T.nest ≤ 31) (size : Int) : treeAll k (pToks ((k : Int) + 1) (40 :: txtT k T)) size = .error (14, size, 0) := by
  have k5 := kd_five h.k5
  have e : 40 :: txtT k T = raws ((k : Int) + 1) (onePc 7 40 :: pcsT k T) := rfl
  obtain ⟨hL, hH, hl⟩ := toks_pcs (n := (k : Int) + 1) (ps := onePc 7 40 :: pcsT k T) (fun x hx => by
    rcases List.mem_cons.1 hx with hx | hx
    · rw [hx]; exact ok_kind k5.1 (by omega)
    · exact h.oks x hx) (sep_cons (by show (3 : Int) ≤ 7; omega) (pcs_sep k T))
  rw [e]
  generalize pToks ((k : Int) + 1) (raws ((k : Int) + 1) (onePc 7 40 :: pcsT k T)) = L at *
  obtain ⟨⟨a1, a2, _, _⟩, hH1⟩ := hH
  rw [List.length_cons] at hl
  obtain ⟨ok, hg⟩ := h.good
  have g1 := Goes.one (go_left (pow := powN k) (s := startR) (by show (0 : Nat) ≤ 1; omega) a1 a2 (by show (1 : Nat) ≠ 33; omega))
  obtain ⟨s, A, w, g, hw, ht, hN, hB⟩ := (reads_tree (L := L) T hg h.fit).2 (0 + 1) (openS startR) [0] rfl rfl (by show 2 + T.nest ≤ 33; omega) hH1
  have gg := (g1.trans g) 1
  have hno := no_end (pow := powN k) (L := L) (i := 0 + (1 + (pcsT k T).length)) (s := s) (by omega) (.inr ⟨behind_le hB, by rw [hw]; show 1 < 2; omega⟩)
  unfold treeAll readAll
  rw [hl, show (pcsT k T).length + 1 + 1 = 1 + (pcsT k T).length + 1 by omega, gg]
  unfold readG
  rw [hno]
  show Except.error (14, placeG L size (0 + (1 + (pcsT k T).length)), 0) = _
  unfold placeG
  rw [if_neg (by omega)]
/-- A byte that is no token's. -/
theorem end_odd {k : Nat} {T : Tr} (h : Fits k T) (size : Int) : treeAll k (pToks ((k : Int) + 1) (txtT k T ++ [32])) size = .error (14, ((txtT k T).length : Int), 0) := by
  have k5 := kd_five h.k5
  have hL := toks_odd h.oks (pcs_sep k T) k5.2.2.2.2.2.2 []
  have hH := has_at ((k : Int) + 1) (pcsT k T) 0 [] [⟨0, (raws ((k : Int) + 1) (pcsT k T)).length, [], 0⟩]
  rw [List.nil_append, ← hL, List.length_nil] at hH
  have hl : (pToks ((k : Int) + 1) (raws ((k : Int) + 1) (pcsT k T) ++ [32])).length = (pcsT k T).length + 1 := by
    rw [hL, List.length_append, List.length_map, placed_len, List.length_singleton]
  have hg : (pToks ((k : Int) + 1) (raws ((k : Int) + 1) (pcsT k T) ++ [32])).getD (pcsT k T).length default = ⟨0, (raws ((k : Int) + 1) (pcsT k T)).length, [], 0⟩ := by
    rw [hL, List.getD_eq_getElem?_getD, List.getElem?_append_right (by rw [List.length_map, placed_len]; exact Nat.le_refl _), List.length_map, placed_len, Nat.sub_self]
    rfl
  show treeAll k (pToks ((k : Int) + 1) (raws ((k : Int) + 1) (pcsT k T) ++ [32])) size = _
  generalize pToks ((k : Int) + 1) (raws ((k : Int) + 1) (pcsT k T) ++ [32]) = L at *
  obtain ⟨s, A, w, g, hw, hN, ht, hB⟩ := gone h hH
  unfold treeAll readAll
  rw [hl, g 2, Nat.zero_add]
  have a1 : (pcsT k T).length < L.length := by omega
  have hno := no_odd (pow := powN k) (s := s) a1 (by rw [hg]) (behind_le hB)
  unfold readG
  rw [hno]
  show Except.error (14, placeG L size (pcsT k T).length, 0) = _
  unfold placeG
  rw [if_pos a1, hg]
  rfl

end Go.Proofs.YthofogokpolhdaaGreatDoor.Parses


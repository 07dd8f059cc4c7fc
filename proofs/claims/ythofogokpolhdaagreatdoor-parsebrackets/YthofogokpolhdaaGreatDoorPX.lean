/-
  Texts of a symbol and its power, as plain functions: their tokens, and what is read of these. No program in this text but the table.
-/
import Derived.Test.YthofogokpolhdaaGreatDoorRSZ
namespace Go.Proofs.YthofogokpolhdaaGreatDoor.Parses
open Go.Proofs.YthofogokpolhdaaGreatDoor.Trees (Stp)
open Go.Proofs.YthofogokpolhdaaGreatDoor.Toks
open Go.Proofs.YthofogokpolhdaaGreatDoor.Style (stZ isN upL up1)
open Go.Proofs.YthofogokpolhdaaGreatDoor.Texts (val)
open Go.Proofs.YthofogokpolhdaaGreatDoor.Syms (symZ)
set_option linter.unusedVariables false
set_option linter.unusedSimpArgs false

/-- What a text's tokens are for the reading: where they do not reach the end, one more, of no kind. -/
def endOf (n : Int) (s : List UInt8) : Nat := endL 0 (lexL n 0 s)
def pToks (n : Int) (s : List UInt8) : List Tok := (lexL n 0 s).map Prod.fst ++ (if endOf n s < s.length then [⟨0, endOf n s, [], 0⟩] else [])
/-- The symbol m. -/
def mText (k : Nat) : List UInt8 := upL (stZ ((k : Int) + 1)).fold [109]

theorem kd_m {k : Nat} (hk : k < 5) : kd ((k : Int) + 1) 109 = 1 := by
  match k, hk with
  | 0, _ => rfl
  | 1, _ => rfl
  | 2, _ => rfl
  | 3, _ => rfl
  | 4, _ => rfl
theorem kd_sign {k : Nat} (hk : k < 5) {c : UInt8} (hc : c = 43 ∨ c = 45) : kd ((k : Int) + 1) c = 3 := by
  rcases hc with rfl | rfl <;> (match k, hk with
  | 0, _ => rfl
  | 1, _ => rfl
  | 2, _ => rfl
  | 3, _ => rfl
  | 4, _ => rfl)
theorem kd_pow {k : Nat} (hk : k < 5) : kd ((k : Int) + 1) 94 = if powN k = true then 6 else 0 := by
  match k, hk with
  | 0, _ => rfl
  | 1, _ => rfl
  | 2, _ => rfl
  | 3, _ => rfl
  | 4, _ => rfl
theorem kd_digit {k : Nat} (hk : k < 5) (d : Nat) (hd : d < 10) : kd ((k : Int) + 1) (UInt8.ofNat (48 + d)) = 2 := by
  have : ∀ d, d < 10 → ∀ k : Nat, k < 5 → kd ((k : Int) + 1) (UInt8.ofNat (48 + d)) = 2 := by decide
  exact this d hd k hk
theorem next_m {k : Nat} (hk : k < 5) (r : List UInt8) (h : ∀ c r', r = c :: r' → kd ((k : Int) + 1) c ≠ 1) : nextT ((k : Int) + 1) (109 :: r) = some ⟨1, mText k, 0, 1⟩ := by
  have hg : goL ((k : Int) + 1) 1 (109 :: r) = 1 := by
    unfold goL
    rw [run_yes r (isK_yes (kd_m hk))]
    cases r with
    | nil => rfl
    | cons c r' => rw [run_no r' (isK_ne (h c r' rfl))]
  simp only [nextT]
  rw [if_neg (by rw [kd_m hk]; omega), if_pos (kd_m hk), hg]
  rfl
theorem next_sign {k : Nat} (hk : k < 5) {c : UInt8} (hc : c = 43 ∨ c = 45) (r : List UInt8) : nextT ((k : Int) + 1) (c :: r) = some ⟨3, [c], 0, 1⟩ := by
  have h3 := kd_sign hk hc
  simp only [nextT]
  rw [if_neg (by omega), if_neg (by omega), if_neg (by omega), if_neg (by omega), h3]
theorem next_pow {k : Nat} (hk : k < 5) (r : List UInt8) : nextT ((k : Int) + 1) (94 :: r) = if powN k = true then some ⟨6, [94], 0, 1⟩ else none := by
  have h6 := kd_pow hk
  simp only [nextT]
  by_cases hp : powN k = true
  · rw [if_pos hp] at h6 ⊢
    rw [if_neg (by omega), if_neg (by omega), if_neg (by omega), if_neg (by omega), h6]
  · rw [if_neg hp] at h6 ⊢
    rw [if_pos (by omega)]
theorem next_num {n : Int} {D : List UInt8} (h0 : D ≠ []) (hD : ∀ c ∈ D, kd n c = 2) (hv : val 0 D ≤ 9223372036854775807) : nextT n D = some ⟨2, D, (val 0 D : Int), D.length⟩ := by
  have hg : goL n 2 D = D.length := by
    have := run_app (Toks.isK n 2) D [] (fun c hc => isK_yes (hD c hc)) (fun c J' e => by cases e)
    rwa [List.append_nil] at this
  cases D with
  | nil => exact absurd rfl h0
  | cons c r =>
    have h2 := hD c (by simp)
    simp only [nextT]
    rw [if_neg (by omega), if_neg (by omega), if_pos h2, hg, List.take_length, if_pos hv]

/-- The tokens of a number that ends a text. -/
theorem lex_num {n : Int} (p : Nat) {D : List UInt8} (h0 : D ≠ []) (hD : ∀ c ∈ D, kd n c = 2) (hv : val 0 D ≤ 9223372036854775807) : lexL n p D = [(⟨2, p, D, (val 0 D : Int)⟩, p + D.length)] := by
  rw [lexL_some (next_num h0 hD hv), List.drop_length]
  rw [lexL_none (r := []) rfl]
/-- A sign, or none. -/
def isSg (S : List UInt8) : Prop := S = [] ∨ S = [43] ∨ S = [45]
def sgToks (p : Nat) (S : List UInt8) : List (Tok × Nat) := S.map fun c => (⟨3, p, [c], 0⟩, p + 1)
theorem lex_sign {k : Nat} (hk : k < 5) (p : Nat) {S D : List UInt8} (hS : isSg S) (h0 : D ≠ []) (hD : ∀ c ∈ D, kd ((k : Int) + 1) c = 2) (hv : val 0 D ≤ 9223372036854775807) :
    lexL ((k : Int) + 1) p (S ++ D) = sgToks p S ++ [(⟨2, p + S.length, D, (val 0 D : Int)⟩, p + S.length + D.length)] := by
  rcases hS with rfl | rfl | rfl
  · rw [List.nil_append, lex_num p h0 hD hv]; rfl
  · rw [List.cons_append, List.nil_append, lexL_some (next_sign hk (.inl rfl) D)]
    simp only [List.drop_succ_cons, List.drop_zero]
    rw [lex_num (p + 1) h0 hD hv]; rfl
  · rw [List.cons_append, List.nil_append, lexL_some (next_sign hk (.inr rfl) D)]
    simp only [List.drop_succ_cons, List.drop_zero]
    rw [lex_num (p + 1) h0 hD hv]; rfl
theorem sg_head {k : Nat} (hk : k < 5) {S D : List UInt8} (hS : isSg S) (hD : ∀ c ∈ D, kd ((k : Int) + 1) c = 2) : ∀ c r', S ++ D = c :: r' → kd ((k : Int) + 1) c ≠ 1 := by
  intro c r' e
  rcases hS with rfl | rfl | rfl
  · rw [List.nil_append] at e
    have := hD c (by rw [e]; simp)
    omega
  · injection e with e _; subst e
    rw [kd_sign hk (.inl rfl)]; omega
  · injection e with e _; subst e
    rw [kd_sign hk (.inr rfl)]; omega
/-- m alone. -/
theorem lex_alone {k : Nat} (hk : k < 5) : lexL ((k : Int) + 1) 0 [109] = [(⟨1, 0, mText k, 0⟩, 1)] := by
  rw [lexL_some (next_m hk [] (fun c r' e => by cases e))]
  simp only [List.drop_succ_cons, List.drop_zero]
  rw [lexL_none (r := []) rfl]
/-- m, and a number. -/
theorem lex_less {k : Nat} (hk : k < 5) {S D : List UInt8} (hS : isSg S) (h0 : D ≠ []) (hD : ∀ c ∈ D, kd ((k : Int) + 1) c = 2) (hv : val 0 D ≤ 9223372036854775807) :
    lexL ((k : Int) + 1) 0 (109 :: (S ++ D)) = (⟨1, 0, mText k, 0⟩, 1) :: (sgToks 1 S ++ [(⟨2, 1 + S.length, D, (val 0 D : Int)⟩, 1 + S.length + D.length)]) := by
  rw [lexL_some (next_m hk _ (sg_head hk hS hD))]
  simp only [List.drop_succ_cons, List.drop_zero]
  rw [lex_sign hk (0 + 1) hS h0 hD hv]
/-- m, the sign of powers, and a number. -/
theorem lex_with {k : Nat} (hk : k < 5) (hp : powN k = true) {S D : List UInt8} (hS : isSg S) (h0 : D ≠ []) (hD : ∀ c ∈ D, kd ((k : Int) + 1) c = 2) (hv : val 0 D ≤ 9223372036854775807) :
    lexL ((k : Int) + 1) 0 (109 :: 94 :: (S ++ D)) = (⟨1, 0, mText k, 0⟩, 1) :: (⟨6, 1, [94], 0⟩, 2) :: (sgToks 2 S ++ [(⟨2, 2 + S.length, D, (val 0 D : Int)⟩, 2 + S.length + D.length)]) := by
  have h6 := kd_pow hk
  rw [if_pos hp] at h6
  rw [lexL_some (next_m hk _ (fun c r' e => by injection e with e _; subst e; omega))]
  simp only [List.drop_succ_cons, List.drop_zero]
  have h := next_pow hk (S ++ D)
  rw [if_pos hp] at h
  rw [lexL_some h]
  simp only [List.drop_succ_cons, List.drop_zero]
  rw [lex_sign hk (0 + 1 + 1) hS h0 hD hv]
theorem lex_bare {k : Nat} (hk : k < 5) (hp : powN k = false) (R : List UInt8) : lexL ((k : Int) + 1) 0 (109 :: 94 :: R) = [(⟨1, 0, mText k, 0⟩, 1)] := by
  have h6 := kd_pow hk
  rw [if_neg (by rw [hp]; simp)] at h6
  rw [lexL_some (next_m hk _ (fun c r' e => by injection e with e _; subst e; omega))]
  simp only [List.drop_succ_cons, List.drop_zero]
  have h := next_pow hk R
  rw [if_neg (by rw [hp]; simp)] at h
  rw [lexL_none h]

/-! ### What is read -/

/-- What there is of m in the table. -/
def mSym (k : Nat) : Int × Int := symZ k (mText k)
theorem m_there {k : Nat} (hk : k < 5) : ((mSym k).2 == -1) = false := by
  match k, hk with
  | 0, _ => decide
  | 1, _ => decide
  | 2, _ => decide
  | 3, _ => decide
  | 4, _ => decide

/-- The one step of m, with a power. -/
def mStep (k : Nat) (p : Int) : Stp := ⟨2, (mSym k).1, (mSym k).2, p, 0, []⟩
theorem tree_one {k : Nat} (hk : k < 5) {L : List Tok} {size : Int} {s : Rd} {p : Int} (h : readAll (powN k) L = .done s) (ht : s.tree = [⟨2, -1, 0, p, 0, []⟩]) (h0 : (L.getD 0 default).text = mText k) : treeAll k L size = .ok [mStep k p] := by
  unfold treeAll
  rw [h]
  have hb : badS k L ⟨2, -1, 0, p, 0, []⟩ = false := by
    unfold badS tokOf
    show (decide _ && (symZ k (L.getD 0 default).text).2 == -1) = false
    rw [h0]
    have := m_there hk
    unfold mSym at this
    rw [this]; simp
  rw [treeR_none (by rw [ht, List.find?_cons, hb]; rfl), ht]
  show Except.ok [nameS k L ⟨2, -1, 0, p, 0, []⟩] = _
  congr 2
  unfold nameS tokOf
  show (if (2 : Int) = 2 then (⟨2, (symZ k (L.getD 0 default).text).1, (symZ k (L.getD 0 default).text).2, p, 0, []⟩ : Stp) else _) = _
  rw [if_pos rfl, h0]
  rfl

/-- A sign, and a number, at a place. -/
def numToks (p : Nat) (S D : List UInt8) (v : Nat) : List Tok := S.map (fun c => (⟨3, p, [c], 0⟩ : Tok)) ++ [⟨2, p + S.length, D, (v : Int)⟩]
def pwr (S : List UInt8) (v : Nat) : Int := if S = [45] then 0 - (v : Int) else (v : Int)
def redOf (S : List UInt8) (v i : Nat) (r : Red) : Prop := if v ≤ 99 then ∃ s, r = .done s ∧ s.tree = [⟨2, -1, 0, pwr S v, 0, []⟩] else r = .bad 14 (i + S.length)
set_option maxHeartbeats 1000000 in
theorem read_less (M D S : List UInt8) (v : Nat) (hS : isSg S) : redOf S v 1 (readAll false (⟨1, 0, M, 0⟩ :: numToks 1 S D v)) := by
  unfold redOf
  by_cases hv : v ≤ 99
  · have hi : (v : Int) ≤ 99 := by omega
    have h0 : (0 : Int) ≤ (v : Int) := by omega
    rw [if_pos hv]
    rcases hS with rfl | rfl | rfl <;> simp [numToks, pwr, readAll, readG, firstG, rowOf, askG, inverseG, symbolG, signG, powerG, numberG, leftG, notedG, operatorG, rightG, endG, raiseG, isK, startR, openS, zeroR, putS, closeS, waitS, mayS, powS, hi, h0]
  · have hi : ¬ (v : Int) ≤ 99 := by omega
    rw [if_neg hv]
    rcases hS with rfl | rfl | rfl <;> simp [numToks, pwr, readAll, readG, firstG, rowOf, askG, inverseG, symbolG, signG, powerG, numberG, leftG, notedG, operatorG, rightG, endG, raiseG, isK, startR, openS, zeroR, putS, closeS, waitS, mayS, powS, hi]
set_option maxHeartbeats 1000000 in
theorem read_with (M D S : List UInt8) (v : Nat) (hS : isSg S) : redOf S v 2 (readAll true (⟨1, 0, M, 0⟩ :: ⟨6, 1, [94], 0⟩ :: numToks 2 S D v)) := by
  unfold redOf
  by_cases hv : v ≤ 99
  · have hi : (v : Int) ≤ 99 := by omega
    have h0 : (0 : Int) ≤ (v : Int) := by omega
    rw [if_pos hv]
    rcases hS with rfl | rfl | rfl <;> simp [numToks, pwr, readAll, readG, firstG, rowOf, askG, inverseG, symbolG, signG, powerG, numberG, leftG, notedG, operatorG, rightG, endG, raiseG, isK, startR, openS, zeroR, putS, closeS, waitS, mayS, powS, hi, h0]
  · have hi : ¬ (v : Int) ≤ 99 := by omega
    rw [if_neg hv]
    rcases hS with rfl | rfl | rfl <;> simp [numToks, pwr, readAll, readG, firstG, rowOf, askG, inverseG, symbolG, signG, powerG, numberG, leftG, notedG, operatorG, rightG, endG, raiseG, isK, startR, openS, zeroR, putS, closeS, waitS, mayS, powS, hi]
set_option maxHeartbeats 1000000 in
theorem read_no_pow (M D S : List UInt8) (v : Nat) (hS : isSg S) : readAll true (⟨1, 0, M, 0⟩ :: numToks 1 S D v) = .bad 14 1 := by
  rcases hS with rfl | rfl | rfl <;> simp [numToks, pwr, readAll, readG, firstG, rowOf, askG, inverseG, symbolG, signG, powerG, numberG, leftG, notedG, operatorG, rightG, endG, raiseG, isK, startR, openS, zeroR, putS, closeS, waitS, mayS, powS]
theorem read_bare (M : List UInt8) : readAll false [⟨1, 0, M, 0⟩, ⟨0, 1, [], 0⟩] = .bad 14 1 := by
  simp [readAll, readG, firstG, rowOf, askG, inverseG, symbolG, signG, powerG, numberG, leftG, notedG, operatorG, rightG, endG, raiseG, isK, startR, openS, zeroR, putS, closeS, waitS, mayS, powS]
theorem read_alone (pow : Bool) (M : List UInt8) : ∃ s, readAll pow [⟨1, 0, M, 0⟩] = .done s ∧ s.tree = [⟨2, -1, 0, 1, 0, []⟩] := by
  cases pow <;> simp [readAll, readG, firstG, rowOf, askG, inverseG, symbolG, signG, powerG, numberG, leftG, notedG, operatorG, rightG, endG, raiseG, isK, startR, openS, zeroR, putS, closeS, waitS, mayS, powS]

/-! ### The law's texts -/

def withT (S D : List UInt8) : List UInt8 := 109 :: 94 :: (S ++ D)
def lessT (S D : List UInt8) : List UInt8 := 109 :: (S ++ D)
def atZ (k : Nat) : Nat := if powN k = true then 2 else 1

theorem sg_len {S : List UInt8} (p : Nat) : (sgToks p S).map Prod.fst = S.map (fun c => (⟨3, p, [c], 0⟩ : Tok)) := by
  unfold sgToks; rw [List.map_map]; rfl
theorem toks_less {k : Nat} (hk : k < 5) {S D : List UInt8} (hS : isSg S) (h0 : D ≠ []) (hD : ∀ c ∈ D, kd ((k : Int) + 1) c = 2) (hv : val 0 D ≤ 9223372036854775807) :
    pToks ((k : Int) + 1) (lessT S D) = ⟨1, 0, mText k, 0⟩ :: numToks 1 S D (val 0 D) := by
  have hl := lex_less hk hS h0 hD hv
  have he : endOf ((k : Int) + 1) (lessT S D) = 1 + S.length + D.length := by
    unfold endOf lessT
    rw [hl, ← List.cons_append, endL_app]
  unfold pToks
  rw [if_neg (by rw [he]; unfold lessT; simp only [List.length_cons, List.length_append]; omega), List.append_nil]
  unfold lessT
  rw [hl, List.map_cons, List.map_append, sg_len]
  rfl
theorem toks_with {k : Nat} (hk : k < 5) (hp : powN k = true) {S D : List UInt8} (hS : isSg S) (h0 : D ≠ []) (hD : ∀ c ∈ D, kd ((k : Int) + 1) c = 2) (hv : val 0 D ≤ 9223372036854775807) :
    pToks ((k : Int) + 1) (withT S D) = ⟨1, 0, mText k, 0⟩ :: ⟨6, 1, [94], 0⟩ :: numToks 2 S D (val 0 D) := by
  have hl := lex_with hk hp hS h0 hD hv
  have he : endOf ((k : Int) + 1) (withT S D) = 2 + S.length + D.length := by
    unfold endOf withT
    rw [hl, ← List.cons_append, ← List.cons_append, endL_app]
  unfold pToks
  rw [if_neg (by rw [he]; unfold withT; simp only [List.length_cons, List.length_append]; omega), List.append_nil]
  unfold withT
  rw [hl, List.map_cons, List.map_cons, List.map_append, sg_len]
  rfl
theorem toks_bare {k : Nat} (hk : k < 5) (hp : powN k = false) (S D : List UInt8) : pToks ((k : Int) + 1) (withT S D) = [⟨1, 0, mText k, 0⟩, ⟨0, 1, [], 0⟩] := by
  have hl := lex_bare hk hp (S ++ D)
  have he : endOf ((k : Int) + 1) (withT S D) = 1 := by
    unfold endOf withT
    rw [hl]; rfl
  unfold pToks
  rw [if_pos (by rw [he]; unfold withT; simp only [List.length_cons, List.length_append]; omega), he]
  unfold withT
  rw [hl]; rfl
theorem toks_alone {k : Nat} (hk : k < 5) : pToks ((k : Int) + 1) [109] = [⟨1, 0, mText k, 0⟩] := by
  have hl := lex_alone hk
  have he : endOf ((k : Int) + 1) [109] = 1 := by
    unfold endOf
    rw [hl]; rfl
  unfold pToks
  rw [if_neg (by rw [he]; simp), List.append_nil, hl]; rfl

theorem alone_end {k : Nat} (hk : k < 5) (size : Int) : treeAll k (pToks ((k : Int) + 1) [109]) size = .ok [mStep k 1] := by
  rw [toks_alone hk]
  obtain ⟨s, h1, h2⟩ := read_alone (powN k) (mText k)
  exact tree_one hk h1 h2 rfl
def wrongT (k : Nat) (S D : List UInt8) : List UInt8 := if powN k = true then lessT S D else withT S D
def rightT (k : Nat) (S D : List UInt8) : List UInt8 := if powN k = true then withT S D else lessT S D
theorem wrong_end {k : Nat} (hk : k < 5) {S D : List UInt8} (hS : isSg S) (h0 : D ≠ []) (hD : ∀ c ∈ D, kd ((k : Int) + 1) c = 2) (hv : val 0 D ≤ 9223372036854775807) (size : Int) :
    treeAll k (pToks ((k : Int) + 1) (wrongT k S D)) size = .error (14, 1, 0) := by
  unfold wrongT treeAll
  by_cases hp : powN k = true
  · rw [if_pos hp, toks_less hk hS h0 hD hv, hp, read_no_pow _ _ _ _ hS]
    rcases hS with rfl | rfl | rfl <;> rfl
  · rw [Bool.not_eq_true] at hp
    rw [if_neg (by rw [hp]; simp), toks_bare hk hp, hp, read_bare]
    rfl
theorem right_end {k : Nat} (hk : k < 5) {S D : List UInt8} (hS : isSg S) (h0 : D ≠ []) (hD : ∀ c ∈ D, kd ((k : Int) + 1) c = 2) (hv : val 0 D ≤ 9223372036854775807) (size : Int) :
    treeAll k (pToks ((k : Int) + 1) (rightT k S D)) size = if val 0 D ≤ 99 then .ok [mStep k (pwr S (val 0 D))] else .error (14, ((atZ k + S.length : Nat) : Int), 0) := by
  unfold rightT atZ
  by_cases hp : powN k = true
  · rw [if_pos hp, if_pos hp, toks_with hk hp hS h0 hD hv]
    have h := read_with (mText k) D S (val 0 D) hS
    unfold redOf at h
    by_cases h9 : val 0 D ≤ 99
    · rw [if_pos h9] at h ⊢
      obtain ⟨s, h1, h2⟩ := h
      rw [← hp] at h1
      exact tree_one hk h1 h2 rfl
    · rw [if_neg h9] at h ⊢
      unfold treeAll
      rw [hp, h]
      rcases hS with rfl | rfl | rfl <;> rfl
  · rw [Bool.not_eq_true] at hp
    have hp' : ¬ powN k = true := by rw [hp]; simp
    rw [if_neg hp', if_neg hp', toks_less hk hS h0 hD hv]
    have h := read_less (mText k) D S (val 0 D) hS
    unfold redOf at h
    by_cases h9 : val 0 D ≤ 99
    · rw [if_pos h9] at h ⊢
      obtain ⟨s, h1, h2⟩ := h
      rw [← hp] at h1
      exact tree_one hk h1 h2 rfl
    · rw [if_neg h9] at h ⊢
      unfold treeAll
      rw [hp, h]
      rcases hS with rfl | rfl | rfl <;> rfl

end Go.Proofs.YthofogokpolhdaaGreatDoor.Parses

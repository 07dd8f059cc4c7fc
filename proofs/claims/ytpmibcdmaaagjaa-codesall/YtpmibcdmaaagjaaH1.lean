/-
  Codes as plain data: what is told of a table's codes in a notation, and what is found by it.
-/
import Derived.Test.YtpmibcdmaaagjaaC2
import Derived.Test.YtpmibcdmaaagjaaA8
namespace Go.Proofs.Ytpmibcdmaaagjaa.Atoms
open Go.RowKit Go.Proofs.Ytpmibcdmaaagjaa.Ranges
set_option linter.unusedVariables false
set_option linter.unusedSimpArgs false

def noC : C5 := ⟨[], [], [], [], []⟩
/-- The code at a place in a notation; nothing, if there is none. -/
def codeI (cs : List C5) (n : Int) (i : Nat) : List UInt8 := if 1 ≤ n ∧ n ≤ 5 then (cs.getD i noC).get (n - 1).toNat else []
/-- Those of the first k places that have a code, with it. -/
def tell1 (cs : List C5) (n : Int) (i : Nat) : Option (Nat × List UInt8) := if codeI cs n i = [] then none else some (i, codeI cs n i)
def toldTo (cs : List C5) (n : Int) (k : Nat) : List (Nat × List UInt8) := (List.range k).filterMap (tell1 cs n)
theorem toldTo_zero (cs : List C5) (n : Int) : toldTo cs n 0 = [] := rfl
theorem toldTo_succ (cs : List C5) (n : Int) (k : Nat) : toldTo cs n (k + 1) = toldTo cs n k ++ (tell1 cs n k).toList := by
  unfold toldTo
  rw [List.range_succ, List.filterMap_append]
  congr 1
theorem toldTo_none {cs : List C5} {n : Int} {k : Nat} (h : codeI cs n k = []) : toldTo cs n (k + 1) = toldTo cs n k := by
  rw [toldTo_succ, tell1, if_pos h]; simp
theorem toldTo_some {cs : List C5} {n : Int} {k : Nat} (h : codeI cs n k ≠ []) : toldTo cs n (k + 1) = toldTo cs n k ++ [(k, codeI cs n k)] := by
  rw [toldTo_succ, tell1, if_neg h]; rfl
theorem codeI_out {cs : List C5} {n : Int} (h : ¬(1 ≤ n ∧ n ≤ 5)) (i : Nat) : codeI cs n i = [] := if_neg h
theorem codeI_in {cs : List C5} {n : Int} (h : 1 ≤ n ∧ n ≤ 5) (i : Nat) : codeI cs n i = (cs.getD i noC).get (n - 1).toNat := if_pos h
theorem codeI_far {cs : List C5} {n : Int} {i : Nat} (h : cs.length ≤ i) : codeI cs n i = [] := by
  unfold codeI
  split
  · rw [List.getD_eq_getElem?_getD, List.getElem?_eq_none h]
    show noC.l.getD _ [] = []
    unfold noC C5.l
    match (n - 1).toNat with
    | 0 => rfl
    | 1 => rfl
    | 2 => rfl
    | 3 => rfl
    | 4 => rfl
    | m + 5 => rfl
  · rfl
theorem toldTo_out {cs : List C5} {n : Int} (h : ¬(1 ≤ n ∧ n ≤ 5)) (k : Nat) : toldTo cs n k = [] := by
  induction k with
  | zero => rfl
  | succ k ih => rw [toldTo_none (codeI_out h k), ih]
/-- What is told, all of it. -/
def told (cs : List C5) (n : Int) : List (Nat × List UInt8) := toldTo cs n cs.length

/-- What a round is handed: a place and its code. -/
def encN (x : Nat × List UInt8) : Array Value := #[.int .i64 (x.1 : Int), .string (bs x.2)]
def GuardN (cs : List C5) (n : Int) (pre : List (Nat × List UInt8)) (x : Nat × List UInt8) (_ : World) : Prop := x.1 < cs.length ∧ pre = toldTo cs n x.1 ∧ x.2 = codeI cs n x.1 ∧ x.2 ≠ []
theorem GuardN.next {cs : List C5} {n : Int} {pre : List (Nat × List UInt8)} {x : Nat × List UInt8} {V : World} (h : GuardN cs n pre x V) : pre ++ [x] = toldTo cs n (x.1 + 1) := by
  obtain ⟨k, c⟩ := x
  obtain ⟨h1, h2, h3, h4⟩ := h
  dsimp only at h1 h2 h3 h4 ⊢
  rw [toldTo_some (by rw [← h3]; exact h4), h2, h3]

/-- Rows of k cells, whose first five are codes. -/
def CodesIn (V : World) (b k : Nat) (cs : List C5) : Prop := ∀ i, i < cs.length → ∀ j, j < 5 → V.cell? ⟨b, i * k + j, none⟩ = some (.string (bs ((cs.getD i noC).get j)))
theorem CodesIn.kept {V V' : World} {b k : Nat} {cs : List C5} (h : CodesIn V b k cs) (hb : V'.heap[b]? = V.heap[b]?) : CodesIn V' b k cs := fun i hi j hj => (World.cell?_of_block (a := ⟨b, i * k + j, none⟩) hb).trans (h i hi j hj)

/-! ### What is found -/

/-- The code of a place among what is told. -/
def codeL (l : List (Nat × List UInt8)) (p : Int) : List UInt8 := match l with
  | [] => []
  | x :: r => if (x.1 : Int) = p then x.2 else codeL r p
/-- The place of a code among what is told. -/
def placeL (l : List (Nat × List UInt8)) (c : List UInt8) : Int := match l with
  | [] => -1
  | x :: r => if x.2 = c then (x.1 : Int) else placeL r c

theorem codeL_append (l r : List (Nat × List UInt8)) (p : Int) (h : ∀ x ∈ l, (x.1 : Int) ≠ p) : codeL (l ++ r) p = codeL r p := by
  induction l with
  | nil => rfl
  | cons x l ih =>
    show (if (x.1 : Int) = p then x.2 else codeL (l ++ r) p) = _
    rw [if_neg (h x (by simp)), ih fun y hy => h y (by simp [hy])]
theorem placeL_append (l r : List (Nat × List UInt8)) (c : List UInt8) (h : ∀ x ∈ l, x.2 ≠ c) : placeL (l ++ r) c = placeL r c := by
  induction l with
  | nil => rfl
  | cons x l ih =>
    show (if x.2 = c then (x.1 : Int) else placeL (l ++ r) c) = _
    rw [if_neg (h x (by simp)), ih fun y hy => h y (by simp [hy])]
theorem toldTo_lt {cs : List C5} {n : Int} {k : Nat} {x : Nat × List UInt8} (h : x ∈ toldTo cs n k) : x.1 < k ∧ x.2 = codeI cs n x.1 ∧ x.2 ≠ [] := by
  obtain ⟨i, hi, he⟩ := List.mem_filterMap.1 h
  rw [List.mem_range] at hi
  unfold tell1 at he
  split at he
  · cases he
  · rename_i hn
    injection he with he
    subst he
    exact ⟨hi, rfl, hn⟩
theorem toldTo_mem {cs : List C5} {n : Int} {k i : Nat} (h : i < k) (hc : codeI cs n i ≠ []) : (i, codeI cs n i) ∈ toldTo cs n k :=
  List.mem_filterMap.2 ⟨i, List.mem_range.2 h, by unfold tell1; rw [if_neg hc]⟩
/-- What is told up to a place is the beginning of what is told at all. -/
theorem toldTo_split (cs : List C5) (n : Int) {k m : Nat} (h : k ≤ m) : ∃ r, toldTo cs n m = toldTo cs n k ++ r ∧ ∀ x ∈ r, k ≤ x.1 := by
  induction m with
  | zero => exact ⟨[], by rw [show k = 0 by omega]; simp, by simp⟩
  | succ m ih =>
    by_cases e : k = m + 1
    · exact ⟨[], by rw [e]; simp, by simp⟩
    · obtain ⟨r, hr, hx⟩ := ih (by omega)
      by_cases hc : codeI cs n m = []
      · exact ⟨r, by rw [toldTo_none hc, hr], hx⟩
      · refine ⟨r ++ [(m, codeI cs n m)], by rw [toldTo_some hc, hr, List.append_assoc], fun x hm => ?_⟩
        rcases List.mem_append.1 hm with h1 | h1
        · exact hx x h1
        · have := List.mem_singleton.1 h1
          rw [this]
          show k ≤ m
          omega
/-- The code at any place. -/
def codeAtI (cs : List C5) (n p : Int) : List UInt8 := if 0 ≤ p then codeI cs n p.toNat else []
theorem codeL_told (cs : List C5) (n p : Int) : codeL (told cs n) p = codeAtI cs n p := by
  unfold codeAtI told
  by_cases h0 : 0 ≤ p
  · rw [if_pos h0]
    by_cases hl : p.toNat < cs.length
    · obtain ⟨r, hr, hx⟩ := toldTo_split cs n (show p.toNat + 1 ≤ cs.length by omega)
      rw [hr]
      by_cases hc : codeI cs n p.toNat = []
      · rw [toldTo_none hc, codeL_append _ _ _ (fun x hx => by have := (toldTo_lt hx).1; omega)]
        rw [hc]
        clear hr
        induction r with
        | nil => rfl
        | cons y r ih =>
          show (if (y.1 : Int) = p then y.2 else codeL r p) = []
          rw [if_neg (by have := hx y (by simp); omega), ih fun z hz => hx z (by simp [hz])]
      · rw [toldTo_some hc, List.append_assoc, codeL_append _ _ _ (fun x hx => by have := (toldTo_lt hx).1; omega)]
        show (if ((p.toNat : Nat) : Int) = p then codeI cs n p.toNat else _) = _
        rw [if_pos (by omega)]
    · rw [codeI_far (by omega)]
      have := codeL_append (toldTo cs n cs.length) [] p (fun x hx => by have := (toldTo_lt hx).1; omega)
      rw [List.append_nil] at this
      exact this
  · rw [if_neg h0]
    have := codeL_append (toldTo cs n cs.length) [] p (fun x hx => by omega)
    rw [List.append_nil] at this
    exact this
/-- The place of a code: the first that has it; of nothing, none. -/
def placeI (cs : List C5) (n : Int) (c : List UInt8) : Int := placeL (told cs n) c
theorem placeL_mem {l : List (Nat × List UInt8)} {c : List UInt8} : (placeL l c = -1 ∧ ∀ x ∈ l, x.2 ≠ c) ∨ ∃ x ∈ l, x.2 = c ∧ placeL l c = (x.1 : Int) := by
  induction l with
  | nil => exact .inl ⟨rfl, by simp⟩
  | cons y r ih =>
    by_cases h : y.2 = c
    · exact .inr ⟨y, by simp, h, by show (if y.2 = c then (y.1 : Int) else _) = _; rw [if_pos h]⟩
    · have e : placeL (y :: r) c = placeL r c := by show (if y.2 = c then (y.1 : Int) else _) = _; rw [if_neg h]
      rcases ih with ⟨h1, h2⟩ | ⟨x, hx, h1, h2⟩
      · exact .inl ⟨e.trans h1, fun x hx => by rcases List.mem_cons.1 hx with rfl | hx; exact h; exact h2 x hx⟩
      · exact .inr ⟨x, by simp [hx], h1, e.trans h2⟩
/-- What is found is told. -/
theorem place_code {cs : List C5} {n : Int} {c : List UInt8} (h : 0 ≤ placeI cs n c) : codeAtI cs n (placeI cs n c) = c ∧ c ≠ [] ∧ placeI cs n c < cs.length := by
  rcases placeL_mem (l := told cs n) (c := c) with ⟨h1, _⟩ | ⟨x, hx, h1, h2⟩
  · unfold placeI at h; omega
  · obtain ⟨a, b, d⟩ := toldTo_lt hx
    unfold placeI
    rw [h2]
    refine ⟨?_, by rw [← h1]; exact d, by omega⟩
    unfold codeAtI
    rw [if_pos (by omega), Int.toNat_natCast, ← b, h1]
theorem place_none {cs : List C5} {n : Int} {c : List UInt8} (h : placeI cs n c < 0) : placeI cs n c = -1 := by
  rcases placeL_mem (l := told cs n) (c := c) with ⟨h1, _⟩ | ⟨x, hx, h1, h2⟩
  · exact h1
  · unfold placeI at h ⊢; omega
/-- What is told is found, if no other place has it. -/
theorem code_place {cs : List C5} {n : Int} {i : Nat} (hi : i < cs.length) (hc : codeI cs n i ≠ []) (hu : ∀ j, j < cs.length → codeI cs n j = codeI cs n i → j = i) : placeI cs n (codeI cs n i) = (i : Int) := by
  rcases placeL_mem (l := told cs n) (c := codeI cs n i) with ⟨h1, h2⟩ | ⟨x, hx, h1, h2⟩
  · exact absurd rfl (h2 _ (toldTo_mem hi hc))
  · obtain ⟨a, b, d⟩ := toldTo_lt hx
    unfold placeI
    rw [h2, hu x.1 a (by rw [← b, h1])]
theorem place_empty (cs : List C5) (n : Int) : placeI cs n [] = -1 := by
  rcases placeL_mem (l := told cs n) (c := []) with ⟨h1, h2⟩ | ⟨x, hx, h1, h2⟩
  · exact h1
  · exact absurd h1 (toldTo_lt hx).2.2

end Go.Proofs.Ytpmibcdmaaagjaa.Atoms

/-
  Plain mathematics of dims: seven powers; their text; what a text is taken for: a text that was told of right dims is taken for them. No program in this text.
-/
import Derived.Test.YtndinbefljajcaaGreatDoorTM
import Derived.Lib.ItoaLen
namespace Go.Proofs.YtndinbefljajcaaGreatDoor.Dims
open Go.Lib
open Go.Proofs.YtndinbefljajcaaGreatDoor.Texts
set_option linter.unusedVariables false
set_option linter.unusedSimpArgs false

/-- Seven powers. -/
structure D7 where
  a0 : Int
  a1 : Int
  a2 : Int
  a3 : Int
  a4 : Int
  a5 : Int
  a6 : Int

def D7.get (a : D7) : Nat → Int
  | 0 => a.a0
  | 1 => a.a1
  | 2 => a.a2
  | 3 => a.a3
  | 4 => a.a4
  | 5 => a.a5
  | 6 => a.a6
  | _ => 0

/-- Dims, place by place. -/
def dOf (f : Nat → Int) : D7 := ⟨f 0, f 1, f 2, f 3, f 4, f 5, f 6⟩
def dZero : D7 := ⟨0, 0, 0, 0, 0, 0, 0⟩

theorem seven {p : Nat → Prop} (h0 : p 0) (h1 : p 1) (h2 : p 2) (h3 : p 3) (h4 : p 4) (h5 : p 5) (h6 : p 6) : ∀ i, i < 7 → p i := by
  intro i hi
  match i, hi with
  | 0, _ => exact h0
  | 1, _ => exact h1
  | 2, _ => exact h2
  | 3, _ => exact h3
  | 4, _ => exact h4
  | 5, _ => exact h5
  | 6, _ => exact h6

theorem d_ext {a b : D7} (h : ∀ i, i < 7 → a.get i = b.get i) : a = b := by
  cases a; cases b
  have h0 := h 0 (by omega)
  have h1 := h 1 (by omega)
  have h2 := h 2 (by omega)
  have h3 := h 3 (by omega)
  have h4 := h 4 (by omega)
  have h5 := h 5 (by omega)
  have h6 := h 6 (by omega)
  simp only [D7.get] at h0 h1 h2 h3 h4 h5 h6
  subst h0 h1 h2 h3 h4 h5 h6
  rfl

theorem get_of (f : Nat → Int) : ∀ i, i < 7 → (dOf f).get i = f i := seven rfl rfl rfl rfl rfl rfl rfl
theorem of_get (a : D7) : dOf a.get = a := rfl
theorem of_congr {f g : Nat → Int} (h : ∀ i, i < 7 → f i = g i) : dOf f = dOf g := d_ext (fun i hi => by rw [get_of f i hi, get_of g i hi]; exact h i hi)

/-- Each power is an int. -/
def Fine (a : D7) : Prop := ∀ i, i < 7 → -9223372036854775808 ≤ a.get i ∧ a.get i ≤ 9223372036854775807
/-- Each power is from -99 to 99. -/
def Right (a : D7) : Prop := ∀ i, i < 7 → -99 ≤ a.get i ∧ a.get i ≤ 99
theorem Right.fine {a : D7} (h : Right a) : Fine a := fun i hi => by have := h i hi; omega
theorem zero_get (i : Nat) : dZero.get i = 0 := by
  match i with
  | 0 => rfl
  | 1 => rfl
  | 2 => rfl
  | 3 => rfl
  | 4 => rfl
  | 5 => rfl
  | 6 => rfl
  | _ + 7 => rfl
theorem zero_right : Right dZero := fun i hi => by rw [zero_get]; omega

/-- The number within the limits that x is nearest to. -/
def within (x l : Int) : Int := max (-l) (min x l)
theorem within_in {x l : Int} (h0 : -l ≤ x) (h1 : x ≤ l) : within x l = x := by unfold within; omega
theorem within_le (x l : Int) (h : 0 ≤ l) : -l ≤ within x l ∧ within x l ≤ l := by unfold within; omega
theorem right_iff (a : D7) : a = dOf (fun i => within (a.get i) 99) ↔ Right a := by
  constructor
  · intro h i hi
    have := get_of (fun i => within (a.get i) 99) i hi
    rw [← h] at this
    have hl := within_le (a.get i) 99 (by omega)
    omega
  · intro h
    refine d_ext fun i hi => ?_
    rw [get_of _ i hi]
    exact (within_in (h i hi).1 (h i hi).2).symm

open Classical in
/-- Are they right? -/
noncomputable def rightB (a : D7) : Bool := decide (Right a)
theorem rightB_iff (a : D7) : rightB a = true ↔ Right a := by unfold rightB; simp
theorem rightB_of {a : D7} (h : Right a) : rightB a = true := (rightB_iff a).2 h
theorem rightB_no {a : D7} (h : ¬ Right a) : rightB a = false := by
  cases hb : rightB a with
  | false => rfl
  | true => exact absurd ((rightB_iff a).1 hb) h

open Classical in
/-- Put together, power by power: the dims, if all three are right. -/
noncomputable def reckonG (a b : D7) (put : Int → Int → Int) : D7 × Bool :=
  if Right a ∧ Right b ∧ Right (dOf (fun i => put (a.get i) (b.get i))) then (dOf (fun i => put (a.get i) (b.get i)), true) else (dZero, false)
noncomputable def addG (a b : D7) : D7 × Bool := reckonG a b (fun x y => x + y)
noncomputable def subG (a b : D7) : D7 × Bool := reckonG a b (fun x y => x - y)
noncomputable def timesG (a : D7) (n : Int) : D7 × Bool := reckonG a a (fun x _ => x * within n 100)

/-! ### The text -/

def letter : Nat → UInt8
  | 0 => 109
  | 1 => 115
  | 2 => 103
  | 3 => 114
  | 4 => 107
  | 5 => 99
  | 6 => 100
  | _ => 0

def item (i : Nat) (x : Int) : List UInt8 := letter i :: itoa x
def itemO (i : Nat) (x : Int) : List UInt8 := if x = 0 then [] else item i x
/-- The text of the powers from place k on. -/
def tailL (a : D7) : Nat → List UInt8
  | 0 => itemO 0 a.a0 ++ (itemO 1 a.a1 ++ (itemO 2 a.a2 ++ (itemO 3 a.a3 ++ (itemO 4 a.a4 ++ (itemO 5 a.a5 ++ itemO 6 a.a6)))))
  | 1 => itemO 1 a.a1 ++ (itemO 2 a.a2 ++ (itemO 3 a.a3 ++ (itemO 4 a.a4 ++ (itemO 5 a.a5 ++ itemO 6 a.a6))))
  | 2 => itemO 2 a.a2 ++ (itemO 3 a.a3 ++ (itemO 4 a.a4 ++ (itemO 5 a.a5 ++ itemO 6 a.a6)))
  | 3 => itemO 3 a.a3 ++ (itemO 4 a.a4 ++ (itemO 5 a.a5 ++ itemO 6 a.a6))
  | 4 => itemO 4 a.a4 ++ (itemO 5 a.a5 ++ itemO 6 a.a6)
  | 5 => itemO 5 a.a5 ++ itemO 6 a.a6
  | 6 => itemO 6 a.a6
  | _ => []

theorem tail_step (a : D7) : ∀ k, k < 7 → tailL a k = itemO k (a.get k) ++ tailL a (k + 1) :=
  seven rfl rfl rfl rfl rfl rfl (by simp [tailL, D7.get])

def textL (a : D7) : List UInt8 := tailL a 0
open Classical in
/-- What Text tells. -/
noncomputable def textD (a : D7) : List UInt8 := if Right a then textL a else []

/-- The places of the powers that are not 0. -/
def places (a : D7) : List (Fin 7) := [0, 1, 2, 3, 4, 5, 6].filter (fun i => a.get i.val != 0)
def itemsL (a : D7) (l : List (Fin 7)) : List UInt8 := l.flatMap (fun i => item i.val (a.get i.val))

theorem items_filter (a : D7) : ∀ l : List (Fin 7), itemsL a (l.filter (fun i => a.get i.val != 0)) = l.flatMap (fun i => itemO i.val (a.get i.val))
  | [] => rfl
  | i :: l => by
    have ih := items_filter a l
    unfold itemsL at ih ⊢
    by_cases h : a.get i.val = 0
    · simp [List.filter_cons, h, itemO, ih]
    · simp [List.filter_cons, h, itemO, ih]

theorem items_places (a : D7) : itemsL a (places a) = textL a := by
  unfold places
  rw [items_filter]
  simp only [List.flatMap_cons, List.flatMap_nil, List.append_nil]
  rfl

theorem places_len (a : D7) : (places a).length ≤ 7 := by
  unfold places
  exact List.length_filter_le _ _

/-! ### What the program takes a text for -/

def nums : List UInt8 := [45, 48, 49, 50, 51, 52, 53, 54, 55, 56, 57]
def isNum (c : UInt8) : Bool := nums.contains c

/-- One place: the power, and what is left of the text. -/
def stepG (i : Nat) (r : List UInt8) : Int × List UInt8 := match r with
  | [] => (0, [])
  | c :: b => if c = letter i then (numA (b.takeWhile isNum), b.dropWhile isNum) else (0, c :: b)
def restG (s : List UInt8) : Nat → List UInt8
  | 0 => s
  | k + 1 => (stepG k (restG s k)).2
def powG (s : List UInt8) (k : Nat) : Int := (stepG k (restG s k)).1
/-- What the program takes a text for. -/
def candG (s : List UInt8) : D7 := dOf (powG s)
open Classical in
/-- What Read answers. -/
noncomputable def readG (s : List UInt8) : D7 × Bool := if textD (candG s) = s then (candG s, true) else (dZero, false)

theorem isNum_dig {c : UInt8} (h : isDig c) : isNum c = true := by
  unfold isDig at h
  have hc : c = 48 ∨ c = 49 ∨ c = 50 ∨ c = 51 ∨ c = 52 ∨ c = 53 ∨ c = 54 ∨ c = 55 ∨ c = 56 ∨ c = 57 := by
    simp only [← UInt8.toNat_inj]
    simp only [UInt8.reduceToNat]
    omega
  rcases hc with h | h | h | h | h | h | h | h | h | h <;> subst h <;> decide

theorem itoa_num (v : Int) : ∀ c ∈ itoa v, isNum c = true := by
  intro c hc
  rcases itoa_mem v c hc with h | h
  · subst h; decide
  · exact isNum_dig h

theorem take_num (l r : List UInt8) (hl : ∀ c ∈ l, isNum c = true) (hr : ∀ c, r.head? = some c → isNum c = false) : (l ++ r).takeWhile isNum = l ∧ (l ++ r).dropWhile isNum = r := by
  induction l with
  | nil =>
    cases r with
    | nil => simp
    | cons c r => have := hr c rfl; simp [List.takeWhile_cons, List.dropWhile_cons, this]
  | cons c l ih =>
    have hc := hl c (by simp)
    have := ih (fun c h => hl c (by simp [h]))
    simp [List.takeWhile_cons, List.dropWhile_cons, hc, this]

theorem letter_num : ∀ i, i < 7 → isNum (letter i) = false := seven (by decide) (by decide) (by decide) (by decide) (by decide) (by decide) (by decide)

theorem letter_ne : ∀ i, i < 7 → ∀ j, j < 7 → i ≠ j → letter i ≠ letter j := by
  refine seven ?_ ?_ ?_ ?_ ?_ ?_ ?_ <;> refine seven ?_ ?_ ?_ ?_ ?_ ?_ ?_ <;> simp [letter]

/-- What comes from place k on begins with a letter of such a place, if with anything. -/
theorem tail_head (a : D7) : ∀ n k, k + n = 7 → ∀ c, (tailL a k).head? = some c → ∃ j, k ≤ j ∧ j < 7 ∧ c = letter j
  | 0, k, hk, c, h => by
    have : k = 7 := by omega
    subst this
    simp [tailL] at h
  | n + 1, k, hk, c, h => by
    rw [tail_step a k (by omega)] at h
    by_cases hz : a.get k = 0
    · rw [hz] at h
      simp only [itemO, if_true, List.nil_append] at h
      obtain ⟨j, h1, h2, h3⟩ := tail_head a n (k + 1) (by omega) c h
      exact ⟨j, by omega, h2, h3⟩
    · simp only [itemO, if_neg hz, item, List.cons_append, List.head?_cons, Option.some.injEq] at h
      exact ⟨k, by omega, by omega, h.symm⟩

theorem step_tail (a : D7) (hf : Fine a) (k : Nat) (hk : k < 7) : stepG k (tailL a k) = (a.get k, tailL a (k + 1)) := by
  have hh := tail_head a (6 - k) (k + 1) (by omega)
  have hn : ∀ c, (tailL a (k + 1)).head? = some c → isNum c = false := by
    intro c h
    obtain ⟨j, h1, h2, h3⟩ := hh c h
    rw [h3]; exact letter_num j h2
  rw [tail_step a k hk]
  by_cases hz : a.get k = 0
  · rw [hz]
    simp only [itemO, if_true, List.nil_append]
    cases h : tailL a (k + 1) with
    | nil => rfl
    | cons c r =>
      obtain ⟨j, h1, h2, h3⟩ := hh c (by rw [h]; rfl)
      simp only [stepG]
      rw [if_neg]
      rw [h3]
      exact letter_ne j h2 k hk (by omega)
  · obtain ⟨ht, hd⟩ := take_num (itoa (a.get k)) (tailL a (k + 1)) (itoa_num _) hn
    simp only [itemO, if_neg hz, item, List.cons_append, stepG, if_true]
    rw [ht, hd, numA_itoa _ (hf k hk).1 (hf k hk).2]

theorem rest_tail (a : D7) (hf : Fine a) : ∀ k, k ≤ 7 → restG (textL a) k = tailL a k
  | 0, _ => rfl
  | k + 1, h => by
    simp only [restG]
    rw [rest_tail a hf k (by omega), step_tail a hf k (by omega)]

theorem cand_text (a : D7) (hf : Fine a) : candG (textL a) = a := by
  refine d_ext fun i hi => ?_
  unfold candG
  rw [get_of _ i hi]
  unfold powG
  rw [rest_tail a hf i (by omega), step_tail a hf i hi]

theorem text_right {a : D7} (h : Right a) : textD a = textL a := by unfold textD; rw [if_pos h]
theorem text_wrong {a : D7} (h : ¬ Right a) : textD a = [] := by unfold textD; rw [if_neg h]

/-- What is told of right dims is read to them. -/
theorem read_text (a : D7) (h : Right a) : readG (textL a) = (a, true) := by
  unfold readG
  rw [cand_text a h.fine, text_right h, if_pos rfl]

theorem stepG_nil (i : Nat) : stepG i [] = (0, []) := rfl
theorem restG_nil : ∀ k, restG [] k = []
  | 0 => rfl
  | k + 1 => by simp only [restG]; rw [restG_nil k]; rfl
theorem cand_nil : candG [] = dZero := by
  refine d_ext fun i hi => ?_
  unfold candG
  rw [get_of _ i hi, zero_get]
  unfold powG
  rw [restG_nil]; rfl
theorem text_zero : textL dZero = [] := rfl
theorem read_nil : readG [] = (dZero, true) := by
  unfold readG
  rw [cand_nil, text_right zero_right, text_zero, if_pos rfl]

/-- What Read tells is right, and its text is what was read. -/
theorem read_yes (s : List UInt8) (h : (readG s).2 = true) : Right (readG s).1 ∧ textL (readG s).1 = s := by
  unfold readG at h ⊢
  by_cases ht : textD (candG s) = s
  · rw [if_pos ht] at h ⊢
    by_cases hr : Right (candG s)
    · exact ⟨hr, by rw [← text_right hr]; exact ht⟩
    · rw [text_wrong hr] at ht
      subst ht
      rw [cand_nil] at hr ⊢
      exact absurd zero_right hr
  · rw [if_neg ht] at h; simp at h

theorem read_no (s : List UInt8) (h : (readG s).2 = false) : (readG s).1 = dZero := by
  unfold readG at h ⊢
  by_cases ht : textD (candG s) = s
  · rw [if_pos ht] at h; simp at h
  · rw [if_neg ht]

theorem item_len (i : Nat) (x : Int) (h0 : -9223372036854775808 ≤ x) (h1 : x ≤ 9223372036854775807) : (item i x).length ≤ 22 := by
  have := itoa_length_le x h0 h1
  unfold item; simp only [List.length_cons]; omega
theorem itemO_len (i : Nat) (x : Int) (h0 : -9223372036854775808 ≤ x) (h1 : x ≤ 9223372036854775807) : (itemO i x).length ≤ 22 := by
  unfold itemO; split
  · simp
  · exact item_len i x h0 h1
theorem text_len (a : D7) (h : Fine a) : (textL a).length ≤ 154 := by
  have l0 := itemO_len 0 _ (h 0 (by omega)).1 (h 0 (by omega)).2
  have l1 := itemO_len 1 _ (h 1 (by omega)).1 (h 1 (by omega)).2
  have l2 := itemO_len 2 _ (h 2 (by omega)).1 (h 2 (by omega)).2
  have l3 := itemO_len 3 _ (h 3 (by omega)).1 (h 3 (by omega)).2
  have l4 := itemO_len 4 _ (h 4 (by omega)).1 (h 4 (by omega)).2
  have l5 := itemO_len 5 _ (h 5 (by omega)).1 (h 5 (by omega)).2
  have l6 := itemO_len 6 _ (h 6 (by omega)).1 (h 6 (by omega)).2
  simp only [D7.get] at l0 l1 l2 l3 l4 l5 l6
  simp only [textL, tailL, List.length_append]
  omega

theorem reckon_yes {a b : D7} {put : Int → Int → Int} (ra : Right a) (rb : Right b) (ro : Right (dOf (fun i => put (a.get i) (b.get i)))) : reckonG a b put = (dOf (fun i => put (a.get i) (b.get i)), true) := by
  unfold reckonG; rw [if_pos ⟨ra, rb, ro⟩]
theorem reckon_no {a b : D7} {put : Int → Int → Int} (h : ¬ (Right a ∧ Right b ∧ Right (dOf (fun i => put (a.get i) (b.get i))))) : reckonG a b put = (dZero, false) := by
  unfold reckonG; rw [if_neg h]

theorem mul_upto {x y m k : Int} (hx : -m ≤ x ∧ x ≤ m) (hy : -k ≤ y ∧ y ≤ k) (hm : 0 ≤ m) : -(m * k) ≤ x * y ∧ x * y ≤ m * k := by
  have h1 : x.natAbs ≤ m.natAbs := by omega
  have h2 : y.natAbs ≤ k.natAbs := by omega
  have h3 := Nat.mul_le_mul h1 h2
  rw [← Int.natAbs_mul, ← Int.natAbs_mul] at h3
  have hk : 0 ≤ m * k := Int.mul_nonneg hm (by omega)
  omega

end Go.Proofs.YtndinbefljajcaaGreatDoor.Dims

/-
  Plain mathematics: a frac's text, and what is read of a text: a text that was told is read to what it was told of. No program in this text.
-/
import Derived.Lib.ItoaNum
import Derived.Lib.ItoaMem
import Derived.Lib.ParseIntB
import Derived.Lib.IndexMore
namespace Go.Proofs.YthofogokpolhdaaGreatDoor.Texts
open Go.Lib
set_option linter.unusedVariables false
set_option linter.unusedSimpArgs false

/-! ### Digits -/

def isDig (c : UInt8) : Prop := 48 ≤ c.toNat ∧ c.toNat ≤ 57
instance (c : UInt8) : Decidable (isDig c) := by unfold isDig; exact inferInstance

/-- What a row of digits spells, behind acc. -/
def val (acc : Nat) (l : List UInt8) : Nat := l.foldl (fun a c => a * 10 + (c.toNat - 48)) acc
theorem val_nil (acc : Nat) : val acc [] = acc := by unfold val; rw [List.foldl_nil]
theorem val_cons (acc : Nat) (c : UInt8) (r : List UInt8) : val acc (c :: r) = val (acc * 10 + (c.toNat - 48)) r := by unfold val; rw [List.foldl_cons]
attribute [irreducible] val

theorem val_le : ∀ (l : List UInt8) (acc : Nat), acc ≤ val acc l
  | [], acc => by simp only [val_nil]; exact Nat.le_refl _
  | c :: r, acc => by
    have := val_le r (acc * 10 + (c.toNat - 48))
    simp only [val_cons]
    generalize val (acc * 10 + (c.toNat - 48)) r = V at *
    generalize c.toNat = k at *
    omega

theorem val_app : ∀ (a b : List UInt8) (acc : Nat), val acc (a ++ b) = val (val acc a) b
  | [], b, acc => by simp only [val_nil, List.nil_append]
  | c :: r, b, acc => by simp only [List.cons_append, val_cons]; exact val_app r b _

theorem digOf (d : Nat) (h : d < 10) : (UInt8.ofNat (48 + d)).toNat = 48 + d := by
  rw [UInt8.toNat_ofNat']
  exact Nat.mod_eq_of_lt (by omega)

theorem dec_all (u : Nat) : ∀ c ∈ decDigits u, isDig c := by
  induction u using Nat.strongRecOn with
  | _ u ih =>
    intro c hc
    rw [decDigits] at hc
    split at hc
    · simp only [List.mem_singleton] at hc
      subst hc; unfold isDig; rw [digOf _ (by omega)]; omega
    · rcases List.mem_append.1 hc with h | h
      · exact ih (u / 10) (by omega) c h
      · simp only [List.mem_singleton] at h
        subst h; unfold isDig; rw [digOf _ (by omega)]; omega

theorem dec_ne (u : Nat) : decDigits u ≠ [] := by
  rw [decDigits]; split <;> simp

theorem val_dec (u : Nat) : val 0 (decDigits u) = u := by
  induction u using Nat.strongRecOn with
  | _ u ih =>
    rw [decDigits]
    split
    · simp only [val_cons, val_nil]; rw [digOf _ (by omega)]; omega
    · rw [val_app, ih (u / 10) (by omega)]
      simp only [val_cons, val_nil]; rw [digOf _ (by omega)]; omega

/-! ### What is read of digits by the library -/

theorem clear_of {acc k M : Nat} (h : acc * 10 + k ≤ M) (hM : M ≤ 18446744073709551615) : ¬ 1844674407370955162 ≤ acc := by omega

theorem parseM_dig (M : Nat) (hM : M ≤ 18446744073709551615) : ∀ (l : List UInt8) (acc : Nat), (∀ c ∈ l, isDig c) → val acc l ≤ M → parseUintM M acc l = .ok (val acc l)
  | [], acc, _, _ => by simp only [val_nil, parseUintM]
  | c :: r, acc, hd, h => by
    have hc : isDig c := hd c (by simp)
    have hl := val_le r (acc * 10 + (c.toNat - 48))
    simp only [val_cons] at h ⊢
    simp only [parseUintM]
    have h1 : acc * 10 + (c.toNat - 48) ≤ M := Nat.le_trans hl h
    rw [if_pos (by exact hc), if_neg (clear_of h1 hM), if_neg (Nat.not_lt.2 h1)]
    exact parseM_dig M hM r _ (fun c h => hd c (by simp [h])) h

theorem parse10_dig : ∀ (l : List UInt8) (acc : Nat), (∀ c ∈ l, isDig c) → val acc l ≤ 18446744073709551615 → parseUint10 acc l = .ok (val acc l)
  | [], acc, _, _ => by simp only [val_nil, parseUint10]
  | c :: r, acc, hd, h => by
    have hc : isDig c := hd c (by simp)
    have hl := val_le r (acc * 10 + (c.toNat - 48))
    simp only [val_cons] at h ⊢
    simp only [parseUint10]
    have h1 : acc * 10 + (c.toNat - 48) ≤ 18446744073709551615 := Nat.le_trans hl h
    rw [if_pos (by exact hc), if_neg (clear_of h1 (Nat.le_refl _)), if_neg (Nat.not_le.2 (Nat.lt_succ_of_le h1))]
    exact parse10_dig r _ (fun c h => hd c (by simp [h])) h

theorem dec_head (u : Nat) : ∃ c r, decDigits u = c :: r ∧ isDig c := by
  cases h : decDigits u with
  | nil => exact absurd h (dec_ne u)
  | cons c r => exact ⟨c, r, rfl, dec_all u c (by rw [h]; simp)⟩

theorem parse_itoa (v : Int) (h0 : -9223372036854775808 ≤ v) (h1 : v ≤ 9223372036854775807) : parseIntB 64 (itoa v) = .ok v := by
  by_cases hn : v < 0
  · have hu : parseUintB 64 (decDigits v.natAbs) = .ok v.natAbs := by
      unfold parseUintB
      rw [if_neg (dec_ne _), parseM_dig _ (by decide) _ _ (dec_all _) (by rw [val_dec]; omega), val_dec]
    unfold itoa
    rw [if_pos hn]
    simp only [parseIntB]
    rw [if_pos (by decide), hu]
    simp only
    rw [if_neg (fun h => h.1 (by decide)), if_neg (by omega), if_pos (by decide)]
    congr 1; omega
  · obtain ⟨c, r, hcr, hc⟩ := dec_head v.toNat
    have hu : parseUintB 64 (decDigits v.toNat) = .ok v.toNat := by
      unfold parseUintB
      rw [if_neg (dec_ne _), parseM_dig _ (by decide) _ _ (dec_all _) (by rw [val_dec]; omega), val_dec]
    unfold isDig at hc
    unfold itoa
    rw [if_neg hn]
    rw [hcr] at hu ⊢
    simp only [parseIntB]
    rw [if_neg (by omega), hu]
    simp only
    rw [if_neg (by omega), if_neg (by omega), if_neg (by omega)]
    congr 1; omega

theorem atoi_itoa (v : Int) (h0 : -9223372036854775808 ≤ v) (h1 : v ≤ 9223372036854775807) : atoiAll (itoa v) = .ok v := by
  by_cases hn : v < 0
  · have hu : parseMag (decDigits v.natAbs) = .ok v.natAbs := by
      unfold parseMag
      rw [if_neg (dec_ne _), parse10_dig _ _ (dec_all _) (by rw [val_dec]; omega), val_dec]
    unfold itoa
    rw [if_pos hn]
    simp only [atoiAll]
    rw [if_pos (by decide), hu]
    simp only
    rw [if_neg (fun h => h.1 (by decide)), if_neg (by omega), if_pos (by decide)]
    congr 1; omega
  · obtain ⟨c, r, hcr, hc⟩ := dec_head v.toNat
    have hu : parseMag (decDigits v.toNat) = .ok v.toNat := by
      unfold parseMag
      rw [if_neg (dec_ne _), parse10_dig _ _ (dec_all _) (by rw [val_dec]; omega), val_dec]
    unfold isDig at hc
    unfold itoa
    rw [if_neg hn]
    rw [hcr] at hu ⊢
    simp only [atoiAll]
    rw [if_neg (by omega), hu]
    simp only
    rw [if_neg (by omega), if_neg (by omega), if_neg (by omega)]
    congr 1; omega

/-! ### Cutting at a byte -/

def cutB (s : List UInt8) (c : UInt8) : List UInt8 × List UInt8 × Bool :=
  if 0 ≤ indexByte s c then (s.take (indexByte s c).toNat, s.drop ((indexByte s c).toNat + 1), true) else (s, [], false)

theorem ib_none : ∀ (s : List UInt8) (c : UInt8), (∀ x ∈ s, x ≠ c) → indexByte s c = -1
  | [], c, _ => rfl
  | b :: l, c, h => by
    have hb : (b == c) = false := by rw [beq_eq_false_iff_ne]; exact h b (by simp)
    simp [indexByte, hb, ib_none l c (fun x hx => h x (by simp [hx]))]

theorem ib_at : ∀ (a b : List UInt8) (c : UInt8), (∀ x ∈ a, x ≠ c) → indexByte (a ++ c :: b) c = a.length
  | [], b, c, _ => by simp [indexByte]
  | x :: l, b, c, h => by
    have hb : (x == c) = false := by rw [beq_eq_false_iff_ne]; exact h x (by simp)
    have hi := ib_at l b c (fun x hx => h x (by simp [hx]))
    have hn : ((l.length : Int) == -1) = false := by rw [beq_eq_false_iff_ne]; omega
    simp only [List.cons_append, indexByte, hb, hi, hn, List.length_cons]
    simp

theorem ib_range : ∀ (s : List UInt8) (c : UInt8), -1 ≤ indexByte s c ∧ indexByte s c < s.length
  | [], c => by simp [indexByte]
  | b :: l, c => by
    have hi := ib_range l c
    simp only [indexByte, List.length_cons]
    split
    · omega
    · split
      · omega
      · rename_i h1 h2
        simp only [beq_iff_eq] at h2
        omega

theorem cut_none (s : List UInt8) (c : UInt8) (h : ∀ x ∈ s, x ≠ c) : cutB s c = (s, [], false) := by
  unfold cutB; rw [ib_none s c h]; rfl

theorem cut_at (a b : List UInt8) (c : UInt8) (h : ∀ x ∈ a, x ≠ c) : cutB (a ++ c :: b) c = (a, b, true) := by
  unfold cutB
  rw [ib_at a b c h, if_pos (by omega)]
  simp

/-! ### The text, and what the program takes it for -/

/-- The text of a right frac. -/
def textL (n d t : Int) : List UInt8 := itoa n ++ ((if d = 1 then [] else 47 :: itoa d) ++ (if t = 0 then [] else 101 :: itoa t))

def numI (l : List UInt8) : Int := match parseIntB 64 l with
  | .ok v => v
  | .range => intSat 64 l
  | _ => 0
def numA (l : List UInt8) : Int := match atoiAll l with
  | .ok v => v
  | .range => atoiSat l
  | _ => 0

theorem numI_zero (l : List UInt8) (h : (∀ v, parseIntB 64 l ≠ .ok v) ∧ parseIntB 64 l ≠ .range) : numI l = 0 := by
  unfold numI
  cases e : parseIntB 64 l with
  | ok v => exact absurd e (h.1 v)
  | range => exact absurd e h.2
  | _ => rfl
theorem numA_zero (l : List UInt8) (h : (∀ v, atoiAll l ≠ .ok v) ∧ atoiAll l ≠ .range) : numA l = 0 := by
  unfold numA
  cases e : atoiAll l with
  | ok v => exact absurd e (h.1 v)
  | range => exact absurd e h.2
  | _ => rfl

def quoL (s : List UInt8) : List UInt8 := (cutB s 101).1
def tenL (s : List UInt8) : List UInt8 := if (cutB s 101).2.2 then (cutB s 101).2.1 else [48]
def numL (q : List UInt8) : List UInt8 := (cutB q 47).1
def denL (q : List UInt8) : List UInt8 := if (cutB q 47).2.2 then (cutB q 47).2.1 else [49]
/-- What the program takes a text for. -/
def cand (s : List UInt8) : Int × Int × Int := (numI (numL (quoL s)), numI (denL (quoL s)), numA (tenL s))

theorem itoa_mem (v : Int) : ∀ c ∈ itoa v, c = 45 ∨ isDig c := by
  intro c hc
  unfold itoa at hc
  split at hc
  · rcases List.mem_cons.1 hc with h | h
    · exact Or.inl h
    · exact Or.inr (dec_all _ c h)
  · exact Or.inr (dec_all _ c hc)

theorem itoa_ne (v : Int) (x : UInt8) (hx : x ≠ 45) (hd : ¬ isDig x) : ∀ c ∈ itoa v, c ≠ x := by
  intro c hc he
  subst he
  rcases itoa_mem v c hc with h | h
  · exact hx h
  · exact hd h

theorem itoa_some (v : Int) : itoa v ≠ [] := by
  unfold itoa
  split
  · simp
  · exact dec_ne _

theorem numI_itoa (v : Int) (h0 : -9223372036854775808 ≤ v) (h1 : v ≤ 9223372036854775807) : numI (itoa v) = v := by
  unfold numI; rw [parse_itoa v h0 h1]
theorem numA_itoa (v : Int) (h0 : -9223372036854775808 ≤ v) (h1 : v ≤ 9223372036854775807) : numA (itoa v) = v := by
  unfold numA; rw [atoi_itoa v h0 h1]

theorem itoa_zero : itoa 0 = [48] := by
  unfold itoa; rw [if_neg (by omega)]; exact decDigits_one (by decide)
theorem itoa_one : itoa 1 = [49] := by
  unfold itoa; rw [if_neg (by omega)]; exact decDigits_one (by decide)

def i64 (v : Int) : Prop := -9223372036854775808 ≤ v ∧ v ≤ 9223372036854775807

theorem cand_text (n d t : Int) (hn : i64 n) (hd : i64 d) (ht : i64 t) : cand (textL n d t) = (n, d, t) := by
  have e45 : (101 : UInt8) ≠ 45 := by decide
  have e46 : (47 : UInt8) ≠ 45 := by decide
  have d45 : ¬ isDig 101 := by decide
  have d46 : ¬ isDig 47 := by decide
  have hq : ∀ c ∈ itoa n ++ (if d = 1 then [] else 47 :: itoa d), c ≠ 101 := by
    intro c hc
    rcases List.mem_append.1 hc with h | h
    · exact itoa_ne n 101 e45 d45 c h
    · split at h
      · simp at h
      · rcases List.mem_cons.1 h with h | h
        · rw [h]; decide
        · exact itoa_ne d 101 e45 d45 c h
  have h1 : quoL (textL n d t) = itoa n ++ (if d = 1 then [] else 47 :: itoa d) ∧ tenL (textL n d t) = itoa t := by
    unfold quoL tenL textL
    rw [← List.append_assoc]
    by_cases h0 : t = 0
    · rw [if_pos h0, List.append_nil, cut_none _ _ hq, h0, itoa_zero]; exact ⟨rfl, rfl⟩
    · rw [if_neg h0, cut_at _ _ _ hq]; exact ⟨rfl, rfl⟩
  have h2 : numL (itoa n ++ (if d = 1 then [] else 47 :: itoa d)) = itoa n ∧ denL (itoa n ++ (if d = 1 then [] else 47 :: itoa d)) = itoa d := by
    unfold numL denL
    by_cases h0 : d = 1
    · rw [if_pos h0, List.append_nil, cut_none _ _ (itoa_ne n 47 e46 d46), h0, itoa_one]; exact ⟨rfl, rfl⟩
    · rw [if_neg h0, cut_at _ _ _ (itoa_ne n 47 e46 d46)]; exact ⟨rfl, rfl⟩
  unfold cand
  rw [h1.1, h1.2, h2.1, h2.2, numI_itoa n hn.1 hn.2, numI_itoa d hd.1 hd.2, numA_itoa t ht.1 ht.2]

theorem text_ne (n d t : Int) : textL n d t ≠ [] := by
  unfold textL
  intro h
  exact itoa_some n (List.append_eq_nil_iff.1 h).1

/-! ### What the document's reader takes it for -/

/-- Digits from the head on: what they spell, and the rest; none: too great. -/
def digRun : Nat → List UInt8 → Option (Nat × List UInt8)
  | acc, [] => some (acc, [])
  | acc, c :: r => if isDig c then (if 9223372036854775807 < acc * 10 + (c.toNat - 48) then none else digRun (acc * 10 + (c.toNat - 48)) r) else some (acc, c :: r)

theorem digRun_dig : ∀ (l r : List UInt8) (acc : Nat), (∀ c ∈ l, isDig c) → val acc l ≤ 9223372036854775807 → (∀ c, r.head? = some c → ¬ isDig c) → digRun acc (l ++ r) = some (val acc l, r)
  | [], r, acc, _, _, hr => by
    cases r with
    | nil => simp only [List.nil_append, digRun, val_nil]
    | cons c r => simp only [List.nil_append, digRun, val_nil]; rw [if_neg (hr c rfl)]
  | c :: l, r, acc, hd, h, hr => by
    have hl := val_le l (acc * 10 + (c.toNat - 48))
    simp only [val_cons] at h ⊢
    simp only [List.cons_append, digRun]
    rw [if_pos (hd c (by simp)), if_neg (Nat.not_lt.2 (Nat.le_trans hl h))]
    exact digRun_dig l r _ (fun c h => hd c (by simp [h])) h hr

/-- A number, with its sign, from the head on. -/
def unsign (l : List UInt8) : Int × List UInt8 := match l with
  | [] => (1, [])
  | c :: r => if c = 45 then (-1, r) else (1, c :: r)
def readL (l : List UInt8) : Option (Int × List UInt8) :=
  match digRun 0 (unsign l).2 with
  | none => none
  | some (n, r) => if r.length = (unsign l).2.length then none else some ((unsign l).1 * n, r)

theorem readL_itoa (v : Int) (r : List UInt8) (h0 : -9223372036854775807 ≤ v) (h1 : v ≤ 9223372036854775807) (hr : ∀ c, r.head? = some c → ¬ isDig c) : readL (itoa v ++ r) = some (v, r) := by
  by_cases hn : v < 0
  · have hl : (decDigits v.natAbs).length ≠ 0 := by
      intro h; exact dec_ne _ (List.eq_nil_of_length_eq_zero h)
    unfold itoa
    rw [if_pos hn]
    simp only [readL, unsign, List.cons_append, if_pos]
    rw [digRun_dig _ _ _ (dec_all _) (by rw [val_dec]; omega) hr, val_dec]
    simp only [List.length_append]
    rw [if_neg (by omega)]
    congr 2; omega
  · obtain ⟨c, q, hcr, hc⟩ := dec_head v.toNat
    have hl : (decDigits v.toNat).length ≠ 0 := by
      intro h; exact dec_ne _ (List.eq_nil_of_length_eq_zero h)
    have hc45 : c ≠ 45 := by
      intro h; subst h; revert hc; decide
    have hs : unsign (decDigits v.toNat ++ r) = (1, decDigits v.toNat ++ r) := by
      rw [hcr]; simp only [List.cons_append, unsign]; rw [if_neg hc45]
    unfold itoa
    rw [if_neg hn]
    simp only [readL, hs]
    rw [digRun_dig _ _ _ (dec_all _) (by rw [val_dec]; omega) hr, val_dec]
    simp only [List.length_append]
    rw [if_neg (by omega)]
    congr 2; omega

/-- A number, and where the text goes on (nowhere: none). -/
structure At where
  n : Int
  r : Option (List UInt8)
def readA (l : List UInt8) : At := match readL l with
  | none => ⟨0, none⟩
  | some (n, r) => ⟨n, some r⟩
/-- A number more, behind a byte. -/
def stepA (c : UInt8) (x : At) (old : Int) : Int × At := match x.r with
  | some (b :: r) => if b = c then ((readA r).n, readA r) else (old, x)
  | _ => (old, x)

structure Cand where
  n : Int
  d : Int
  t : Int
  r : Option (List UInt8)
/-- What the document's reader takes a text for. -/
def candR (s : List UInt8) : Cand :=
  let x := readA s
  let y := stepA 47 x 1
  let z := stepA 101 y.2 0
  ⟨x.n, y.1, z.1, z.2.r⟩

theorem candR_text (n d t : Int) (hn : -9223372036854775807 ≤ n ∧ n ≤ 9223372036854775807) (hd : -9223372036854775807 ≤ d ∧ d ≤ 9223372036854775807) (ht : -9223372036854775807 ≤ t ∧ t ≤ 9223372036854775807) : candR (textL n d t) = ⟨n, d, t, some []⟩ := by
  have hT : ∀ c, (if t = 0 then ([] : List UInt8) else 101 :: itoa t).head? = some c → ¬ isDig c := by
    intro c h
    split at h
    · simp at h
    · simp only [List.head?_cons, Option.some.injEq] at h; subst h; decide
  have hD : ∀ c, ((if d = 1 then ([] : List UInt8) else 47 :: itoa d) ++ (if t = 0 then ([] : List UInt8) else 101 :: itoa t)).head? = some c → ¬ isDig c := by
    intro c h
    split at h
    · simp only [List.nil_append] at h; exact hT c h
    · simp only [List.cons_append, List.head?_cons, Option.some.injEq] at h; subst h; decide
  have hE : ∀ c, ([] : List UInt8).head? = some c → ¬ isDig c := by intro c h; simp at h
  have a1 : readA (textL n d t) = ⟨n, some ((if d = 1 then ([] : List UInt8) else 47 :: itoa d) ++ (if t = 0 then ([] : List UInt8) else 101 :: itoa t))⟩ := by
    unfold readA textL; rw [readL_itoa n _ hn.1 hn.2 hD]
  have a2 : stepA 47 ⟨n, some ((if d = 1 then ([] : List UInt8) else 47 :: itoa d) ++ (if t = 0 then ([] : List UInt8) else 101 :: itoa t))⟩ 1 = (d, ⟨if d = 1 then n else d, some (if t = 0 then ([] : List UInt8) else 101 :: itoa t)⟩) := by
    by_cases h0 : d = 1
    · simp only [if_pos h0, List.nil_append]
      by_cases h1 : t = 0
      · simp only [if_pos h1, stepA, h0]
      · simp only [if_neg h1, stepA]; rw [if_neg (by decide), h0]
    · simp only [if_neg h0, List.cons_append, stepA]
      rw [if_pos trivial]; unfold readA; rw [readL_itoa d _ hd.1 hd.2 hT]
  have a3 : ∀ m, stepA 101 ⟨m, some (if t = 0 then ([] : List UInt8) else 101 :: itoa t)⟩ 0 = (t, ⟨if t = 0 then m else t, some []⟩) := by
    intro m
    by_cases h1 : t = 0
    · simp only [if_pos h1, stepA]; rw [h1]
    · simp only [if_neg h1, stepA]
      rw [if_pos trivial]; unfold readA
      have := readL_itoa t [] ht.1 ht.2 hE
      rw [List.append_nil] at this
      rw [this]
  unfold candR
  simp only [a1, a2, a3]

end Go.Proofs.YthofogokpolhdaaGreatDoor.Texts

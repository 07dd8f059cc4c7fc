/-
  Plain mathematics: both checks of a table answer alike. Contracts of drachmref05.letter, code. Contract of drachmref05.codes. Contract of drachmref05.worth. Contract of drachmref05.Check.
-/
import Derived.Test.YtpmibcdmaaagjaaDoorA5
import Derived.Test.YtpmibcdmaaagjaaDoorA9
import Derived.BigQuiet
import Derived.Deep.QuietTactic
import Derived.Test.YtpmibcdmaaagjaaDoorGA
import Derived.Test.YtpmibcdmaaagjaaDoorC6
import Derived.Test.YtpmibcdmaaagjaaDoorC9
namespace Go.Proofs.YtpmibcdmaaagjaaDoor.Atoms
set_option linter.unusedVariables false
set_option linter.unusedSimpArgs false

def nil5 : C5 := ⟨[], [], [], [], []⟩
/-- A code of a notation, or nothing: the document's. -/
def codeR (n : Int) (s : List UInt8) : Bool := decide (s.length ≤ 8) && lettersB n s
/-- No one ahead has it. -/
def freeR (ahead : List C5) (k : Nat) (s : List UInt8) : Bool := ahead.all fun a => s.isEmpty || !(a.get k == s)
def codesR (l : C5) (ahead : List C5) : Bool := !l.c0.isEmpty && (List.range 5).all fun k => codeR ((k : Int) + 1) (l.get k) && freeR ahead k (l.get k)
def wrongAR (rows : List Row) : Nat → Nat → List C5 → Int
  | 0, _, _ => -1
  | m + 1, i, ahead => if codesR (rows.getD i default).c5 ahead && rowB rows i then wrongAR rows m (i + 1) (ahead ++ [(rows.getD i default).c5]) else i
def wrongPR (ps : List Pre) : Nat → Nat → List C5 → Int
  | 0, _, _ => -1
  | m + 1, i, ahead => if codesR (ps.getD i default).c5 ahead && decide (-30 ≤ (ps.getD i default).ten ∧ (ps.getD i default).ten ≤ 30) then wrongPR ps m (i + 1) (ahead ++ [(ps.getD i default).c5]) else i
def checkR (rows : List Row) (ps : List Pre) : Int :=
  if 100 < rows.length ∨ 30 < ps.length then (rows.length + ps.length : Nat)
  else if wrongAR rows rows.length 0 [] ≠ -1 then wrongAR rows rows.length 0 []
  else if wrongPR ps ps.length 0 [] ≠ -1 then (rows.length : Int) + wrongPR ps ps.length 0 []
  else -1

/-! ### Keys tell codes -/

theorem letter_nz {n : Int} {c : UInt8} (h : letterZ n (c.toNat : Int) = true) : c ≠ 0 := by
  intro e
  subst e
  simp [letterZ] at h
theorem getD_nz {n : Int} {s : List UInt8} (h : lettersB n s = true) {i : Nat} (hi : i < s.length) : s.getD i 0 ≠ 0 := by
  rw [List.getD_eq_getElem?_getD, List.getElem?_eq_getElem hi]
  exact letter_nz (List.all_eq_true.1 h _ (List.getElem_mem hi))
theorem at0_inj {s t : List UInt8} {i : Nat} (h : at0 s i = at0 t i) : s.getD i 0 = t.getD i 0 := by
  unfold at0 at h
  exact UInt8.toNat_inj.1 (by omega)
theorem key_inj {n m : Int} {s t : List UInt8} (hs : codeR n s = true) (ht : codeR m t = true) (h : keyOf n s = keyOf m t) : n = m ∧ s = t := by
  unfold codeR at hs ht
  rw [Bool.and_eq_true, decide_eq_true_eq] at hs ht
  obtain ⟨s8, sl⟩ := hs
  obtain ⟨t8, tl⟩ := ht
  unfold keyOf at h
  injection h with h0 h
  injection h with h1 h
  injection h with h2 h
  injection h with h3 h
  injection h with h4 h
  injection h with h5 h
  injection h with h6 h
  injection h with h7 h
  injection h with h8 h
  refine ⟨h0, ?_⟩
  have hall : ∀ i, s.getD i 0 = t.getD i 0 := by
    intro i
    by_cases h : i < 8
    · match i, h with
      | 0, _ => exact at0_inj h1
      | 1, _ => exact at0_inj h2
      | 2, _ => exact at0_inj h3
      | 3, _ => exact at0_inj h4
      | 4, _ => exact at0_inj h5
      | 5, _ => exact at0_inj h6
      | 6, _ => exact at0_inj h7
      | 7, _ => exact at0_inj h8
    · rw [List.getD_eq_getElem?_getD, List.getD_eq_getElem?_getD, List.getElem?_eq_none (by omega), List.getElem?_eq_none (by omega)]
  have hlen : s.length = t.length := by
    rcases Nat.lt_trichotomy s.length t.length with h | h | h
    · have e := hall s.length
      rw [List.getD_eq_getElem?_getD, List.getElem?_eq_none (Nat.le_refl _)] at e
      exact absurd e.symm (getD_nz tl h)
    · exact h
    · have e := hall t.length
      rw [List.getD_eq_getElem?_getD (l := t), List.getElem?_eq_none (Nat.le_refl _)] at e
      exact absurd e (getD_nz sl h)
  refine List.ext_getElem hlen fun i h1 h2 => ?_
  have e := hall i
  rw [List.getD_eq_getElem?_getD, List.getD_eq_getElem?_getD, List.getElem?_eq_getElem h1, List.getElem?_eq_getElem h2] at e
  exact e

/-! ### One row more -/

def okAt (K : List (List Int)) (n : Int) (s : List UInt8) : Prop := s = [] ∨ (codeB n s = true ∧ keyOf n s ∉ K)
theorem okAt_other {K : List (List Int)} {n m : Int} {s t : List UInt8} (h : n ≠ m) : okAt (K ++ [keyOf m t]) n s ↔ okAt K n s := by
  unfold okAt
  have : keyOf n s ∉ K ++ [keyOf m t] ↔ keyOf n s ∉ K := by
    rw [List.mem_append, List.mem_singleton]
    have hne : keyOf n s ≠ keyOf m t := fun e => by unfold keyOf at e; injection e with e0; exact h e0
    simp [hne]
  rw [this]
theorem addFrom_some : ∀ (r : List (List UInt8)) (n : Int) (K K' : List (List Int)), addFrom K n r = some K' → (∀ j, j < r.length → okAt K (n + (j : Int)) (r.getD j [])) ∧ (∀ key, key ∈ K' ↔ key ∈ K ∨ ∃ j, j < r.length ∧ r.getD j [] ≠ [] ∧ key = keyOf (n + (j : Int)) (r.getD j [])) := by
  intro r
  induction r with
  | nil =>
    intro n K K' h
    injection h with h
    subst h
    exact ⟨fun j hj => absurd hj (by simp), fun key => ⟨.inl, fun h => by rcases h with h | ⟨j, hj, _⟩; exact h; exact absurd hj (by simp)⟩⟩
  | cons s r ih =>
    intro n K K' h
    unfold addFrom at h
    by_cases hs : s = []
    · rw [if_pos hs] at h
      obtain ⟨h1, h2⟩ := ih (n + 1) K K' h
      refine ⟨fun j hj => ?_, fun key => ?_⟩
      · match j with
        | 0 => exact .inl hs
        | j + 1 =>
          have := h1 j (by simpa using hj)
          rw [show n + ((j + 1 : Nat) : Int) = n + 1 + (j : Int) by omega]
          exact this
      · rw [h2]
        refine ⟨fun h => ?_, fun h => ?_⟩
        · rcases h with h | ⟨j, hj, hne, hk⟩
          · exact .inl h
          · exact .inr ⟨j + 1, by simpa using hj, hne, by rw [show n + ((j + 1 : Nat) : Int) = n + 1 + (j : Int) by omega]; exact hk⟩
        · rcases h with h | ⟨j, hj, hne, hk⟩
          · exact .inl h
          · match j with
            | 0 => exact absurd hs hne
            | j + 1 => exact .inr ⟨j, by simpa using hj, hne, by rw [show n + 1 + (j : Int) = n + ((j + 1 : Nat) : Int) by omega]; exact hk⟩
    · rw [if_neg hs] at h
      by_cases hc : codeB n s = true ∧ keyOf n s ∉ K
      · rw [if_pos hc] at h
        obtain ⟨h1, h2⟩ := ih (n + 1) _ K' h
        refine ⟨fun j hj => ?_, fun key => ?_⟩
        · match j with
          | 0 =>
            show okAt K (n + ((0 : Nat) : Int)) s
            rw [show n + ((0 : Nat) : Int) = n by omega]
            exact .inr hc
          | j + 1 =>
            have := (okAt_other (by omega)).1 (h1 j (by simpa using hj))
            rw [show n + ((j + 1 : Nat) : Int) = n + 1 + (j : Int) by omega]
            exact this
        · rw [h2, List.mem_append, List.mem_singleton]
          refine ⟨fun h => ?_, fun h => ?_⟩
          · rcases h with (h | h) | ⟨j, hj, hne, hk⟩
            · exact .inl h
            · exact .inr ⟨0, by simp, hs, by rw [show n + ((0 : Nat) : Int) = n by omega]; exact h⟩
            · exact .inr ⟨j + 1, by simpa using hj, hne, by rw [show n + ((j + 1 : Nat) : Int) = n + 1 + (j : Int) by omega]; exact hk⟩
          · rcases h with h | ⟨j, hj, hne, hk⟩
            · exact .inl (.inl h)
            · match j with
              | 0 => exact .inl (.inr (by rw [show n + ((0 : Nat) : Int) = n by omega] at hk; exact hk))
              | j + 1 => exact .inr ⟨j, by simpa using hj, hne, by rw [show n + 1 + (j : Int) = n + ((j + 1 : Nat) : Int) by omega]; exact hk⟩
      · rw [if_neg hc] at h
        cases h
theorem addFrom_none : ∀ (r : List (List UInt8)) (n : Int) (K : List (List Int)), addFrom K n r = none → ∃ j, j < r.length ∧ ¬ okAt K (n + (j : Int)) (r.getD j []) := by
  intro r
  induction r with
  | nil => intro n K h; cases h
  | cons s r ih =>
    intro n K h
    unfold addFrom at h
    by_cases hs : s = []
    · rw [if_pos hs] at h
      obtain ⟨j, hj, hn⟩ := ih (n + 1) K h
      exact ⟨j + 1, by simpa using hj, by rw [show n + ((j + 1 : Nat) : Int) = n + 1 + (j : Int) by omega]; exact hn⟩
    · rw [if_neg hs] at h
      by_cases hc : codeB n s = true ∧ keyOf n s ∉ K
      · rw [if_pos hc] at h
        obtain ⟨j, hj, hn⟩ := ih (n + 1) _ h
        refine ⟨j + 1, by simpa using hj, fun hk => hn ((okAt_other (by omega)).2 ?_)⟩
        rw [show n + ((j + 1 : Nat) : Int) = n + 1 + (j : Int) by omega] at hk
        exact hk
      · refine ⟨0, by simp, fun hk => ?_⟩
        rw [show n + ((0 : Nat) : Int) = n by omega] at hk
        rcases hk with hk | hk
        · exact hs hk
        · exact hc hk

/-- The keys are those of the codes ahead. -/
def Tells (K : List (List Int)) (ahead : List C5) : Prop := ∀ (k : Nat) (s : List UInt8), k < 5 → codeB ((k : Int) + 1) s = true → (keyOf ((k : Int) + 1) s ∈ K ↔ ∃ a ∈ ahead, a.get k = s)
theorem codeB_iff {n : Int} {s : List UInt8} (h : s ≠ []) : codeB n s = codeR n s := by
  unfold codeB codeR
  have : 1 ≤ s.length := by
    cases s with
    | nil => exact absurd rfl h
    | cons a t => simp
  rw [decide_eq_true this, Bool.true_and]
theorem codeB_ne {n : Int} {s : List UInt8} (h : codeB n s = true) : s ≠ [] := by
  intro e
  subst e
  simp [codeB] at h
theorem codeR_nil (n : Int) : codeR n [] = true := by simp [codeR, lettersB]
theorem free_iff (ahead : List C5) (k : Nat) {s : List UInt8} (h : s ≠ []) : freeR ahead k s = true ↔ ¬ ∃ a ∈ ahead, a.get k = s := by
  unfold freeR
  rw [List.all_eq_true]
  refine ⟨fun hh ⟨a, ha, e⟩ => ?_, fun hh a ha => ?_⟩
  · have := hh a ha
    rw [e] at this
    cases s with
    | nil => exact h rfl
    | cons x t => simp at this
  · rw [Bool.or_eq_true, Bool.not_eq_true', beq_eq_false_iff_ne]
    exact .inr fun e => hh ⟨a, ha, e⟩
theorem free_nil (ahead : List C5) (k : Nat) : freeR ahead k [] = true := by simp [freeR]
theorem ok_iff {K : List (List Int)} {ahead : List C5} (hT : Tells K ahead) {k : Nat} (hk : k < 5) (s : List UInt8) : okAt K ((k : Int) + 1) s ↔ (codeR ((k : Int) + 1) s && freeR ahead k s) = true := by
  by_cases h : s = []
  · subst h
    rw [codeR_nil, free_nil]
    exact ⟨fun _ => rfl, fun _ => .inl rfl⟩
  · unfold okAt
    rw [Bool.and_eq_true, ← codeB_iff h, free_iff ahead k h]
    refine ⟨fun hh => ?_, fun ⟨h1, h2⟩ => .inr ⟨h1, fun hm => h2 ((hT k s hk h1).1 hm)⟩⟩
    rcases hh with hh | ⟨h1, h2⟩
    · exact absurd hh h
    · exact ⟨h1, fun hm => h2 ((hT k s hk h1).2 hm)⟩
theorem l_getD (l : C5) (j : Nat) : l.l.getD j [] = l.get j := rfl
theorem add_yes {K : List (List Int)} {ahead : List C5} {l : C5} (hT : Tells K ahead) (h : codesR l ahead = true) : ∃ K', addP K l.l = some K' ∧ Tells K' (ahead ++ [l]) := by
  unfold codesR at h
  rw [Bool.and_eq_true] at h
  obtain ⟨h0, h5⟩ := h
  have hall : ∀ k : Nat, k < 5 → (codeR ((k : Int) + 1) (l.get k) && freeR ahead k (l.get k)) = true := fun k hk => List.all_eq_true.1 h5 k (List.mem_range.2 hk)
  have hh : l.l.headD [] ≠ [] := by
    show l.c0 ≠ []
    intro e
    rw [e] at h0
    simp at h0
  unfold addP
  rw [if_neg hh]
  cases hA : addFrom K 1 l.l with
  | none =>
    obtain ⟨j, hj, hn⟩ := addFrom_none l.l 1 K hA
    have hj5 : j < 5 := hj
    refine absurd ?_ hn
    rw [show (1 : Int) + (j : Int) = (j : Int) + 1 by omega, l_getD]
    exact (ok_iff hT hj5 _).2 (hall j hj5)
  | some K' =>
    refine ⟨K', rfl, fun k s hk hs => ?_⟩
    rw [(addFrom_some l.l 1 K K' hA).2]
    have hsne := codeB_ne hs
    refine ⟨fun h => ?_, fun ⟨a, ha, e⟩ => ?_⟩
    · rcases h with h | ⟨j, hj, hne, hkey⟩
      · obtain ⟨a, ha, e⟩ := (hT k s hk hs).1 h
        exact ⟨a, List.mem_append_left _ ha, e⟩
      · have hj5 : j < 5 := hj
        rw [l_getD] at hne hkey
        have hc := hall j hj5
        rw [Bool.and_eq_true] at hc
        rw [show (1 : Int) + (j : Int) = (j : Int) + 1 by omega] at hkey
        obtain ⟨e1, e2⟩ := key_inj (by rw [← codeB_iff hsne]; exact hs) hc.1 hkey
        have : k = j := by omega
        subst this
        exact ⟨l, by simp, e2.symm⟩
    · rcases List.mem_append.1 ha with ha | ha
      · exact .inl ((hT k s hk hs).2 ⟨a, ha, e⟩)
      · have := List.mem_singleton.1 ha
        subst this
        exact .inr ⟨k, hk, by rw [l_getD, e]; exact hsne, by rw [l_getD, e, show (1 : Int) + (k : Int) = (k : Int) + 1 by omega]⟩
theorem add_no {K : List (List Int)} {ahead : List C5} {l : C5} (hT : Tells K ahead) (h : codesR l ahead = false) : addP K l.l = none := by
  unfold addP
  by_cases h0 : l.l.headD [] = []
  · rw [if_pos h0]
  · rw [if_neg h0]
    cases hA : addFrom K 1 l.l with
    | none => rfl
    | some K' =>
      have h1 := (addFrom_some l.l 1 K K' hA).1
      have : codesR l ahead = true := by
        unfold codesR
        rw [Bool.and_eq_true]
        refine ⟨?_, List.all_eq_true.2 fun k hk => ?_⟩
        · have : l.c0 ≠ [] := h0
          cases hc : l.c0 with
          | nil => exact absurd hc this
          | cons a t => rfl
        · have hk5 := List.mem_range.1 hk
          have := h1 k hk5
          rw [show (1 : Int) + (k : Int) = (k : Int) + 1 by omega, l_getD] at this
          exact (ok_iff hT hk5 _).1 this
      rw [h] at this
      cases this

theorem wrongA_eq (rows : List Row) : ∀ (m i : Nat) (K : List (List Int)) (ahead : List C5), Tells K ahead → wrongA rows m i K = wrongAR rows m i ahead := by
  intro m
  induction m with
  | zero => intro i K ahead _; rfl
  | succ m ih =>
    intro i K ahead hT
    show (match addP K (rows.getD i default).codes with | none => (i : Int) | some K' => if rowB rows i then wrongA rows m (i + 1) K' else i) = (if codesR (rows.getD i default).c5 ahead && rowB rows i then wrongAR rows m (i + 1) (ahead ++ [(rows.getD i default).c5]) else i)
    rw [show (rows.getD i default).codes = (rows.getD i default).c5.l from rfl]
    cases hc : codesR (rows.getD i default).c5 ahead with
    | false => rw [add_no hT hc]; rfl
    | true =>
      obtain ⟨K', h1, h2⟩ := add_yes hT hc
      rw [h1, Bool.true_and]
      simp only []
      rw [ih (i + 1) K' _ h2]
theorem wrongP_eq (ps : List Pre) : ∀ (m i : Nat) (K : List (List Int)) (ahead : List C5), Tells K ahead → wrongP ps m i K = wrongPR ps m i ahead := by
  intro m
  induction m with
  | zero => intro i K ahead _; rfl
  | succ m ih =>
    intro i K ahead hT
    show (match addP K (ps.getD i default).codes with | none => (i : Int) | some K' => if -30 ≤ (ps.getD i default).ten ∧ (ps.getD i default).ten ≤ 30 then wrongP ps m (i + 1) K' else i) = (if codesR (ps.getD i default).c5 ahead && decide (-30 ≤ (ps.getD i default).ten ∧ (ps.getD i default).ten ≤ 30) then wrongPR ps m (i + 1) (ahead ++ [(ps.getD i default).c5]) else i)
    rw [show (ps.getD i default).codes = (ps.getD i default).c5.l from rfl]
    cases hc : codesR (ps.getD i default).c5 ahead with
    | false => rw [add_no hT hc]; rfl
    | true =>
      obtain ⟨K', h1, h2⟩ := add_yes hT hc
      rw [h1, Bool.true_and]
      simp only []
      rw [ih (i + 1) K' _ h2]
      simp only [decide_eq_true_eq]
theorem tells_nil : Tells [] [] := fun k s hk hs => ⟨fun h => (by cases h), fun h => (by obtain ⟨a, ha, _⟩ := h; cases ha)⟩
/-- Both checks answer alike. -/
theorem check_same (rows : List Row) (ps : List Pre) : checkT rows ps = checkR rows ps := by
  unfold checkT checkR
  rw [wrongA_eq rows _ _ _ _ tells_nil, wrongP_eq ps _ _ _ _ tells_nil]

end Go.Proofs.YtpmibcdmaaagjaaDoor.Atoms

namespace Go.Proofs.YtpmibcdmaaagjaaDoor.Atoms
open Go.RowKit
set_option linter.unusedVariables false
set_option linter.unusedSimpArgs false

def letterR (b : Int) (small : Bool) : Bool := if 97 ≤ b ∧ b ≤ 122 then small else if 65 ≤ b ∧ b ≤ 90 then true else decide (b = 37 ∨ b = 39 ∨ b = 95 ∨ b = 91 ∨ b = 93)
theorem letterR_is (n b : Int) : letterR b (decide (n ≠ 2 ∧ n ≠ 4)) = letterZ n b := rfl

set_option maxRecDepth 100000 in
set_option maxHeartbeats 1000000 in
theorem rletter_is (b : Int) (sm v : Bool) (w : World) (h0 : 0 ≤ b) (h1 : b ≤ 255)
    (h : (97 ≤ b ∧ b ≤ 122 ∧ v = sm) ∨ (65 ≤ b ∧ b ≤ 90 ∧ v = true)
      ∨ (b = 37 ∧ v = true) ∨ (b = 39 ∧ v = true) ∨ (b = 95 ∧ v = true) ∨ (b = 91 ∧ v = true) ∨ (b = 93 ∧ v = true)
      ∨ (b < 65 ∧ (b == 37) = false ∧ (b == 39) = false ∧ (b == 95) = false ∧ (b == 91) = false ∧ (b == 93) = false ∧ v = false)
      ∨ (90 < b ∧ b < 97 ∧ (b == 37) = false ∧ (b == 39) = false ∧ (b == 95) = false ∧ (b == 91) = false ∧ (b == 93) = false ∧ v = false)
      ∨ (122 < b ∧ (b == 37) = false ∧ (b == 39) = false ∧ (b == 95) = false ∧ (b == 91) = false ∧ (b == 93) = false ∧ v = false)) :
    Calls Tryd.prog 41 #[.int .u8 b, .bool sm] w fun e w' => e = .returned (.bool v) ∧ w = w' := by
  rcases h with ⟨a, c, rfl⟩ | ⟨a, c, rfl⟩ | ⟨rfl, rfl⟩ | ⟨rfl, rfl⟩ | ⟨rfl, rfl⟩ | ⟨rfl, rfl⟩ | ⟨rfl, rfl⟩ | ⟨a, e1, e2, e3, e4, e5, rfl⟩ | ⟨a, c, e1, e2, e3, e4, e5, rfl⟩ | ⟨a, e1, e2, e3, e4, e5, rfl⟩
  all_goals (try have hd90 : decide (b ≤ 90) = false := (by rw [decide_eq_false_iff_not]; omega))
  all_goals (try have hd122 : decide (b ≤ 122) = false := (by rw [decide_eq_false_iff_not]; omega))
  all_goals (go_enter Tryd.func41, Tryd.ntmps41; go_wp2; go_ret; exact ⟨rfl, rfl⟩)

theorem rletter_any (b : Int) (sm : Bool) (w : World) (h0 : 0 ≤ b) (h1 : b ≤ 255) :
    Calls Tryd.prog 41 #[.int .u8 b, .bool sm] w fun e w' => e = .returned (.bool (letterR b sm)) ∧ w = w' := by
  refine rletter_is b sm _ w h0 h1 ?_
  unfold letterR
  by_cases s : 97 ≤ b ∧ b ≤ 122
  · rw [if_pos s]
    exact .inl ⟨s.1, s.2, rfl⟩
  rw [if_neg s]
  by_cases g : 65 ≤ b ∧ b ≤ 90
  · rw [if_pos g]; simp [g]
  rw [if_neg g]
  by_cases h37 : b = 37
  · simp [h37]
  by_cases h39 : b = 39
  · simp [h39]
  by_cases h95 : b = 95
  · simp [h95]
  by_cases h91 : b = 91
  · simp [h91]
  by_cases h93 : b = 93
  · simp [h93]
  simp only [h37, h39, h95, h91, h93]
  simp
  omega

theorem all_take {p : UInt8 → Bool} {s : List UInt8} {j : Nat} (hj : j < s.length) (h : (s.take j).all p = true) : (s.take (j + 1)).all p = p (s.getD j 0) := by
  rw [List.take_succ_eq_append_getElem hj, List.all_append, h, List.getD_eq_getElem?_getD, List.getElem?_eq_getElem hj]
  simp
theorem all_stop' {p : UInt8 → Bool} {s : List UInt8} {j : Nat} (hj : j < s.length) (h : p (s.getD j 0) = false) : s.all p = false := by
  rw [List.all_eq_false]
  refine ⟨s[j], List.getElem_mem hj, ?_⟩
  rw [List.getD_eq_getElem?_getD, List.getElem?_eq_getElem hj] at h
  simpa using h
theorem bs_at (s : List UInt8) (j : Nat) (h : j < (bs s).size) : (bs s)[j] = s.getD j 0 := by
  have h' : j < s.length := by rwa [bs_size] at h
  rw [List.getD_eq_getElem?_getD, List.getElem?_eq_getElem h']
  simp [bs, ByteArray.getElem_eq_getElem_data]

set_option maxRecDepth 100000 in
set_option maxHeartbeats 4000000 in
theorem rcode_any (n : Int) (s : List UInt8) (w : World) (hl : s.length ≤ 9223372036854775807) :
    Calls Tryd.prog 34 #[.int .i64 n, .string (bs s)] w fun e w' => e = .returned (.bool (codeR n s)) ∧ w = w' := by
  have hzi : ((bs s).size : Int) = (s.length : Int) := by rw [bs_size]
  by_cases h8 : 8 < s.length
  · have e : codeR n s = false := by
      unfold codeR
      have : decide (s.length ≤ 8) = false := by simpa using h8
      rw [this]; rfl
    rw [e]
    have h8i : (8 : Int) < s.length := by omega
    clear h8
    go_enter Tryd.func34, Tryd.ntmps34
    go_wp2
    go_ret
    exact ⟨rfl, rfl⟩
  · have h8i : ¬ (8 : Int) < s.length := by omega
    have HC : Hid (codeR n s = s.all fun c => letterZ n (c.toNat : Int)) := by
      show _ = _
      unfold codeR lettersB
      rw [decide_eq_true (by omega : s.length ≤ 8), Bool.true_and]
    have hn3 : (n != 2) = false ∨ ((n != 2) = true ∧ (n != 4) = false) ∨ ((n != 2) = true ∧ (n != 4) = true) := by
      by_cases a : n = 2
      · exact .inl (by simp [a])
      · by_cases b : n = 4
        · exact .inr (.inl ⟨by simpa using a, by simp [b]⟩)
        · exact .inr (.inr ⟨by simpa using a, by simpa using b⟩)
    have HSM : Hid (((n != 2) = false → decide (n ≠ 2 ∧ n ≠ 4) = false) ∧ ((n != 4) = false → decide (n ≠ 2 ∧ n ≠ 4) = false) ∧ ((n != 2) = true → (n != 4) = true → decide (n ≠ 2 ∧ n ≠ 4) = true)) := by
      refine ⟨fun h => ?_, fun h => ?_, fun h1 h2 => ?_⟩
      · have : n = 2 := by simpa using h
        simp [this]
      · have : n = 4 := by simpa using h
        simp [this]
      · have a : n ≠ 2 := by simpa using h1
        have b : n ≠ 4 := by simpa using h2
        simp [a, b]
    clear h8
    go_enter Tryd.func34, Tryd.ntmps34
    go_wp2
    go_loopw [5] (fun x wr => ∃ j : Nat, x = .int .i64 j ∧ j ≤ s.length ∧ Hid ((s.take j).all (fun c => letterZ n (c.toNat : Int)) = true) ∧ w = wr) (fun x _ => (s.length - intOf x).toNat)
    case atStart => exact ⟨0, rfl, by omega, by show _ = _; simp, rfl⟩
    case round =>
      obtain ⟨j, rfl, hj, HJ, rfl⟩ := hrel
      by_cases hjl : j < s.length
      · have hji : (j : Int) < s.length := by omega
        have hjb : j < (bs s).size := by rw [bs_size]; exact hjl
        obtain ⟨c, hc⟩ : ∃ c, s.getD j 0 = c := ⟨_, rfl⟩
        have hcb : (bs s)[j] = c := (bs_at s j hjb).trans hc
        have hb0 : (0 : Int) ≤ (c.toNat : Int) := by omega
        have hb1 : (c.toNat : Int) ≤ 255 := by have := c.toNat_lt; omega
        have HCC := Lib.hid hc
        clear hc
        obtain ⟨v, hv⟩ : ∃ v, letterZ n (c.toNat : Int) = v := ⟨_, rfl⟩
        have HV := Lib.hid hv
        clear hv
        have hlet : ∀ sm, decide (n ≠ 2 ∧ n ≠ 4) = sm → ∀ W, Calls Tryd.prog 41 #[.int .u8 (c.toNat : Int), .bool sm] W fun e w' => e = .returned (.bool v) ∧ W = w' := by
          intro sm hsm W
          have := rletter_any (c.toNat : Int) sm W hb0 hb1
          rw [← hsm, letterR_is, HV.out] at this
          rw [← hsm]
          exact this
        rcases hn3 with h2 | ⟨h2, h4⟩ | ⟨h2, h4⟩
        · have hL := hlet false (HSM.out.1 h2)
          clear hlet
          go_wp2_with fail
          refine (hL _).mono ?_
          rintro e w' ⟨rfl, rfl⟩
          clear hL
          cases v with
          | true =>
            go_wp2
            go_roundw
            case rel => exact ⟨j + 1, rfl, by omega, by show _ = _; rw [all_take hjl HJ.out, HCC.out, HV.out], trivial⟩
            case measure => simp only [intOf]; omega
          | false =>
            have HE : Hid (codeR n s = false) := by
              show _ = _
              rw [HC.out]
              exact all_stop' hjl (by rw [HCC.out]; exact HV.out)
            go_wp2
            go_ret
            exact ⟨by rw [HE.out]; rfl, rfl⟩
        · have hL := hlet false (HSM.out.2.1 h4)
          clear hlet
          go_wp2_with fail
          refine (hL _).mono ?_
          rintro e w' ⟨rfl, rfl⟩
          clear hL
          cases v with
          | true =>
            go_wp2
            go_roundw
            case rel => exact ⟨j + 1, rfl, by omega, by show _ = _; rw [all_take hjl HJ.out, HCC.out, HV.out], trivial⟩
            case measure => simp only [intOf]; omega
          | false =>
            have HE : Hid (codeR n s = false) := by
              show _ = _
              rw [HC.out]
              exact all_stop' hjl (by rw [HCC.out]; exact HV.out)
            go_wp2
            go_ret
            exact ⟨by rw [HE.out]; rfl, rfl⟩
        · have hL := hlet true (HSM.out.2.2 h2 h4)
          clear hlet
          go_wp2_with fail
          refine (hL _).mono ?_
          rintro e w' ⟨rfl, rfl⟩
          clear hL
          cases v with
          | true =>
            go_wp2
            go_roundw
            case rel => exact ⟨j + 1, rfl, by omega, by show _ = _; rw [all_take hjl HJ.out, HCC.out, HV.out], trivial⟩
            case measure => simp only [intOf]; omega
          | false =>
            have HE : Hid (codeR n s = false) := by
              show _ = _
              rw [HC.out]
              exact all_stop' hjl (by rw [HCC.out]; exact HV.out)
            go_wp2
            go_ret
            exact ⟨by rw [HE.out]; rfl, rfl⟩
      · have hje : j = s.length := by omega
        have hji : ¬ (j : Int) < s.length := by omega
        have HE : Hid (codeR n s = true) := by
          show _ = _
          have := HJ.out
          rw [hje, List.take_length] at this
          rw [HC.out, this]
        clear hje
        go_wp2
        go_ret
        exact ⟨by rw [HE.out]; rfl, rfl⟩

end Go.Proofs.YtpmibcdmaaagjaaDoor.Atoms

namespace Go.Proofs.YtpmibcdmaaagjaaDoor.Atoms
open Go.RowKit
set_option linter.unusedVariables false
set_option linter.unusedSimpArgs false

theorem drewN_below {B : Nat} {w X : World} (h : Below B w X) (m : Nat) : Below B w (X.drewN m) := ⟨h.os, h.tape, h.output, h.size, h.block⟩
def cell5 (ahead : List C5) (i j : Nat) : Value := .string (bs ((ahead.getD i nil5).get j))
/-- The slice holds these rows of codes. -/
def AheadAt (w : World) (s : Value) (ahead : List C5) : Prop := SliceAt w s 5 ahead.length (cell5 ahead)
def stepR (l : C5) (ahead : List C5) (k : Nat) : Bool := codeR ((k : Int) + 1) (l.get k) && freeR ahead k (l.get k)
theorem codesR_is {l : C5} {ahead : List C5} (h : l.c0 ≠ []) : codesR l ahead = (List.range 5).all (stepR l ahead) := by
  unfold codesR
  cases hc : l.c0 with
  | nil => exact absurd hc h
  | cons a t => rfl
theorem range_all_succ {p : Nat → Bool} {k : Nat} (h : (List.range k).all p = true) : (List.range (k + 1)).all p = p k := by
  rw [List.range_succ, List.all_append, h]; simp
theorem range_all_stop {p : Nat → Bool} {k n : Nat} (hk : k < n) (h : p k = false) : (List.range n).all p = false := by
  rw [List.all_eq_false]
  exact ⟨k, List.mem_range.2 hk, by simp [h]⟩
theorem ahead_succ {p : C5 → Bool} {ahead : List C5} {i : Nat} (hi : i < ahead.length) (h : (ahead.take i).all p = true) : (ahead.take (i + 1)).all p = p (ahead.getD i nil5) := by
  rw [List.take_succ_eq_append_getElem hi, List.all_append, h, List.getD_eq_getElem?_getD, List.getElem?_eq_getElem hi]
  simp
theorem ahead_stop {p : C5 → Bool} {ahead : List C5} {i : Nat} (hi : i < ahead.length) (h : p (ahead.getD i nil5) = false) : ahead.all p = false := by
  rw [List.all_eq_false]
  refine ⟨ahead[i], List.getElem_mem hi, ?_⟩
  rw [List.getD_eq_getElem?_getD, List.getElem?_eq_getElem hi] at h
  simpa using h

set_option maxRecDepth 100000 in
set_option maxHeartbeats 8000000 in
theorem rcodes_any (l : C5) (ahead : List C5) (sA : Value) (w : World) (hA : AheadAt w sA ahead) (hl : ahead.length ≤ 1000) (hf : l.Fine) :
    Calls Tryd.prog 19 #[.agg #[.string (bs l.c0), .string (bs l.c1), .string (bs l.c2), .string (bs l.c3), .string (bs l.c4)], sA] w fun e w' => e = .returned (.bool (codesR l ahead)) ∧ Below w.heap.size w w' := by
  obtain ⟨o, c, rfl⟩ := SliceAt.slice hA
  have hu : Below w.heap.size w (w.alloc (.cells #[.string (bs l.c0), .string (bs l.c1), .string (bs l.c2), .string (bs l.c3), .string (bs l.c4)] 37)) := by go_grown
  have hb : ∀ k, k < 5 → (w.alloc (.cells #[.string (bs l.c0), .string (bs l.c1), .string (bs l.c2), .string (bs l.c3), .string (bs l.c4)] 37)).cell? ⟨w.heap.size, k, none⟩ = some (.string (bs (l.get k))) := by
    intro k hk
    match k, hk with
    | 0, _ => simp [go_sem]; rfl
    | 1, _ => simp [go_sem]; rfl
    | 2, _ => simp [go_sem]; rfl
    | 3, _ => simp [go_sem]; rfl
    | 4, _ => simp [go_sem]; rfl
  have hA' : AheadAt (w.alloc (.cells #[.string (bs l.c0), .string (bs l.c1), .string (bs l.c2), .string (bs l.c3), .string (bs l.c4)] 37)) (.slice o ahead.length c) ahead := SliceAt.go hA hu
  have x0 := hb 0 (by omega)
  have hg0 : l.get 0 = l.c0 := rfl
  rw [hg0] at x0
  clear hg0
  by_cases h0 : l.c0 = []
  · have e0 : (bs l.c0).toList.isEmpty = true := by rw [h0]; exact bs_none
    have HE : Hid (codesR l ahead = false) := by show _ = _; unfold codesR; rw [h0]; rfl
    clear h0 hA hA' hb
    go_enter Tryd.func19, Tryd.ntmps19
    go_wp2
    go_ret
    exact ⟨by rw [HE.out]; rfl, hu⟩
  · have e0 := bs_some h0
    have HC := Lib.hid (codesR_is (ahead := ahead) h0)
    have HB := Lib.hid hb
    have HA := Lib.hid hA'
    clear h0 hA hA' hb
    go_enter Tryd.func19, Tryd.ntmps19
    go_wp2
    generalize w.alloc (.cells #[.string (bs l.c0), .string (bs l.c1), .string (bs l.c2), .string (bs l.c3), .string (bs l.c4)] 37) = w1 at *
    clear x0
    go_loopw [5] (fun x wr => ∃ k : Nat, x = .int .i64 ((k : Int) + 1) ∧ k ≤ 5 ∧ Hid ((List.range k).all (stepR l ahead) = true) ∧ Below w1.heap.size w1 wr) (fun x _ => (6 - intOf x).toNat)
    case atStart => exact ⟨0, rfl, by omega, by show _ = _; rfl, Below.refl _ _⟩
    case round =>
      obtain ⟨k, rfl, hk, HK, hw⟩ := hrel
      have huw := hu.trans (hw.mono hu.size)
      by_cases hk5 : k < 5
      · have hki : (k : Int) + 1 ≤ 5 := by omega
        have hk4 : (k : Int) < 5 := by omega
        have hk0 : (0 : Int) ≤ (k : Int) := by omega
        have xk := (hw.cell (p := ⟨w.heap.size, k, none⟩) (cell_lt (HB.out k hk5))).trans (HB.out k hk5)
        have hfk := hf k
        obtain ⟨s, hs⟩ : ∃ s, l.get k = s := ⟨_, rfl⟩
        rw [hs] at xk hfk
        have hcd := fun W => rcode_any ((k : Int) + 1) s W hfk
        obtain ⟨v, hv⟩ : ∃ v, codeR ((k : Int) + 1) s = v := ⟨_, rfl⟩
        rw [hv] at hcd
        have HS := Lib.hid hs
        have HV := Lib.hid hv
        clear hs hv hfk
        go_wp2_with fail
        refine (hcd _).mono ?_
        rintro e w' ⟨rfl, rfl⟩
        clear hcd
        cases v with
        | false =>
          have HE : Hid (codesR l ahead = false) := by
            show _ = _
            rw [HC.out]
            refine range_all_stop hk5 ?_
            unfold stepR
            rw [HS.out, HV.out]; rfl
          go_wp2
          go_ret
          exact ⟨by rw [HE.out]; rfl, huw⟩
        | true =>
          go_wp2
          go_loopw [7] (fun x wr => ∃ i : Nat, x = .int .i64 i ∧ i ≤ ahead.length ∧ Hid ((ahead.take i).all (fun a => s.isEmpty || !(a.get k == s)) = true) ∧ Below w1.heap.size w1 wr) (fun x _ => (ahead.length - intOf x).toNat)
          case atStart => exact ⟨0, rfl, by omega, by show _ = _; simp, hw⟩
          case round =>
            clear xk hw huw
            obtain ⟨i, rfl, hi, HI, hw⟩ := hrel
            have huw := hu.trans (hw.mono hu.size)
            have xk := (hw.cell (p := ⟨w.heap.size, k, none⟩) (cell_lt (HB.out k hk5))).trans (HB.out k hk5)
            rw [HS.out] at xk
            by_cases hil : i < ahead.length
            · have hii : (i : Int) < ahead.length := by omega
              have hi0 : (0 : Int) ≤ (i : Int) := by omega
              obtain ⟨b, rfl, hg⟩ : ∃ b, o = some ⟨b, 0, none⟩ ∧ Grid wr b 5 ahead.length (cell5 ahead) := by
                rcases SliceAt.go HA.out hw with ⟨h0, _⟩ | ⟨b', c', he, _, _, hg⟩
                · omega
                · injection he with e1 e2 e3
                  exact ⟨b', e1, hg⟩
              have xa := hg.1 i hil k hk5
              unfold cell5 at xa
              obtain ⟨t, ht⟩ : ∃ t, (ahead.getD i nil5).get k = t := ⟨_, rfl⟩
              rw [ht] at xa
              have HT := Lib.hid ht
              clear ht hg
              by_cases hse : s = []
              · have es : (bs s).toList.isEmpty = true := by rw [hse]; exact bs_none
                have HN : Hid ((ahead.take (i + 1)).all (fun a => s.isEmpty || !(a.get k == s)) = true) := by show _ = _; rw [ahead_succ hil HI.out, hse]; rfl
                clear hse
                go_wp2
                go_quiet (fail)
                go_wp2
                go_roundw
                case rel => exact ⟨i + 1, rfl, by omega, HN, drewN_below hw _⟩
                case measure => simp only [intOf]; omega
              · have es := bs_some hse
                have hsf : s.isEmpty = false := by cases s with | nil => exact absurd rfl hse | cons a t => rfl
                by_cases hts : t = s
                · have et : ((bs t).toList == (bs s).toList) = true := by rw [hts]; simp
                  have HE : Hid (codesR l ahead = false) := by
                    show _ = _
                    rw [HC.out]
                    refine range_all_stop hk5 ?_
                    unfold stepR freeR
                    rw [HS.out, ahead_stop hil (by rw [HT.out, hts, hsf]; simp)]
                    simp
                  clear hts hse hsf
                  go_wp2
                  go_quiet (fail)
                  go_wp2
                  go_ret
                  exact ⟨by rw [HE.out]; rfl, drewN_below huw _⟩
                · have et : ((bs t).toList == (bs s).toList) = false := by rw [bs_toList, bs_toList]; simpa using hts
                  have HN : Hid ((ahead.take (i + 1)).all (fun a => s.isEmpty || !(a.get k == s)) = true) := by
                    show _ = _
                    rw [ahead_succ hil HI.out, HT.out, hsf]
                    simpa using hts
                  clear hts hse hsf
                  go_wp2
                  go_quiet (fail)
                  go_wp2
                  go_roundw
                  case rel => exact ⟨i + 1, rfl, by omega, HN, drewN_below hw _⟩
                  case measure => simp only [intOf]; omega
            · have hie : i = ahead.length := by omega
              have hii : ¬ (i : Int) < ahead.length := by omega
              have HN : Hid ((List.range (k + 1)).all (stepR l ahead) = true) := by
                show _ = _
                have := HI.out
                rw [hie, List.take_length] at this
                rw [range_all_succ HK.out]
                unfold stepR freeR
                rw [HS.out, HV.out, this]; rfl
              clear hie
              go_wp2
              go_roundw
              case rel => exact ⟨k + 1, by simp only [Int.natCast_add, Int.natCast_one], by omega, HN, hw⟩
              case measure => simp only [intOf]; omega
      · have hke : k = 5 := by omega
        have hki : ¬ (k : Int) + 1 ≤ 5 := by omega
        have HE : Hid (codesR l ahead = true) := by
          show _ = _
          have := HK.out
          rw [hke] at this
          rw [HC.out]; exact this
        clear hke
        go_wp2
        go_ret
        exact ⟨by rw [HE.out]; rfl, huw⟩

end Go.Proofs.YtpmibcdmaaagjaaDoor.Atoms

namespace Go.Proofs.YtpmibcdmaaagjaaDoor.Atoms
open Go.RowKit
set_option linter.unusedVariables false
set_option linter.unusedSimpArgs false

/-- The boxes of worth: the table, the atom. -/
structure WoI (w : World) (b c : Nat) (o2 : Option Addr) (n2 c2 : Nat) (rows : List Row) (S : Nat → Value) (r : Row) (s : Value) (V : World) : Prop where
  t0 : V.cell? ⟨w.heap.size, 0, none⟩ = some (.slice (some ⟨b, 0, none⟩) rows.length c)
  box : AtomBox V (w.heap.size + 1) r s
  grid : Grid V b 12 rows.length (cellA rows S)
  terms : TermsAt V s r.ts
  below : Below w.heap.size w V
theorem WoI.go {w : World} {b c : Nat} {o2 : Option Addr} {n2 c2 : Nat} {rows : List Row} {S : Nat → Value} {r : Row} {s : Value} {V V' : World} (h : WoI w b c o2 n2 c2 rows S r s V) (hb : Below V.heap.size V V') : WoI w b c o2 n2 c2 rows S r s V' :=
  ⟨(hb.cell (p := ⟨w.heap.size, 0, none⟩) (cell_lt h.t0)).trans h.t0, Grid.go h.box hb, h.grid.go hb, SliceAt.go h.terms hb, h.below.trans (hb.mono h.below.size)⟩
theorem ts_succ {p : Int × Int → Bool} {ts : List (Int × Int)} {j : Nat} (hj : j < ts.length) (h : (ts.take j).all p = true) : (ts.take (j + 1)).all p = p (ts.getD j default) := by
  rw [List.take_succ_eq_append_getElem hj, List.all_append, h, List.getD_eq_getElem?_getD, List.getElem?_eq_getElem hj]
  simp
theorem ts_stop {p : Int × Int → Bool} {ts : List (Int × Int)} {j : Nat} (hj : j < ts.length) (h : p (ts.getD j default) = false) : ts.all p = false := by
  rw [List.all_eq_false]
  refine ⟨ts[j], List.getElem_mem hj, ?_⟩
  rw [List.getD_eq_getElem?_getD, List.getElem?_eq_getElem hj] at h
  simpa using h

set_option maxRecDepth 100000 in
set_option maxHeartbeats 16000000 in
theorem rworth_any (rows : List Row) (S : Nat → Value) (b c : Nat) (o2 : Option Addr) (n2 c2 i : Nat) (w : World) (hi : i < rows.length) (hl : rows.length ≤ 1000) (hg : Grid w b 12 rows.length (cellA rows S)) (ht : TermsAt w (S i) (rows.getD i default).ts) (hf : (rows.getD i default).Fine) (h10 : (rows.getD i default).TenOk) :
    Calls Tryd.prog 20 #[.agg #[.slice (some ⟨b, 0, none⟩) rows.length c, .slice o2 n2 c2], .int .i64 i] w fun e w' => e = .returned (.bool (rowB rows i)) ∧ Below w.heap.size w w' := by
  have HRB : Hid (rowB rows i = (worthB (rows.getD i default) && (rows.getD i default).ts.all (termB rows i))) := rfl
  obtain ⟨r, hr⟩ : ∃ r, rows.getD i default = r := ⟨_, rfl⟩
  rw [hr] at ht hf h10
  obtain ⟨os, cs, hSi⟩ := SliceAt.slice ht
  rw [hSi] at ht
  rw [hr] at HRB
  have HR := Lib.hid hr
  clear hr
  have hii : (i : Int) < rows.length := by omega
  have hu1 : Below w.heap.size w (w.alloc (.cells #[.slice (some ⟨b, 0, none⟩) rows.length c, .slice o2 n2 c2] 29)) := by go_grown
  have hu2 : Below (w.alloc (.cells #[.slice (some ⟨b, 0, none⟩) rows.length c, .slice o2 n2 c2] 29)).heap.size (w.alloc (.cells #[.slice (some ⟨b, 0, none⟩) rows.length c, .slice o2 n2 c2] 29)) ((w.alloc (.cells #[.slice (some ⟨b, 0, none⟩) rows.length c, .slice o2 n2 c2] 29)).alloc (.cells (r.cs (.slice os r.ts.length cs)) 40)) := (Below.refl _ _).alloc (Nat.le_refl _) _
  have hz1 : (w.alloc (.cells #[.slice (some ⟨b, 0, none⟩) rows.length c, .slice o2 n2 c2] 29)).heap.size = w.heap.size + 1 := World.size_alloc _ _
  have hbx := AtomBox.new (w.alloc (.cells #[.slice (some ⟨b, 0, none⟩) rows.length c, .slice o2 n2 c2] 29)) r (.slice os r.ts.length cs)
  rw [hz1] at hbx
  have hW : WoI w b c o2 n2 c2 rows S r (.slice os r.ts.length cs) ((w.alloc (.cells #[.slice (some ⟨b, 0, none⟩) rows.length c, .slice o2 n2 c2] 29)).alloc (.cells (r.cs (.slice os r.ts.length cs)) 40)) :=
    ⟨(hu2.cell (p := ⟨w.heap.size, 0, none⟩) (by rw [hz1]; show w.heap.size < w.heap.size + 1; omega)).trans (by simp [go_sem]), hbx, (hg.go hu1).go hu2, SliceAt.go (SliceAt.go ht hu1) hu2, hu1.trans (hu2.mono hu1.size)⟩
  have hlw := hg.2.2
  obtain ⟨d0, d1, d2, d3, d4, d5, d6, d7, d8, d9, d10, d11⟩ := row_cells (hg.go hu1) i hi r HR.out
  rw [hSi] at d11
  have HSI := Lib.hid hSi
  clear hSi
  clear hbx hu2
  simp only [Row.cs] at hW
  go_enter Tryd.func20, Tryd.ntmps20
  go_upto_region 2 with fail
  generalize ((w.alloc (.cells #[.slice (some ⟨b, 0, none⟩) rows.length c, .slice o2 n2 c2] 29)).alloc (.cells #[.string (bs r.c0), .string (bs r.c1), .string (bs r.c2), .string (bs r.c3), .string (bs r.c4), .bool r.m, .int .i64 r.tag, .int .i64 r.base, .int .i64 r.num, .int .i64 r.den, .int .i64 r.ten, .slice os r.ts.length cs] 40)) = V at *
  clear d0 d1 d2 d3 d4 d5 d6 d7 d8 d9 d10 d11 hz1 hu1 ht hg
  obtain ⟨x0, x1, x2, x3, x4, x5, x6, x7, x8, x9, x10, x11⟩ := AtomBox.cells hW.box
  clear x0 x1 x2 x3 x4 x5
  have HWB : Hid (worthB r = if r.tag < 0 ∨ 99 < r.tag then false else if 0 ≤ r.base ∧ r.base < 7 then decide (r.num = 1 ∧ r.den = 1 ∧ r.ten = 0 ∧ r.tag = 0 ∧ r.ts.length = 0) else if r.base ≠ -1 ∨ 9 < r.ts.length then false else decide ((Frac.makeG r.num r.den r.ten).e = 0 ∧ (Frac.makeG r.num r.den r.ten).n ≠ 0)) := rfl
  by_cases hA : r.tag < 0
  · have HE : Hid (rowB rows i = false) := by show _ = _; rw [HRB.out, HWB.out, if_pos (.inl hA)]; rfl
    go_wp2
    go_ret
    exact ⟨by rw [HE.out]; rfl, hW.below⟩
  by_cases hA2 : r.tag > 99
  · have HE : Hid (rowB rows i = false) := by show _ = _; rw [HRB.out, HWB.out, if_pos (.inr hA2)]; rfl
    go_wp2
    go_ret
    exact ⟨by rw [HE.out]; rfl, hW.below⟩
  have HN : Hid (¬ (r.tag < 0 ∨ 99 < r.tag)) := by show ¬ _; omega
  by_cases hb0 : r.base ≥ 0
  · by_cases hb6 : r.base ≤ 6
    · have HB : Hid (rowB rows i = (decide (r.num = 1 ∧ r.den = 1 ∧ r.ten = 0 ∧ r.tag = 0 ∧ r.ts.length = 0) && r.ts.all (termB rows i))) := by show _ = _; rw [HRB.out, HWB.out, if_neg HN.out, if_pos (by omega)]
      by_cases e1 : r.num = 1
      · have f1 : (r.num == 1) = true := by simpa using e1
        by_cases e2 : r.den = 1
        · have f2 : (r.den == 1) = true := by simpa using e2
          by_cases e3 : r.ten = 0
          · have f3 : (r.ten == 0) = true := by simpa using e3
            by_cases e4 : r.tag = 0
            · have f4 : (r.tag == 0) = true := by simpa using e4
              by_cases e5 : r.ts.length = 0
              · have f5 : ((r.ts.length : Int) == 0) = true := by simp [e5]
                have HE : Hid (rowB rows i = true) := by
                  show _ = _
                  rw [HB.out, List.length_eq_zero_iff.1 e5]
                  simp [e1, e2, e3, e4]
                clear e1 e2 e3 e4 e5
                go_wp2
                go_ret
                exact ⟨by rw [HE.out]; rfl, hW.below⟩
              · have f5 : ((r.ts.length : Int) == 0) = false := by rw [beq_eq_false_iff_ne]; omega
                have HE : Hid (rowB rows i = false) := by show _ = _; rw [HB.out]; simp [e5]
                clear e1 e2 e3 e4 e5
                go_wp2
                go_ret
                exact ⟨by rw [HE.out]; rfl, hW.below⟩
            · have f4 : (r.tag == 0) = false := by simpa using e4
              have HE : Hid (rowB rows i = false) := by show _ = _; rw [HB.out]; simp [e4]
              clear e1 e2 e3 e4
              go_wp2
              go_ret
              exact ⟨by rw [HE.out]; rfl, hW.below⟩
          · have f3 : (r.ten == 0) = false := by simpa using e3
            have HE : Hid (rowB rows i = false) := by show _ = _; rw [HB.out]; simp [e3]
            clear e1 e2 e3
            go_wp2
            go_ret
            exact ⟨by rw [HE.out]; rfl, hW.below⟩
        · have f2 : (r.den == 1) = false := by simpa using e2
          have HE : Hid (rowB rows i = false) := by show _ = _; rw [HB.out]; simp [e2]
          clear e1 e2
          go_wp2
          go_ret
          exact ⟨by rw [HE.out]; rfl, hW.below⟩
      · have f1 : (r.num == 1) = false := by simpa using e1
        have HE : Hid (rowB rows i = false) := by show _ = _; rw [HB.out]; simp [e1]
        clear e1
        go_wp2
        go_ret
        exact ⟨by rw [HE.out]; rfl, hW.below⟩
    · have HB : Hid (rowB rows i = false) := by show _ = _; rw [HRB.out, HWB.out, if_neg HN.out, if_neg (by omega), if_pos (.inl (by omega))]; rfl
      have fm : (r.base != -1) = true := by rw [bne_iff_ne]; omega
      have hmk := fun W => Frac.rmake_any r.num r.den r.ten W hf.num hf.den h10.1 h10.2
      go_wp2_with fail
      refine (hmk _).mono ?_
      rintro e V2 ⟨rfl, hb2⟩
      replace hW := hW.go hb2
      clear x6 x7 x8 x9 x10 x11 hmk hb2
      obtain ⟨g, hg⟩ : ∃ g, Frac.makeR r.num r.den r.ten = g := ⟨_, rfl⟩
      rw [hg]
      have HG : Hid (Frac.makeG r.num r.den r.ten = g) := (Frac.make_eq _ _ _ hf.num hf.den).trans hg
      clear hg
      unfold Frac.Got.r
      have hu3 : Below V2.heap.size V2 (V2.alloc (.cells #[.int .i64 g.n, .int .i64 g.d, .int .i64 g.t, .int .i64 g.e] 70)) := (Below.refl _ _).alloc (Nat.le_refl _) _
      have y0 : (V2.alloc (.cells #[.int .i64 g.n, .int .i64 g.d, .int .i64 g.t, .int .i64 g.e] 70)).cell? ⟨V2.heap.size, 0, none⟩ = some (.int .i64 g.n) := by simp [go_sem]
      have y3 : (V2.alloc (.cells #[.int .i64 g.n, .int .i64 g.d, .int .i64 g.t, .int .i64 g.e] 70)).cell? ⟨V2.heap.size, 3, none⟩ = some (.int .i64 g.e) := by simp [go_sem]
      replace hW := hW.go hu3
      go_upto_region 7 with fail
      clear hu3
      generalize (V2.alloc (.cells #[.int .i64 g.n, .int .i64 g.d, .int .i64 g.t, .int .i64 g.e] 70)) = V3 at *
      obtain ⟨x0, x1, x2, x3, x4, x5, x6, x7, x8, x9, x10, x11⟩ := AtomBox.cells hW.box
      clear x0 x1 x2 x3 x4 x5
      go_wp2
      go_ret
      exact ⟨by rw [HB.out]; rfl, hW.below⟩
  · have HNB : Hid (¬ (0 ≤ r.base ∧ r.base < 7)) := by show ¬ _; omega
    by_cases hm1 : r.base = -1
    · have fm : (r.base != -1) = false := by simp [hm1]
      have HM := Lib.hid hm1
      clear hm1
      have hmk := fun W => Frac.rmake_any r.num r.den r.ten W hf.num hf.den h10.1 h10.2
      go_wp2_with fail
      refine (hmk _).mono ?_
      rintro e V2 ⟨rfl, hb2⟩
      replace hW := hW.go hb2
      clear x6 x7 x8 x9 x10 x11 hmk hb2
      obtain ⟨g, hg⟩ : ∃ g, Frac.makeR r.num r.den r.ten = g := ⟨_, rfl⟩
      rw [hg]
      have HG : Hid (Frac.makeG r.num r.den r.ten = g) := (Frac.make_eq _ _ _ hf.num hf.den).trans hg
      clear hg
      unfold Frac.Got.r
      have hu3 : Below V2.heap.size V2 (V2.alloc (.cells #[.int .i64 g.n, .int .i64 g.d, .int .i64 g.t, .int .i64 g.e] 70)) := (Below.refl _ _).alloc (Nat.le_refl _) _
      have y0 : (V2.alloc (.cells #[.int .i64 g.n, .int .i64 g.d, .int .i64 g.t, .int .i64 g.e] 70)).cell? ⟨V2.heap.size, 0, none⟩ = some (.int .i64 g.n) := by simp [go_sem]
      have y3 : (V2.alloc (.cells #[.int .i64 g.n, .int .i64 g.d, .int .i64 g.t, .int .i64 g.e] 70)).cell? ⟨V2.heap.size, 3, none⟩ = some (.int .i64 g.e) := by simp [go_sem]
      replace hW := hW.go hu3
      go_upto_region 7 with fail
      clear hu3
      generalize (V2.alloc (.cells #[.int .i64 g.n, .int .i64 g.d, .int .i64 g.t, .int .i64 g.e] 70)) = V3 at *
      obtain ⟨x0, x1, x2, x3, x4, x5, x6, x7, x8, x9, x10, x11⟩ := AtomBox.cells hW.box
      clear x0 x1 x2 x3 x4 x5
      by_cases he : g.e = 0
      · have fe : (g.e != 0) = false := by simp [he]
        by_cases hn0 : g.n = 0
        · have fn : (g.n == 0) = true := by simp [hn0]
          have HB : Hid (rowB rows i = false) := by
            show _ = _
            rw [HRB.out, HWB.out, if_neg HN.out, if_neg HNB.out, HG.out]
            split
            · rfl
            · simp [hn0]
          clear he hn0
          go_wp2
          go_ret
          exact ⟨by rw [HB.out]; rfl, hW.below⟩
        · have fn : (g.n == 0) = false := by simpa using hn0
          by_cases h9 : 9 < r.ts.length
          · have h9i : (9 : Int) < r.ts.length := by omega
            have HB : Hid (rowB rows i = false) := by
              show _ = _
              rw [HRB.out, HWB.out, if_neg HN.out, if_neg HNB.out, if_pos (.inr h9)]; rfl
            clear he hn0 h9
            go_wp2
            go_ret
            exact ⟨by rw [HB.out]; rfl, hW.below⟩
          · have h9i : ¬ (9 : Int) < r.ts.length := by omega
            have HWT : Hid (worthB r = true) := by
              show _ = _
              rw [HWB.out, if_neg HN.out, if_neg HNB.out, if_neg (by rw [HM.out]; simp; omega), HG.out]
              simp [he, hn0]
            clear he hn0 h9
            go_wp2
            go_loopw [7] (fun x wr => ∃ j : Nat, x = .int .i64 j ∧ j ≤ r.ts.length ∧ Hid ((r.ts.take j).all (termB rows i) = true) ∧ WoI w b c o2 n2 c2 rows S r (.slice os r.ts.length cs) wr) (fun x _ => (r.ts.length - intOf x).toNat)
            case atStart => exact ⟨0, rfl, by omega, by show _ = _; simp, hW⟩
            case round =>
              clear hW x6 x7 x8 x9 x10 x11 y0 y3
              obtain ⟨j, rfl, hj, HJ, hW⟩ := hrel
              obtain ⟨x0, x1, x2, x3, x4, x5, x6, x7, x8, x9, x10, x11⟩ := AtomBox.cells hW.box
              clear x0 x1 x2 x3 x4 x5 x6 x7 x8 x9 x10
              by_cases hjl : j < r.ts.length
              · have hji : (j : Int) < r.ts.length := by omega
                obtain ⟨bt, rfl⟩ : ∃ b, os = some ⟨b, 0, none⟩ := by
                  rcases hW.terms with ⟨h0, _⟩ | ⟨b', c', he, _⟩
                  · omega
                  · injection he with e1 e2 e3
                    exact ⟨b', e1⟩
                have hgt : Grid wr bt 2 r.ts.length (cellT r.ts) := by
                  rcases hW.terms with ⟨h0, _⟩ | ⟨b', c', he, _, _, hg⟩
                  · omega
                  · injection he with e1 e2 e3
                    injection e1 with e1
                    injection e1 with e1
                    rw [e1]
                    exact hg
                obtain ⟨t, htj⟩ : ∃ t, r.ts.getD j default = t := ⟨_, rfl⟩
                have q1 : wr.cell? ⟨bt, j * 2, none⟩ = some (.int .i64 t.1) := by rw [← htj]; exact hgt.1 j hjl 0 (by omega)
                have q2 : wr.cell? ⟨bt, j * 2 + 1, none⟩ = some (.int .i64 t.2) := by rw [← htj]; exact hgt.1 j hjl 1 (by omega)
                have HT := Lib.hid htj
                clear htj hgt
                have hu4 : Below wr.heap.size wr (wr.alloc (.cells #[.int .i64 t.1, .int .i64 t.2] 47)) := by go_grown
                have a0 : (wr.alloc (.cells #[.int .i64 t.1, .int .i64 t.2] 47)).cell? ⟨wr.heap.size, 0, none⟩ = some (.int .i64 t.1) := by simp [go_sem]
                have a1 : (wr.alloc (.cells #[.int .i64 t.1, .int .i64 t.2] 47)).cell? ⟨wr.heap.size, 1, none⟩ = some (.int .i64 t.2) := by simp [go_sem]
                go_upto_region 13 with fail
                replace hW := hW.go hu4
                clear hu4 q1 q2 x11
                generalize wr.alloc (.cells #[.int .i64 t.1, .int .i64 t.2] 47) = W4 at *
                have tb0 := hW.t0
                have HTB : Hid (termB rows i t = if t.1 < 0 ∨ (i : Int) ≤ t.1 ∨ (rows.getD t.1.toNat default).tag ≠ 0 then false else decide (t.2 ≠ 0 ∧ -9 ≤ t.2 ∧ t.2 ≤ 9)) := rfl
                have HST : Hid (termB rows i t = false → rowB rows i = false) := fun h => by
                  rw [HRB.out, ts_stop hjl (by rw [HT.out]; exact h)]; simp
                by_cases k1 : t.1 < 0
                · have HE : Hid (rowB rows i = false) := HST.out (by rw [HTB.out, if_pos (.inl k1)])
                  go_wp2
                  go_ret
                  exact ⟨by rw [HE.out]; rfl, hW.below⟩
                by_cases k2 : t.1 ≥ (i : Int)
                · have HE : Hid (rowB rows i = false) := HST.out (by rw [HTB.out, if_pos (.inr (.inl k2))])
                  go_wp2
                  go_ret
                  exact ⟨by rw [HE.out]; rfl, hW.below⟩
                by_cases k3 : t.2 < -9
                · have HE : Hid (rowB rows i = false) := HST.out (by rw [HTB.out]; split; rfl; simp; omega)
                  go_wp2
                  go_ret
                  exact ⟨by rw [HE.out]; rfl, hW.below⟩
                by_cases k4 : t.2 > 9
                · have HE : Hid (rowB rows i = false) := HST.out (by rw [HTB.out]; split; rfl; simp; omega)
                  go_wp2
                  go_ret
                  exact ⟨by rw [HE.out]; rfl, hW.below⟩
                by_cases k5 : t.2 = 0
                · have f5 : (t.2 == 0) = true := by simpa using k5
                  have HE : Hid (rowB rows i = false) := HST.out (by rw [HTB.out]; split; rfl; simp [k5])
                  clear k5
                  go_wp2
                  go_ret
                  exact ⟨by rw [HE.out]; rfl, hW.below⟩
                have f5 : (t.2 == 0) = false := by simpa using k5
                obtain ⟨q, hq⟩ : ∃ q : Nat, t.1 = (q : Int) := ⟨t.1.toNat, by omega⟩
                have hqi : q < i := by omega
                have hql : (q : Int) < rows.length := by omega
                have ctag := (row_cells hW.grid q (by omega) _ rfl).2.2.2.2.2.2.1
                obtain ⟨tg, htg⟩ : ∃ tg, (rows.getD q default).tag = tg := ⟨_, rfl⟩
                rw [htg] at ctag
                rw [hq] at a0
                have HTN : Hid ((rows.getD t.1.toNat default).tag = tg) := by show _ = _; rw [hq, Int.toNat_natCast]; exact htg
                have HK : Hid (¬ t.1 < 0 ∧ ¬ (i : Int) ≤ t.1 ∧ t.2 ≠ 0 ∧ -9 ≤ t.2 ∧ t.2 ≤ 9) := by refine ⟨k1, k2, k5, ?_, ?_⟩ <;> omega
                have k1' : ¬ (q : Int) < 0 := by omega
                have k2' : ¬ (q : Int) ≥ (i : Int) := by omega
                clear hq htg k1 k2 k5
                by_cases k6 : tg = 0
                · have f6 : (tg != 0) = false := by simp [k6]
                  have HN2 : Hid ((r.ts.take (j + 1)).all (termB rows i) = true) := by
                    show _ = _
                    rw [ts_succ hjl HJ.out, HT.out, HTB.out, if_neg (by rw [HTN.out, k6]; have := HK.out; simp; omega)]
                    have := HK.out
                    simp; omega
                  clear k6
                  go_wp2
                  go_roundw
                  case rel => exact ⟨j + 1, rfl, by omega, HN2, hW⟩
                  case measure => simp only [intOf]; omega
                · have f6 : (tg != 0) = true := by simpa using k6
                  have HE : Hid (rowB rows i = false) := HST.out (by rw [HTB.out, if_pos (.inr (.inr (by rw [HTN.out]; exact k6)))])
                  clear k6
                  go_wp2
                  go_ret
                  exact ⟨by rw [HE.out]; rfl, hW.below⟩
              · have hje : j = r.ts.length := by omega
                have hji : ¬ (j : Int) < r.ts.length := by omega
                have HE : Hid (rowB rows i = true) := by
                  show _ = _
                  have := HJ.out
                  rw [hje, List.take_length] at this
                  rw [HRB.out, HWT.out, this]; rfl
                clear hje
                go_wp2
                go_ret
                exact ⟨by rw [HE.out]; rfl, hW.below⟩
      · have fe : (g.e != 0) = true := by simpa using he
        have HB : Hid (rowB rows i = false) := by
          show _ = _
          rw [HRB.out, HWB.out, if_neg HN.out, if_neg HNB.out, HG.out]
          split
          · rfl
          · simp [he]
        clear he
        go_wp2
        go_ret
        exact ⟨by rw [HB.out]; rfl, hW.below⟩
    · have fm : (r.base != -1) = true := by simpa using hm1
      have HB : Hid (rowB rows i = false) := by show _ = _; rw [HRB.out, HWB.out, if_neg HN.out, if_neg HNB.out, if_pos (.inl hm1)]; rfl
      clear hm1
      have hmk := fun W => Frac.rmake_any r.num r.den r.ten W hf.num hf.den h10.1 h10.2
      go_wp2_with fail
      refine (hmk _).mono ?_
      rintro e V2 ⟨rfl, hb2⟩
      replace hW := hW.go hb2
      clear x6 x7 x8 x9 x10 x11 hmk hb2
      obtain ⟨g, hg⟩ : ∃ g, Frac.makeR r.num r.den r.ten = g := ⟨_, rfl⟩
      rw [hg]
      have HG : Hid (Frac.makeG r.num r.den r.ten = g) := (Frac.make_eq _ _ _ hf.num hf.den).trans hg
      clear hg
      unfold Frac.Got.r
      have hu3 : Below V2.heap.size V2 (V2.alloc (.cells #[.int .i64 g.n, .int .i64 g.d, .int .i64 g.t, .int .i64 g.e] 70)) := (Below.refl _ _).alloc (Nat.le_refl _) _
      have y0 : (V2.alloc (.cells #[.int .i64 g.n, .int .i64 g.d, .int .i64 g.t, .int .i64 g.e] 70)).cell? ⟨V2.heap.size, 0, none⟩ = some (.int .i64 g.n) := by simp [go_sem]
      have y3 : (V2.alloc (.cells #[.int .i64 g.n, .int .i64 g.d, .int .i64 g.t, .int .i64 g.e] 70)).cell? ⟨V2.heap.size, 3, none⟩ = some (.int .i64 g.e) := by simp [go_sem]
      replace hW := hW.go hu3
      go_upto_region 7 with fail
      clear hu3
      generalize (V2.alloc (.cells #[.int .i64 g.n, .int .i64 g.d, .int .i64 g.t, .int .i64 g.e] 70)) = V3 at *
      obtain ⟨x0, x1, x2, x3, x4, x5, x6, x7, x8, x9, x10, x11⟩ := AtomBox.cells hW.box
      clear x0 x1 x2 x3 x4 x5
      go_wp2
      go_ret
      exact ⟨by rw [HB.out]; rfl, hW.below⟩

end Go.Proofs.YtpmibcdmaaagjaaDoor.Atoms

namespace Go.Proofs.YtpmibcdmaaagjaaDoor.Atoms
open Go.RowKit Go.Shelf
set_option linter.unusedVariables false
set_option linter.unusedSimpArgs false

theorem elem_c5 : Elem 53 37 5 := elem_of (b := 80) (by omega) (by omega) (by kernel_rfl) (by kernel_rfl)
theorem c5_one (L : List C5) : ∀ i, i < L.length → ∀ j, j < 5 → (cell5 L i j).oneCell' = true := fun _ _ _ _ => rfl
theorem c5_cat (L : List C5) (q : C5) : ∀ i, i < L.length + 1 → ∀ j, j < 5 → both L.length (cell5 L) (cell5 [q]) i j = cell5 (L ++ [q]) i j := by
  intro i hi j hj
  unfold both cell5
  rw [List.getD_eq_getElem?_getD (l := L ++ [q])]
  by_cases h : i < L.length
  · rw [if_pos h, List.getElem?_append_left h, ← List.getD_eq_getElem?_getD]
  · rw [if_neg h, List.getElem?_append_right (by omega), ← List.getD_eq_getElem?_getD]
/-- The rows of codes ahead, and that they lie apart from what was there. -/
structure AhI (B : Nat) (w1 : World) (s : Value) (L : List C5) (W : World) : Prop where
  at_ : AheadAt W s L
  above : Above B s
  below : Below B w1 W
theorem AhI.go {B : Nat} {w1 : World} {s : Value} {L : List C5} {W W' : World} (h : AhI B w1 s L W) (hB : B ≤ W.heap.size) (hb : Below W.heap.size W W') : AhI B w1 s L W' := ⟨SliceAt.go h.at_ hb, h.above, h.below.trans (hb.mono hB)⟩
theorem AhI.nil (w1 : World) : AhI w1.heap.size w1 (.slice none 0 0) [] w1 := ⟨.inl ⟨rfl, rfl⟩, fun a n c e => (by cases e), Below.refl _ _⟩
/-- One more. -/
theorem AhI.more {B : Nat} {w1 : World} {o : Option Addr} {c : Nat} {L : List C5} {W : World} (h : AhI B w1 (.slice o L.length c) L W) (hB : B ≤ W.heap.size) (hl : L.length ≤ 1000) (q : C5) (cs : Array Value) (hcs : ∀ j, j < 5 → cs[j]? = some (.string (bs (q.get j)))) (hz : cs.size = 5) :
    ∃ V s, (∀ ty, (Builtin.append_ #[53, 53] ty #[.slice o L.length c, .slice (some ⟨W.heap.size, 0, none⟩) 1 1]).run Tryd.prog (W.alloc (.cells cs 37)) = .ok s V) ∧ (∃ o' c', s = .slice o' (L.length + 1) c') ∧ AhI B w1 s (L ++ [q]) V := by
  have hu : Below W.heap.size W (W.alloc (.cells cs 37)) := (Below.refl _ _).alloc (Nat.le_refl _) _
  have hzz : (W.alloc (.cells cs 37)).heap.size = W.heap.size + 1 := World.size_alloc _ _
  obtain ⟨V, s, hr, hj⟩ := append_any (w := W.alloc (.cells cs 37)) elem_c5 (SliceAt.go h.at_ hu) (c5_one L) (SliceAt.source elem_c5 (one_slice W 37 5 cs (cell5 [q]) hcs hz) (c5_one [q])) (by omega) (.inl (by omega))
  have hat : AheadAt V s (L ++ [q]) := by
    show SliceAt V s 5 (L ++ [q]).length _
    rw [List.length_append]
    exact SliceAt.ext hj.rows (c5_cat L q)
  refine ⟨V, s, hr, ?_, hat, ?_, ?_⟩
  · rcases hj.way with ⟨c', rfl, _⟩ | ⟨b, c', _, rfl, _⟩
    · exact ⟨_, _, rfl⟩
    · exact ⟨_, _, rfl⟩
  · rcases hj.way with ⟨c', rfl, _⟩ | ⟨b, c', e1, rfl, _⟩
    · intro a n c e
      injection e with e
      injection e with e
      subst e
      show B ≤ (W.alloc (.cells cs 37)).heap.size
      omega
    · have := h.above _ _ _ e1
      intro a n c e
      injection e with e
      injection e with e
      subst e
      exact this
  · rcases hj.way with ⟨c', rfl, hb⟩ | ⟨b, c', e1, rfl, rfl⟩
    · exact h.below.trans ((hu.trans (hb.mono (by omega))).mono hB)
    · have hab := h.above _ _ _ e1
      exact h.below.trans ((hu.mono hB).trans ((only_cells b _ _ _ _ (Only.refl _ _)).below hab))
theorem get_fine {rows : List Row} {m : Nat} (h : RowsOk m rows) {k : Nat} (hk : k < rows.length) : (rows.getD k default).Fine ∧ (rows.getD k default).TenOk := (h _ (by rw [List.getD_eq_getElem?_getD, List.getElem?_eq_getElem hk]; exact List.getElem_mem _)).1
theorem pre_fine {ps : List Pre} (h : ∀ p ∈ ps, p.c5.Fine) {k : Nat} (hk : k < ps.length) : (ps.getD k default).c5.Fine := h _ (by rw [List.getD_eq_getElem?_getD, List.getElem?_eq_getElem hk]; exact List.getElem_mem _)
theorem wrongAR_yes {rows : List Row} {n k : Nat} {L : List C5} (hk : k < n) (h1 : codesR (rows.getD k default).c5 L = true) (h2 : rowB rows k = true) : wrongAR rows (n - k) k L = wrongAR rows (n - (k + 1)) (k + 1) (L ++ [(rows.getD k default).c5]) := by
  rw [show n - k = (n - (k + 1)) + 1 by omega]
  show (if codesR (rows.getD k default).c5 L && rowB rows k then _ else _) = _
  rw [h1, h2]; rfl
theorem wrongAR_no {rows : List Row} {n k : Nat} {L : List C5} (hk : k < n) (h : (codesR (rows.getD k default).c5 L && rowB rows k) = false) : wrongAR rows (n - k) k L = (k : Int) := by
  rw [show n - k = (n - (k + 1)) + 1 by omega]
  show (if codesR (rows.getD k default).c5 L && rowB rows k then _ else _) = _
  rw [h]; rfl
theorem wrongPR_yes {ps : List Pre} {n k : Nat} {L : List C5} (hk : k < n) (h1 : codesR (ps.getD k default).c5 L = true) (h2 : -30 ≤ (ps.getD k default).ten ∧ (ps.getD k default).ten ≤ 30) : wrongPR ps (n - k) k L = wrongPR ps (n - (k + 1)) (k + 1) (L ++ [(ps.getD k default).c5]) := by
  rw [show n - k = (n - (k + 1)) + 1 by omega]
  show (if codesR (ps.getD k default).c5 L && decide (-30 ≤ (ps.getD k default).ten ∧ (ps.getD k default).ten ≤ 30) then _ else _) = _
  rw [h1, decide_eq_true h2]; rfl
theorem wrongPR_no {ps : List Pre} {n k : Nat} {L : List C5} (hk : k < n) (h : (codesR (ps.getD k default).c5 L && decide (-30 ≤ (ps.getD k default).ten ∧ (ps.getD k default).ten ≤ 30)) = false) : wrongPR ps (n - k) k L = (k : Int) := by
  rw [show n - k = (n - (k + 1)) + 1 by omega]
  show (if codesR (ps.getD k default).c5 L && decide (-30 ≤ (ps.getD k default).ten ∧ (ps.getD k default).ten ≤ 30) then _ else _) = _
  rw [h]; rfl

set_option maxRecDepth 100000 in
set_option maxHeartbeats 16000000 in
theorem rcheck_any (sa sp : Value) (rows : List Row) (S : Nat → Value) (ps : List Pre) (m : Nat) (w : World) (hA : AtomsSl w sa rows S) (hP : PrefsSl w sp ps) (l1 : rows.length ≤ 1000) (l2 : ps.length ≤ 1000) (hok : RowsOk m rows) (hpf : ∀ p ∈ ps, p.c5.Fine) :
    Calls Tryd.prog 9 #[.agg #[sa, sp]] w fun e w' => e = .returned (.int .i64 (checkR rows ps)) ∧ Below w.heap.size w w' := by
  obtain ⟨o, c, rfl⟩ := SliceAt.slice hA.1
  obtain ⟨o2, c2, rfl⟩ := SliceAt.slice hP
  have hu : Below w.heap.size w (w.alloc (.cells #[.slice o rows.length c, .slice o2 ps.length c2] 29)) := by go_grown
  have t0 : (w.alloc (.cells #[.slice o rows.length c, .slice o2 ps.length c2] 29)).cell? ⟨w.heap.size, 0, none⟩ = some (.slice o rows.length c) := by simp [go_sem]
  have t1 : (w.alloc (.cells #[.slice o rows.length c, .slice o2 ps.length c2] 29)).cell? ⟨w.heap.size, 1, none⟩ = some (.slice o2 ps.length c2) := by simp [go_sem]
  have hA1 := hA.go hu
  have hP1 : PrefsSl _ (.slice o2 ps.length c2) ps := SliceAt.go hP hu
  by_cases h100 : 100 < rows.length
  · have i100 : (100 : Int) < rows.length := by omega
    have HE : Hid (checkR rows ps = (rows.length : Int) + ps.length) := by show _ = _; unfold checkR; rw [if_pos (.inl h100)]; simp
    clear hA hP hA1 hP1
    go_enter Tryd.func9, Tryd.ntmps9
    go_wp2
    go_ret
    exact ⟨by rw [HE.out]; rfl, hu⟩
  by_cases h30 : 30 < ps.length
  · have i100 : ¬ (100 : Int) < rows.length := by omega
    have i30 : (30 : Int) < ps.length := by omega
    have HE : Hid (checkR rows ps = (rows.length : Int) + ps.length) := by show _ = _; unfold checkR; rw [if_pos (.inr h30)]; simp
    clear hA hP hA1 hP1
    go_enter Tryd.func9, Tryd.ntmps9
    go_wp2
    go_ret
    exact ⟨by rw [HE.out]; rfl, hu⟩
  have i100 : ¬ (100 : Int) < rows.length := by omega
  have i30 : ¬ (30 : Int) < ps.length := by omega
  have HC : Hid (checkR rows ps = if wrongAR rows rows.length 0 [] ≠ -1 then wrongAR rows rows.length 0 [] else if wrongPR ps ps.length 0 [] ≠ -1 then (rows.length : Int) + wrongPR ps ps.length 0 [] else -1) := by
    show _ = _
    unfold checkR
    rw [if_neg (by omega)]
  have HOK := Lib.hid hok
  have HPF := Lib.hid hpf
  clear hok hpf hA hP
  go_enter Tryd.func9, Tryd.ntmps9
  go_wp2
  generalize w.alloc (.cells #[.slice o rows.length c, .slice o2 ps.length c2] 29) = w1 at *
  have hAh := AhI.nil w1
  have hlw : w.heap.size < w1.heap.size := cell_lt t0
  have HT0 := Lib.hid t0
  have HT1 := Lib.hid t1
  have HA1 := Lib.hid hA1
  have HP1 := Lib.hid hP1
  clear t0 t1 hA1 hP1
  go_loopw [3, 4] (fun a x wr => ∃ (k : Nat) (L : List C5) (oa : Option Addr) (ca : Nat), x = .int .i64 k ∧ a = .slice oa L.length ca ∧ k ≤ rows.length ∧ L.length = k ∧ Hid (wrongAR rows rows.length 0 [] = wrongAR rows (rows.length - k) k L) ∧ AhI w1.heap.size w1 (.slice oa L.length ca) L wr) (fun _ x _ => (rows.length - intOf x).toNat)
  case atStart => exact ⟨0, [], none, 0, rfl, rfl, by omega, rfl, rfl, hAh⟩
  case round =>
    clear hAh
    obtain ⟨k, L, oa, ca, rfl, rfl, hk, hL, HW, hI⟩ := hrel
    have t0 := (hI.below.cell (p := ⟨w.heap.size, 0, none⟩) hlw).trans HT0.out
    have t1 := (hI.below.cell (p := ⟨w.heap.size, 1, none⟩) hlw).trans HT1.out
    have hsz := hI.below.size
    by_cases hkn : k < rows.length
    · have hki : (k : Int) < rows.length := by omega
      have hsl := SliceAt.go HA1.out.1 hI.below
      obtain ⟨b, rfl⟩ : ∃ b, o = some ⟨b, 0, none⟩ := by
        rcases hsl with ⟨h0, _⟩ | ⟨b', c', he, _⟩
        · omega
        · injection he with e1 e2 e3
          exact ⟨b', e1⟩
      have hg : Grid wr b 12 rows.length (cellA rows S) := by
        rcases hsl with ⟨h0, _⟩ | ⟨b', c', he, _, _, hg⟩
        · omega
        · injection he with e1 e2 e3
          injection e1 with e1
          injection e1 with e1
          rw [e1]
          exact hg
      have ht := SliceAt.go (HA1.out.2 k hkn) hI.below
      obtain ⟨hfr, hten⟩ := get_fine HOK.out hkn
      obtain ⟨r, hr⟩ : ∃ r, rows.getD k default = r := ⟨_, rfl⟩
      have hcd : Calls Tryd.prog 19 #[.agg #[.string (bs r.c0), .string (bs r.c1), .string (bs r.c2), .string (bs r.c3), .string (bs r.c4)], .slice oa L.length ca] wr fun e w' => e = .returned (.bool (codesR r.c5 L)) ∧ Below wr.heap.size wr w' := rcodes_any r.c5 L (.slice oa L.length ca) wr hI.at_ (by omega) (by rw [← hr]; exact hfr.codes)
      obtain ⟨d0, d1, d2, d3, d4, _⟩ := row_cells hg k hkn r hr
      obtain ⟨v1, hv1⟩ : ∃ v, codesR r.c5 L = v := ⟨_, rfl⟩
      rw [hv1] at hcd
      have HR := Lib.hid hr
      have HV1 := Lib.hid hv1
      have HL := Lib.hid hL
      have hL1 : L.length ≤ 1000 := by omega
      clear hr hv1 hL hsl
      go_wp2_with fail
      refine hcd.mono ?_
      rintro e V2 ⟨rfl, hb2⟩
      have hI2 := hI.go hsz hb2
      have hz2 := hb2.size
      have hg2 := hg.go hb2
      have hwo := rworth_any rows S b c o2 ps.length c2 k V2 hkn l1 hg2 (SliceAt.go ht hb2) hfr hten
      obtain ⟨v2, hv2⟩ : ∃ v, rowB rows k = v := ⟨_, rfl⟩
      rw [hv2] at hwo
      have HV2 := Lib.hid hv2
      replace t0 := (hb2.cell (p := ⟨w.heap.size, 0, none⟩) (cell_lt t0)).trans t0
      replace t1 := (hb2.cell (p := ⟨w.heap.size, 1, none⟩) (cell_lt t1)).trans t1
      clear hv2 hcd d0 d1 d2 d3 d4 hg ht hfr hten hI hb2
      go_wp2_with fail
      refine hwo.mono ?_
      rintro e V3 ⟨rfl, hb3⟩
      have hI3 := hI2.go (by omega) hb3
      have hg3 := hg2.go hb3
      have hz3 := hb3.size
      replace t0 := (hb3.cell (p := ⟨w.heap.size, 0, none⟩) (cell_lt t0)).trans t0
      have huw := hu.trans (hI3.below.mono (by omega))
      obtain ⟨d0, d1, d2, d3, d4, _⟩ := row_cells hg3 k hkn r HR.out
      have HNO : Hid ((v1 && v2) = false → checkR rows ps = (k : Int)) := fun h => by
        have e1 := wrongAR_no (rows := rows) (L := L) hkn (by rw [HR.out, HV1.out, HV2.out]; exact h)
        rw [HC.out, HW.out, e1, if_pos (by omega)]
      clear hwo hg2 hg3 hI2 hb3 t1
      cases v1 with
      | false =>
        have HE : Hid (checkR rows ps = (k : Int)) := HNO.out rfl
        go_wp2
        go_ret
        exact ⟨by rw [HE.out]; rfl, huw⟩
      | true =>
        cases v2 with
        | false =>
          have HE : Hid (checkR rows ps = (k : Int)) := HNO.out rfl
          go_wp2
          go_ret
          exact ⟨by rw [HE.out]; rfl, huw⟩
        | true =>
          obtain ⟨V', s', happ, ⟨o', c', rfl⟩, hI'⟩ := hI3.more (by omega) hL1 r.c5 #[.string (bs r.c0), .string (bs r.c1), .string (bs r.c2), .string (bs r.c3), .string (bs r.c4)] (fun j hj => by match j, hj with | 0, _ => rfl | 1, _ => rfl | 2, _ => rfl | 3, _ => rfl | 4, _ => rfl) rfl
          have HW' : Hid (wrongAR rows rows.length 0 [] = wrongAR rows (rows.length - (k + 1)) (k + 1) (L ++ [r.c5])) := by
            show _ = _
            have := wrongAR_yes (rows := rows) (L := L) hkn (by rw [HR.out]; exact HV1.out) HV2.out
            rw [HW.out, this, HR.out]
          clear hI3
          go_upto_region 6 with (first | (at_builtin; refine wpList_app rfl _ _ 53 53 rfl happ ?_) | fail)
          clear happ t0 d0 d1 d2 d3 d4
          go_wp2
          go_roundw
          case rel =>
            refine ⟨k + 1, L ++ [r.c5], o', c', rfl, by rw [List.length_append]; rfl, by omega, by rw [List.length_append, HL.out]; rfl, HW', ?_⟩
            rw [show (L ++ [r.c5]).length = L.length + 1 by rw [List.length_append]; rfl]
            exact hI'
          case measure => simp only [intOf]; omega
    · have hke : k = rows.length := by omega
      have hki : ¬ (k : Int) < rows.length := by omega
      have HWA : Hid (wrongAR rows rows.length 0 [] = -1) := by
        show _ = _
        rw [HW.out, hke, Nat.sub_self]; rfl
      have hBl := hI.below
      clear HW hke hL hk hI
      go_upto_region 14 with fail
      have hAh2 : AhI wr.heap.size wr (.slice none 0 0) [] wr := AhI.nil wr
      clear t0 t1
      obtain ⟨V1, hV1⟩ : ∃ V1, V1 = wr := ⟨_, rfl⟩
      subst hV1
      have hzl := hBl.size
      go_loopw [3, 7] (fun a x wr => ∃ (k : Nat) (L : List C5) (oa : Option Addr) (ca : Nat), x = .int .i64 k ∧ a = .slice oa L.length ca ∧ k ≤ ps.length ∧ L.length = k ∧ Hid (wrongPR ps ps.length 0 [] = wrongPR ps (ps.length - k) k L) ∧ AhI V1.heap.size V1 (.slice oa L.length ca) L wr) (fun _ x _ => (ps.length - intOf x).toNat)
      case atStart => exact ⟨0, [], none, 0, rfl, rfl, by omega, rfl, rfl, hAh2⟩
      case round =>
        clear hAh2 hki hkn hsz
        obtain ⟨k, L, oa, ca, rfl, rfl, hk, hL, HW, hI⟩ := hrel
        have hB1 := hBl.trans (hI.below.mono hzl)
        have t0 := (hB1.cell (p := ⟨w.heap.size, 0, none⟩) hlw).trans HT0.out
        have t1 := (hB1.cell (p := ⟨w.heap.size, 1, none⟩) hlw).trans HT1.out
        have hsz := hI.below.size
        by_cases hkn : k < ps.length
        · have hki : (k : Int) < ps.length := by omega
          have hsl := SliceAt.go HP1.out hB1
          obtain ⟨b, rfl⟩ : ∃ b, o2 = some ⟨b, 0, none⟩ := by
            rcases hsl with ⟨h0, _⟩ | ⟨b', c', he, _⟩
            · omega
            · injection he with e1 e2 e3
              exact ⟨b', e1⟩
          have hg : Grid wr b 6 ps.length (cellP ps) := by
            rcases hsl with ⟨h0, _⟩ | ⟨b', c', he, _, _, hg⟩
            · omega
            · injection he with e1 e2 e3
              injection e1 with e1
              injection e1 with e1
              rw [e1]
              exact hg
          have hfr := pre_fine HPF.out hkn
          obtain ⟨r, hr⟩ : ∃ r, ps.getD k default = r := ⟨_, rfl⟩
          have hcd : Calls Tryd.prog 19 #[.agg #[.string (bs r.c0), .string (bs r.c1), .string (bs r.c2), .string (bs r.c3), .string (bs r.c4)], .slice oa L.length ca] wr fun e w' => e = .returned (.bool (codesR r.c5 L)) ∧ Below wr.heap.size wr w' := rcodes_any r.c5 L (.slice oa L.length ca) wr hI.at_ (by omega) (by rw [← hr]; exact hfr)
          obtain ⟨d0, d1, d2, d3, d4, d5⟩ := pre_cells hg k hkn r hr
          obtain ⟨v1, hv1⟩ : ∃ v, codesR r.c5 L = v := ⟨_, rfl⟩
          rw [hv1] at hcd
          have HR := Lib.hid hr
          have HV1 := Lib.hid hv1
          have HL := Lib.hid hL
          have hL1 : L.length ≤ 1000 := by omega
          clear hr hv1 hL hsl
          go_wp2_with fail
          refine hcd.mono ?_
          rintro e V3 ⟨rfl, hb2⟩
          have hI3 := hI.go hsz hb2
          have hg3 := hg.go hb2
          have hz2 := hb2.size
          replace t0 := (hb2.cell (p := ⟨w.heap.size, 0, none⟩) (cell_lt t0)).trans t0
          replace t1 := (hb2.cell (p := ⟨w.heap.size, 1, none⟩) (cell_lt t1)).trans t1
          have huw := hu.trans ((hB1.trans (hb2.mono (by omega))).mono (by omega))
          clear d0 d1 d2 d3 d4 d5 hcd hI hb2 hg hfr
          obtain ⟨d0, d1, d2, d3, d4, d5⟩ := pre_cells hg3 k hkn r HR.out
          have HNO : Hid ((v1 && decide (-30 ≤ r.ten ∧ r.ten ≤ 30)) = false → checkR rows ps = (rows.length : Int) + (k : Int)) := fun h => by
            have e1 := wrongPR_no (ps := ps) (L := L) hkn (by rw [HR.out, HV1.out]; exact h)
            rw [HC.out, HWA.out, if_neg (by simp), HW.out, e1, if_pos (by omega)]
          clear hg3
          cases v1 with
          | false =>
            have HE : Hid (checkR rows ps = (rows.length : Int) + (k : Int)) := HNO.out rfl
            go_wp2
            go_ret
            exact ⟨by rw [HE.out]; rfl, huw⟩
          | true =>
            by_cases k1 : r.ten < -30
            · have HE : Hid (checkR rows ps = (rows.length : Int) + (k : Int)) := HNO.out (by simp; omega)
              go_wp2
              go_ret
              exact ⟨by rw [HE.out]; rfl, huw⟩
            by_cases k2 : r.ten > 30
            · have HE : Hid (checkR rows ps = (rows.length : Int) + (k : Int)) := HNO.out (by simp; omega)
              go_wp2
              go_ret
              exact ⟨by rw [HE.out]; rfl, huw⟩
            obtain ⟨V', s', happ, ⟨o', c', rfl⟩, hI'⟩ := hI3.more (by omega) hL1 r.c5 #[.string (bs r.c0), .string (bs r.c1), .string (bs r.c2), .string (bs r.c3), .string (bs r.c4)] (fun j hj => by match j, hj with | 0, _ => rfl | 1, _ => rfl | 2, _ => rfl | 3, _ => rfl | 4, _ => rfl) rfl
            have HW' : Hid (wrongPR ps ps.length 0 [] = wrongPR ps (ps.length - (k + 1)) (k + 1) (L ++ [r.c5])) := by
              show _ = _
              have := wrongPR_yes (ps := ps) (L := L) hkn (by rw [HR.out]; exact HV1.out) (by rw [HR.out]; omega)
              rw [HW.out, this, HR.out]
            clear hI3
            go_upto_region 15 with (first | (at_builtin; refine wpList_app rfl _ _ 53 53 rfl happ ?_) | fail)
            clear happ t0 t1 d0 d1 d2 d3 d4 d5
            go_wp2
            go_roundw
            case rel =>
              refine ⟨k + 1, L ++ [r.c5], o', c', rfl, by rw [List.length_append]; rfl, by omega, by rw [List.length_append, HL.out]; rfl, HW', ?_⟩
              rw [show (L ++ [r.c5]).length = L.length + 1 by rw [List.length_append]; rfl]
              exact hI'
            case measure => simp only [intOf]; omega
        · have hke : k = ps.length := by omega
          have hki : ¬ (k : Int) < ps.length := by omega
          have HE : Hid (checkR rows ps = -1) := by
            have e1 : wrongPR ps ps.length 0 [] = -1 := by rw [HW.out, hke, Nat.sub_self]; rfl
            show _ = _
            rw [HC.out, HWA.out, if_neg (by simp), e1, if_neg (by simp)]
          have huw := hu.trans (hB1.mono (by omega))
          clear hke
          go_wp2
          go_ret
          exact ⟨by rw [HE.out]; rfl, huw⟩

end Go.Proofs.YtpmibcdmaaagjaaDoor.Atoms


/-
  What was joined has the same tokens: plain mathematics.
-/
import Derived.Test.YtmcmmbacehldbaaDoorXJ
namespace Go.Proofs.YtmcmmbacehldbaaDoor.Toks
open Go.Proofs.YtmcmmbacehldbaaDoor.Style
open Go.Proofs.YtmcmmbacehldbaaDoor.Texts (val isDig)
set_option linter.unusedVariables false
set_option linter.unusedSimpArgs false

theorem next_sym {n : Int} {m J : List UInt8} (h : ∀ x ∈ m, kd n x = 1) (hm : m ≠ []) (hJ : ∀ c J', J = c :: J' → kd n c ≠ 1) : nextT n (m ++ J) = some ⟨1, upL (stZ n).fold m, 0, m.length⟩ := by
  have hg : goL n 1 (m ++ J) = m.length := run_app (isK n 1) m J (fun c hc => isK_yes (h c hc)) (fun c J' e => isK_ne (hJ c J' e))
  cases m with
  | nil => exact absurd rfl hm
  | cons c r =>
    have hk := h c (by simp)
    rw [List.cons_append] at hg ⊢
    simp only [nextT]
    rw [if_neg (by omega), if_pos hk, hg, ← List.cons_append, List.take_left']
    rfl
theorem next_num {n : Int} {m J : List UInt8} (h : ∀ x ∈ m, kd n x = 2) (hm : m ≠ []) (hv : val 0 m ≤ 9223372036854775807) (hJ : ∀ c J', J = c :: J' → kd n c ≠ 2) : nextT n (m ++ J) = some ⟨2, m, (val 0 m : Int), m.length⟩ := by
  have hg : goL n 2 (m ++ J) = m.length := run_app (isK n 2) m J (fun c hc => isK_yes (h c hc)) (fun c J' e => isK_ne (hJ c J' e))
  cases m with
  | nil => exact absurd rfl hm
  | cons c r =>
    have hk := h c (by simp)
    rw [List.cons_append] at hg ⊢
    simp only [nextT]
    rw [if_neg (by omega), if_neg (by omega), if_pos hk, hg, ← List.cons_append, List.take_left' rfl, if_pos hv]
theorem next_note {n : Int} {c d : UInt8} {m J : List UInt8} (hc : kd n c = 9) (h : ∀ x ∈ m, noC n x = true) (hd : kd n d = 10) (hp : plainL (stZ n) m = true) : nextT n (c :: (m ++ d :: J)) = some ⟨9, m, 0, m.length + 2⟩ := by
  have ho : offL n (m ++ d :: J) = m.length := run_app (noC n) m (d :: J) h (fun x J' e => by
    injection e with e1 e2
    subst e1
    unfold noC; rw [hd]; rfl)
  simp only [nextT]
  rw [if_neg (by omega), if_neg (by omega), if_neg (by omega), if_pos hc, ho, List.take_left' rfl, if_pos ⟨by simp, hp⟩]
theorem next_one {n : Int} {c : UInt8} (J : List UInt8) (h : kd n c ≠ 0 ∧ kd n c ≠ 10 ∧ kd n c ≠ 1 ∧ kd n c ≠ 2 ∧ kd n c ≠ 9) : nextT n (c :: J) = some ⟨kd n c, [c], 0, 1⟩ := by
  obtain ⟨a, b, d, e, f⟩ := h
  simp only [nextT]
  rw [if_neg (by omega), if_neg d, if_neg e, if_neg f]
/-- The bytes of a token that was told, and those that stood there. -/
structure RawI (n : Int) (r : List UInt8) (g : Got) (raw : List UInt8) : Prop where
  len : raw.length = g.len
  eq : raw = if g.kind = 1 then upL (stZ n).fold (r.take g.len) else r.take g.len
  again : ∀ J, (∀ c J', J = c :: J' → g.kind ≤ 2 → kd n c ≠ g.kind) → nextT n (raw ++ J) = some g
  head : ∃ c raw', raw = c :: raw' ∧ kd n c = g.kind
theorem u8_int {c : UInt8} {x : Int} (h : (c.toNat : Int) = x) : UInt8.ofNat x.toNat = c := by
  rw [← h, Int.toNat_natCast, UInt8.ofNat_toNat]
theorem raw_of {n : Int} {r : List UInt8} {g : Got} (p : Nat) (h : nextT n r = some g) : RawI n r g (rawT (stZ n) ⟨g.kind, p, g.text, g.num⟩) := by
  have hlen := next_len h
  obtain ⟨c, r, rfl⟩ := next_cons h
  rcases next_cases h with ⟨hk, rfl⟩ | ⟨hk, hv, rfl⟩ | ⟨hk, ⟨ho, hp⟩, rfl⟩ | ⟨hk, rfl⟩
  · have e : rawT (stZ n) ⟨1, p, upL (stZ n).fold ((c :: r).take (goL n 1 (c :: r))), 0⟩ = upL (stZ n).fold ((c :: r).take (goL n 1 (c :: r))) := rfl
    simp only at hlen ⊢
    rw [e]
    have hl2 : (upL (stZ n).fold ((c :: r).take (goL n 1 (c :: r)))).length = goL n 1 (c :: r) := by rw [upL_length, List.length_take]; omega
    have hall : ∀ x ∈ upL (stZ n).fold ((c :: r).take (goL n 1 (c :: r))), kd n x = 1 := by
      intro x hx
      unfold upL at hx
      obtain ⟨y, hy, rfl⟩ := List.mem_map.1 hx
      rw [kd_up1]
      exact isK_of (run_all (isK n 1) (c :: r) y hy)
    refine ⟨hl2, by rw [if_pos rfl], fun J hJ => ?_, ?_⟩
    · rw [next_sym hall (fun e0 => by rw [e0] at hl2; simp at hl2; omega) (fun c J' e1 => hJ c J' e1 (by simp)), upL_upL, hl2]
    · obtain ⟨m, hm⟩ : ∃ m, goL n 1 (c :: r) = m + 1 := ⟨goL n 1 (c :: r) - 1, by omega⟩
      rw [hm]
      exact ⟨up1 (stZ n).fold c, upL (stZ n).fold (r.take m), rfl, by rw [kd_up1]; exact hk⟩
  · have e : rawT (stZ n) ⟨2, p, (c :: r).take (goL n 2 (c :: r)), (val 0 ((c :: r).take (goL n 2 (c :: r))) : Int)⟩ = (c :: r).take (goL n 2 (c :: r)) := rfl
    simp only at hlen ⊢
    rw [e]
    have hl2 : ((c :: r).take (goL n 2 (c :: r))).length = goL n 2 (c :: r) := by rw [List.length_take]; omega
    have hall : ∀ x ∈ (c :: r).take (goL n 2 (c :: r)), kd n x = 2 := fun x hx => isK_of (run_all (isK n 2) (c :: r) x hx)
    refine ⟨hl2, by rw [if_neg (show ¬ (2 : Int) = 1 by decide)], fun J hJ => ?_, ?_⟩
    · rw [next_num hall (fun e0 => by rw [e0] at hl2; simp at hl2; omega) hv (fun c J' e1 => hJ c J' e1 (by simp)), hl2]
    · obtain ⟨m, hm⟩ : ∃ m, goL n 2 (c :: r) = m + 1 := ⟨goL n 2 (c :: r) - 1, by omega⟩
      rw [hm]
      exact ⟨c, r.take m, rfl, hk⟩
  · obtain ⟨d, r', hd⟩ : ∃ d r', r.drop (offL n r) = d :: r' := by
      cases h : r.drop (offL n r) with
      | nil =>
        have : (r.drop (offL n r)).length = 0 := by rw [h]; rfl
        rw [List.length_drop] at this
        omega
      | cons d r' => exact ⟨d, r', rfl⟩
    have hkd : kd n d = 10 := by
      have := run_stop (noC n) r d r' hd
      unfold noC at this
      simpa using this
    have e3 : r[offL n r] = d := by
      have := List.drop_eq_getElem_cons ho
      rw [hd] at this
      injection this with this _
      exact this.symm
    have e : rawT (stZ n) ⟨9, p, r.take (offL n r), 0⟩ = c :: (r.take (offL n r) ++ [d]) := by
      unfold rawT
      rw [if_pos rfl, u8_int (kd_op hk).1, u8_int (kd_cl hkd)]
    simp only at hlen ⊢
    rw [e]
    have hl2 : (r.take (offL n r)).length = offL n r := by rw [List.length_take]; omega
    refine ⟨by simp [hl2], ?_, fun J hJ => ?_, ⟨c, _, rfl, hk⟩⟩
    · rw [if_neg (show ¬ (9 : Int) = 1 by decide)]
      show _ = c :: r.take (offL n r + 1)
      rw [List.take_succ_eq_append_getElem ho, e3]
    · rw [List.cons_append, List.append_assoc]
      show nextT n (c :: (r.take (offL n r) ++ d :: J)) = _
      have hall : ∀ x ∈ r.take (offL n r), noC n x = true := run_all (noC n) r
      rw [next_note hk hall hkd hp, hl2]
  · have e : rawT (stZ n) ⟨kd n c, p, [c], 0⟩ = [c] := by unfold rawT; rw [if_neg hk.2.2.2.2]
    simp only at hlen ⊢
    rw [e]
    refine ⟨rfl, by rw [if_neg hk.2.2.1]; rfl, fun J hJ => next_one J hk, ⟨c, [], rfl, rfl⟩⟩
/-- Tokens, joined. -/
def jn (n : Int) (L : List (Tok × Nat)) : List UInt8 := joinL (stZ n) (L.map Prod.fst)
theorem jn_some {n : Int} {p : Nat} {r : List UInt8} {g : Got} (h : nextT n r = some g) : jn n (lexL n p r) = rawT (stZ n) ⟨g.kind, p, g.text, g.num⟩ ++ jn n (lexL n (p + g.len) (r.drop g.len)) := by
  unfold jn
  rw [lexL_some h]
  rfl
theorem jn_none {n : Int} {p : Nat} {r : List UInt8} (h : nextT n r = none) : jn n (lexL n p r) = [] := by
  unfold jn
  rw [lexL_none h]
  rfl
theorem jn_head {n : Int} {p : Nat} {r : List UInt8} {c : UInt8} {J : List UInt8} (h : jn n (lexL n p r) = c :: J) : ∃ c' r', r = c' :: r' ∧ kd n c = kd n c' := by
  cases hn : nextT n r with
  | none => rw [jn_none hn] at h; cases h
  | some g =>
    obtain ⟨c', r', rfl⟩ := next_cons hn
    rw [jn_some hn] at h
    obtain ⟨c1, raw', e1, e2⟩ := (raw_of p hn).head
    rw [e1, List.cons_append] at h
    injection h with h _
    subst h
    exact ⟨c', r', rfl, by rw [e2, next_kind hn]⟩
/-- P8.4. -/
theorem lex_jn (n : Int) : ∀ (k p : Nat) (r : List UInt8), r.length ≤ k → lexL n p (jn n (lexL n p r)) = lexL n p r
  | 0, p, r, h => by
    have : r = [] := List.length_eq_zero_iff.1 (by omega)
    rw [this]; rfl
  | k + 1, p, r, h => by
    cases hn : nextT n r with
    | none => rw [jn_none hn, lexL_none hn]; rfl
    | some g =>
      have hr := raw_of p hn
      have hl := next_len hn
      rw [jn_some hn]
      have ha := hr.again (jn n (lexL n (p + g.len) (r.drop g.len))) (fun c J' e hk => by
        obtain ⟨c', r', e1, e2⟩ := jn_head e
        rw [e2]
        exact next_stop hn hk c' r' e1)
      rw [lexL_some ha, lexL_some hn, List.drop_left' hr.len, lex_jn n k _ _ (by rw [List.length_drop]; omega)]
/-- How long it is, and what stands there. -/
theorem jn_at (n : Int) : ∀ (k p : Nat) (r : List UInt8), r.length ≤ k → p + (jn n (lexL n p r)).length = endL p (lexL n p r) ∧ (jn n (lexL n p r)).length ≤ r.length ∧ ∀ i, i < (jn n (lexL n p r)).length → (jn n (lexL n p r)).getD i 0 = r.getD i 0 ∨ (jn n (lexL n p r)).getD i 0 = up1 (stZ n).fold (r.getD i 0)
  | 0, p, r, h => by
    have : r = [] := List.length_eq_zero_iff.1 (by omega)
    rw [this]
    exact ⟨rfl, Nat.le_refl _, fun i hi => absurd hi (by show ¬ i < 0; omega)⟩
  | k + 1, p, r, h => by
    cases hn : nextT n r with
    | none =>
      rw [jn_none hn, lexL_none hn]
      exact ⟨rfl, by simp, fun i hi => absurd hi (by simp)⟩
    | some g =>
      have hr := raw_of p hn
      have hl := next_len hn
      obtain ⟨a1, a2, a3⟩ := jn_at n k (p + g.len) (r.drop g.len) (by rw [List.length_drop]; omega)
      rw [List.length_drop] at a2
      rw [jn_some hn, lexL_some hn, endL_cons, List.length_append, hr.len]
      refine ⟨by simp only; omega, by omega, fun i hi => ?_⟩
      by_cases hig : i < g.len
      · have e1 : (rawT (stZ n) ⟨g.kind, p, g.text, g.num⟩ ++ jn n (lexL n (p + g.len) (r.drop g.len))).getD i 0 = (rawT (stZ n) ⟨g.kind, p, g.text, g.num⟩).getD i 0 := by
          rw [List.getD_eq_getElem?_getD, List.getElem?_append_left (by rw [hr.len]; exact hig), ← List.getD_eq_getElem?_getD]
        have e2 : (r.take g.len).getD i 0 = r.getD i 0 := by
          rw [List.getD_eq_getElem?_getD, List.getElem?_take, if_pos hig, ← List.getD_eq_getElem?_getD]
        rw [e1, hr.eq]
        split
        · right
          unfold upL
          rw [← e2, List.getD_eq_getElem?_getD, List.getElem?_map, List.getD_eq_getElem?_getD, List.getElem?_eq_getElem (by rw [List.length_take]; omega)]
          rfl
        · left; exact e2
      · have e1 : (rawT (stZ n) ⟨g.kind, p, g.text, g.num⟩ ++ jn n (lexL n (p + g.len) (r.drop g.len))).getD i 0 = (jn n (lexL n (p + g.len) (r.drop g.len))).getD (i - g.len) 0 := by
          rw [List.getD_eq_getElem?_getD, List.getElem?_append_right (by rw [hr.len]; omega), hr.len, ← List.getD_eq_getElem?_getD]
        have e2 : (r.drop g.len).getD (i - g.len) 0 = r.getD i 0 := by
          rw [List.getD_eq_getElem?_getD, List.getElem?_drop, show g.len + (i - g.len) = i by omega, ← List.getD_eq_getElem?_getD]
        rw [e1, ← e2]
        exact a3 _ (by omega)
/-- A byte, as it stands or raised. -/
theorem byte_same {n : Int} {a b : UInt8} (h : a = b ∨ a = up1 (stZ n).fold b) : a = b ∨ ((n = 2 ∨ n = 4) ∧ 97 ≤ (b.toNat : Int) ∧ (b.toNat : Int) ≤ 122 ∧ (a.toNat : Int) = (b.toNat : Int) - 32) := by
  rcases h with h | h
  · exact .inl h
  · by_cases e : a = b
    · exact .inl e
    · right
      have hf : (stZ n).fold = true := by
        cases hf : (stZ n).fold with
        | true => rfl
        | false => rw [hf, up1_no] at h; exact absurd h e
      have hs : smallZ (b.toNat : Int) = true := by
        cases hs : smallZ (b.toNat : Int) with
        | true => rfl
        | false => rw [up1_other _ _ hs] at h; exact absurd h e
      have hn : n = 2 ∨ n = 4 := by
        rcases st_cases n with (rfl | rfl | rfl | rfl | rfl) | ⟨_, e1, _⟩
        · cases hf
        · exact .inl rfl
        · cases hf
        · exact .inr rfl
        · cases hf
        · rw [e1] at hf; cases hf
      have hu := up1_nat (stZ n).fold b
      rw [hf, hs] at hu
      unfold smallZ at hs
      have hs := of_decide_eq_true hs
      rw [h, hf]
      exact ⟨hn, hs.1, hs.2, hu⟩

end Go.Proofs.YtmcmmbacehldbaaDoor.Toks

/-
  The walk of LexBack.
-/
import Derived.Test.YtmcmmbacehldbaaDoorXB
namespace Go.Proofs.YtmcmmbacehldbaaDoor.Toks
open Go.RowKit
open Go.Proofs.YtmcmmbacehldbaaDoor.Style
set_option linter.unusedVariables false
set_option linter.unusedSimpArgs false

set_option maxRecDepth 100000 in
theorem same_nil (o1 o2 : Option Addr) (c1 c2 m : Nat) (w : World) (hm : m ≤ 1000) :
    Calls Tryd.prog 16 #[.slice o1 0 c1, .slice o2 m c2] w fun e w' => (∃ b, e = .returned (.bool b)) ∧ Below w.heap.size w w' := by
  have hmi : (m : Int) ≤ 1000 := by omega
  rcases Nat.eq_zero_or_pos m with h | h
  · subst h
    go_enter Tryd.func16, Tryd.ntmps16
    go_wp2
    go_loopw [5] (fun x wr => x = .int .i64 0 ∧ w = wr) (fun _ _ => 0)
    case atStart => exact ⟨rfl, rfl⟩
    case round =>
      obtain ⟨rfl, rfl⟩ := hrel
      go_wp2
      go_ret
      exact ⟨⟨_, rfl⟩, Below.refl _ _⟩
  · have hmb : ¬ (0 : Int) = m := by omega
    have hmb2 : ((0 : Int) == m) = false := by simp; omega
    go_enter Tryd.func16, Tryd.ntmps16
    go_wp2
    go_ret
    exact ⟨⟨_, rfl⟩, Below.refl _ _⟩

theorem back_facts (n : Int) (s : List UInt8) (hn : isN n = true) (hs : s.length ≤ 255) : (joinL (stZ n) (toks n s)).length = endL 0 (lexL n 0 s) ∧ toks n (joinL (stZ n) (toks n s)) = toks n s ∧ (joinL (stZ n) (toks n s)).length ≤ s.length ∧ (∀ i, i < (joinL (stZ n) (toks n s)).length → (joinL (stZ n) (toks n s)).getD i 0 = s.getD i 0 ∨ ((n = 2 ∨ n = 4) ∧ 97 ≤ ((s.getD i 0).toNat : Int) ∧ ((s.getD i 0).toNat : Int) ≤ 122 ∧ (((joinL (stZ n) (toks n s)).getD i 0).toNat : Int) = ((s.getD i 0).toNat : Int) - 32))
    ∧ ((lexErr n s = 0 ∧ lexToks n s = toks n s ∧ (joinL (stZ n) (toks n s)).length = s.length) ∨ (lexErr n s = 14 ∧ lexToks n s = [] ∧ lexAt n s = (joinL (stZ n) (toks n s)).length)) := by
  have e : joinL (stZ n) (toks n s) = jn n (lexL n 0 s) := rfl
  rw [e]
  obtain ⟨a1, a2, a3⟩ := jn_at n s.length 0 s (Nat.le_refl _)
  have hl := lex_end n s
  refine ⟨by omega, ?_, a2, fun i hi => byte_same (a3 i hi), ?_⟩
  · unfold toks
    rw [lex_jn n s.length 0 s (Nat.le_refl _)]
  · have ha : lexAt n s = endL 0 (lexL n 0 s) := by unfold lexAt; rw [if_neg (by rw [hn]; simp; omega)]
    by_cases h : endL 0 (lexL n 0 s) < s.length
    · right
      have he : lexErr n s = 14 := by unfold lexErr; rw [if_neg (by rw [hn]; simp), if_neg (by omega), if_pos h]
      exact ⟨he, by unfold lexToks; rw [he]; rfl, by omega⟩
    · left
      have he : lexErr n s = 0 := by unfold lexErr; rw [if_neg (by rw [hn]; simp), if_neg (by omega), if_neg h]
      exact ⟨he, by unfold lexToks; rw [he]; rfl, by omega⟩

attribute [local irreducible] joinL toks lexErr lexAt lexToks lexL

set_option maxRecDepth 100000 in
set_option maxHeartbeats 4000000 in
theorem back_walk (n : Int) (s0 s : List UInt8) (w : World) (hE : Env w) (hs0 : s0.length ≤ 9223372036854775807) (es : s0.take 120 = s) :
    Calls Tryd.prog 4 #[.int .i64 n, .string (bs s0)] w fun e w' => e = .returned (.bool true) ∧ Below w.heap.size w w' := by
  have hR := rest_any n 5
  have hr := restN_lt n 5 (by omega)
  generalize restN n 5 = r at hR hr
  have hri : (r : Int) < 5 := by omega
  have hs1 := fun W => short_any s0 120 W hs0 (by omega)
  rw [es] at hs1
  have ls : s.length ≤ 120 := by rw [← es, List.length_take]; omega
  have lsi : (s.length : Int) ≤ 120 := by omega
  have hzi : ((bs s).size : Int) = (s.length : Int) := by rw [bs_size]
  have hN := k_isN r hr
  have hll : (toks (1 + (r : Int)) s).length ≤ 120 := by
    unfold toks
    rw [List.length_map]
    have := lex_len (1 + (r : Int)) s
    omega
  obtain ⟨b1, b2, b3, b4, b5⟩ := back_facts (1 + (r : Int)) s hN (by omega)
  have hA := fun W hW => eachL_any (1 + (r : Int)) s W hW (by omega)
  have hJ := fun o c W hW hT => join_any (1 + (r : Int)) o c (toks (1 + (r : Int)) s) W hW hT (by omega) (by omega)
  have hA2 := fun W hW => eachL_any (1 + (r : Int)) (joinL (stZ (1 + (r : Int))) (toks (1 + (r : Int)) s)) W hW (by omega)
  have hL := fun W hW => lex_any (1 + (r : Int)) s W hW (by omega)
  have hA3 : ∀ W, Env W → Calls Tryd.prog 14 #[.int .i64 (1 + (r : Int)), .string (bs (joinL (stZ (1 + (r : Int))) (toks (1 + (r : Int)) s)))] W fun e w' => (∃ o c, e = .returned (.slice o (toks (1 + (r : Int)) s).length c) ∧ ToksAt w' (.slice o (toks (1 + (r : Int)) s).length c) (toks (1 + (r : Int)) s)) ∧ Below W.heap.size W w' := by
    intro W hW
    refine (hA2 W hW).mono ?_
    rintro e w' ⟨⟨o, c, h1, h2, _⟩, hb⟩
    rw [b2] at h1 h2
    exact ⟨⟨o, c, h1, h2⟩, hb⟩
  clear hA2 b1 b2 es hs0
  have H4 := Lib.hid b4
  have H5 := Lib.hid b5
  clear b4 b5 hN
  generalize joinL (stZ (1 + (r : Int))) (toks (1 + (r : Int)) s) = t at *
  have hti : (t.length : Int) ≤ s.length := by omega
  have hzt : ((bs t).size : Int) = (t.length : Int) := by rw [bs_size]
  go_enter Tryd.func4, Tryd.ntmps4
  go_wp2_with fail
  refine (awake_yes w hE).mono ?_
  rintro e w1 ⟨rfl, hb1⟩
  have hE1 := hE.go hb1
  go_wp2_with fail
  refine (hR w1 (by omega) (by omega)).mono ?_
  rintro e w2 ⟨rfl, rfl⟩
  go_wp2_with fail
  refine (hs1 w1).mono ?_
  rintro e w2 ⟨rfl, rfl⟩
  go_wp2_with fail
  refine (hA w1 hE1).mono ?_
  rintro e w3 ⟨⟨o, c, rfl, hT, _⟩, hb3⟩
  have hB3 := hb1.trans (hb3.mono hb1.size)
  clear hb1 hb3 hE1
  go_wp2_with fail
  refine (hJ o c w3 (hE.go hB3) hT).mono ?_
  rintro e w4 ⟨rfl, hb4⟩
  have hB4 := hB3.trans (hb4.mono hB3.size)
  have hT4 := hT.go hb4
  clear hT hb4 hB3
  go_wp2_with fail
  refine (hA3 w4 (hE.go hB4)).mono ?_
  rintro e w5 ⟨⟨o2, c2, rfl, hT2⟩, hb5⟩
  have hB5 := hB4.trans (hb5.mono hB4.size)
  have hT5 := hT4.go hb5
  clear hT4 hb5 hB4
  generalize toks (1 + (r : Int)) s = L at *
  go_wp2_with fail
  refine (same_yes L o2 o c2 c w5 hT2 hT5 (by omega)).mono ?_
  rintro e w6 ⟨rfl, hb6⟩
  have hB6 := hB5.trans (hb6.mono hB5.size)
  have hT6 := hT5.go hb6
  clear hT5 hT2 hb6 hB5 hA hA3 hJ hs1 hR
  go_wp2_with fail
  rw [show decide (s.length < t.length) = false from decide_eq_false (by omega)]
  go_loopw [10] (fun x wr => ∃ i : Nat, x = .int .i64 i ∧ i ≤ t.length ∧ ToksAt wr (.slice o L.length c) L ∧ Below w.heap.size w wr) (fun x _ => (t.length - intOf x).toNat)
  case atStart => exact ⟨0, rfl, by omega, hT6, hB6⟩
  case round =>
    clear hT6 hB6
    obtain ⟨i, rfl, hi, hT6, hB6⟩ := hrel
    by_cases hil : i < t.length
    · have hii : (i : Int) < t.length := by omega
      have hii2 : (i : Int) < s.length := by omega
      have hib : i < (bs t).size := by rw [bs_size]; exact hil
      have hib2 : i < (bs s).size := by rw [bs_size]; omega
      have h4 := H4.out i hil
      obtain ⟨a, ha⟩ : ∃ a, t.getD i 0 = a := ⟨_, rfl⟩
      obtain ⟨b, hb⟩ : ∃ b, s.getD i 0 = b := ⟨_, rfl⟩
      rw [ha, hb] at h4
      have hac : (bs t)[i] = a := (bs_at t i hib).trans ha
      have hbc : (bs s)[i] = b := (bs_at s i hib2).trans hb
      clear ha hb H4 H5 hL
      rcases h4 with h | ⟨hk, h1, h2, h3⟩
      · subst h
        go_upto_region 11 with fail
        go_quiet (fail)
        go_wp2
        go_roundw
        case rel => exact ⟨i + 1, rfl, by omega, hT6.go (drawsN (Below.refl _ _) _), drawsN hB6 _⟩
        case measure => simp only [intOf]; omega
      · have e1 : (((b.toNat : Int) - 32) == (b.toNat : Int)) = false := by simp; omega
        have e2 : ¬ (((b.toNat : Int) - 32) = (b.toNat : Int)) := by omega
        have hw : IntKind.u8.wrap ((b.toNat : Int) - 32) = (b.toNat : Int) - 32 := by unfold IntKind.wrap; simp [IntKind.bits, IntKind.signed]; omega
        have l1 : ¬ (b.toNat : Int) < 97 := by omega
        have l2 : ¬ 122 < (b.toNat : Int) := by omega
        have hkb : (2 : Int) = 1 + (r : Int) ∨ (¬ (1 + (r : Int) = 2) ∧ (4 : Int) = 1 + (r : Int)) := by
          rcases hk with hk | hk
          · left; omega
          · right; omega
        clear hk
        rcases hkb with k2 | ⟨k2, k4⟩
        all_goals
          go_upto_region 11 with fail
          go_quiet (fail)
          go_wp2
          go_roundw
          case rel => exact ⟨i + 1, rfl, by omega, hT6.go (drawsN (Below.refl _ _) _), drawsN hB6 _⟩
          case measure => simp only [intOf]; omega
    · have hii : ¬ (i : Int) < t.length := by omega
      have hL6 := hL wr (hE.go hB6)
      go_wp2_with fail
      refine hL6.mono ?_
      rintro e w7 ⟨⟨o3, c3, rfl, hT3, _⟩, hb7⟩
      have hB7 := hB6.trans (hb7.mono hB6.size)
      have hT7 := hT6.go hb7
      clear hT6 hb7 hB6 hL6 hL H4
      rcases H5.out with ⟨f1, f2, f3⟩ | ⟨f1, f2, f3⟩
      · rw [f1, f2]
        rw [f2] at hT3
        have hf3 : (t.length : Int) = s.length := by omega
        have hf4 : ((t.length : Int) == s.length) = true := by simp; omega
        clear H5 f1 f2
        go_wp2_with fail
        refine (same_yes L o3 o c3 c w7 hT3 hT7 (by omega)).mono ?_
        rintro e w8 ⟨rfl, hb8⟩
        go_wp2
        go_ret
        exact ⟨by first | rfl | simp [hf4], hB7.trans (hb8.mono hB7.size)⟩
      · rw [f1, f2, f3]
        clear H5 f1 f2 f3
        go_wp2_with fail
        refine (same_nil o3 o c3 c L.length w7 (by omega)).mono ?_
        rintro e w8 ⟨⟨bb, rfl⟩, hb8⟩
        go_wp2
        go_ret
        exact ⟨by first | rfl | simp, hB7.trans (hb8.mono hB7.size)⟩

theorem len_bk (s : ByteArray) (h : s.size ≤ maxLen) : s.data.toList.length ≤ 9223372036854775807 := by
  have : s.data.toList.length = s.size := by rw [Array.length_toList]; rfl
  have hm : maxLen ≤ 9223372036854775807 := by decide
  omega
theorem back_law (n : Int) (s : ByteArray) (w : World) (hE : Env w) (hn : -9223372036854775808 ≤ n ∧ n ≤ 9223372036854775807) (hs : s.size ≤ maxLen) :
    Calls Tryd.prog 4 #[.int .i64 n, .string s] w fun e w' => e = .returned (.bool true) ∧ Below w.heap.size w w' := by
  have h := back_walk n s.data.toList _ w hE (len_bk s hs) rfl
  rw [bs_of] at h
  exact h

end Go.Proofs.YtmcmmbacehldbaaDoor.Toks

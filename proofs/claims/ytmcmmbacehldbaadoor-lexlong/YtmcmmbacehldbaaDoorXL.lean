/-
  The walk of LexLong.
-/
import Derived.Test.YtmcmmbacehldbaaDoorXN
namespace Go.Proofs.YtmcmmbacehldbaaDoor.Toks
open Go.RowKit
open Go.Proofs.YtmcmmbacehldbaaDoor.Style
set_option linter.unusedVariables false
set_option linter.unusedSimpArgs false

set_option maxRecDepth 100000 in
set_option maxHeartbeats 4000000 in
theorem long_walk (n many : Int) (w : World) (hE : Env w) :
    Calls Tryd.prog 8 #[.int .i64 n, .int .i64 many] w fun e w' => e = .returned (.bool true) ∧ Below w.heap.size w w' := by
  have hR := rest_any n 5
  have hr := restN_lt n 5 (by omega)
  generalize restN n 5 = r at hR hr
  have hR2 := rest_any many 301
  have hm := restN_lt many 301 (by omega)
  generalize restN many 301 = m at hR2 hm
  have hN := k_isN r hr
  have hri : (r : Int) < 5 := by omega
  have hmi : (m : Int) < 301 := by omega
  have HF : Hid (∀ W, Env W → Calls Tryd.prog 17 #[.int .i64 (1 + (r : Int)), .string (bs (List.replicate m 77))] W fun e w' => (∃ o c, e = .returned (.tuple #[.slice o (if m ≤ 255 then min m 1 else 0) c, .int .i64 ((if m ≤ 255 then m else 0 : Nat) : Int), .int .i64 (if m ≤ 255 then 0 else 12)])) ∧ Below W.heap.size W w') := by
    intro W hW
    refine (lex_any (1 + (r : Int)) (List.replicate m 77) W hW (by rw [List.length_replicate]; omega)).mono ?_
    rintro e w1 ⟨⟨o, c, rfl, _, _⟩, hb⟩
    refine ⟨⟨o, c, ?_⟩, hb⟩
    by_cases h : m ≤ 255
    · obtain ⟨a, b, d⟩ := long_all hN m h
      rw [a, b, d, if_pos h, if_pos h, if_pos h]
    · obtain ⟨a, b, d⟩ := long_over hN m (by omega)
      rw [a, b, d, if_neg h, if_neg h, if_neg h]
  clear hN
  go_enter Tryd.func8, Tryd.ntmps8
  go_wp2_with fail
  refine (awake_yes w hE).mono ?_
  rintro e w1 ⟨rfl, hb1⟩
  have hE1 := hE.go hb1
  go_wp2_with fail
  refine (hR w1 (by omega) (by omega)).mono ?_
  rintro e w2 ⟨rfl, rfl⟩
  go_wp2_with fail
  refine (hR2 w1 (by omega) (by omega)).mono ?_
  rintro e w2 ⟨rfl, rfl⟩
  go_wp2_with fail
  go_loopw [8, 9] (fun a b wr => ∃ k : Nat, a = .string (bs (List.replicate k 77)) ∧ b = .int .i64 k ∧ k ≤ m ∧ w1 = wr) (fun _ b _ => (m - intOf b).toNat)
  case atStart => exact ⟨0, rfl, rfl, by omega, rfl⟩
  case round =>
    obtain ⟨k, rfl, rfl, hk, rfl⟩ := hrel
    by_cases hkl : k < m
    · have hki : (k : Int) < m := by omega
      have z1 : (bs (List.replicate k 77)).size ≤ 1000 := by rw [bs_size, List.length_replicate]; omega
      have HA : Hid (bs (List.replicate k 77) ++ bs [77] = bs (List.replicate (k + 1) 77)) := by
        show _ = _
        rw [bs_app, List.replicate_succ']
      go_wp2
      refine ⟨⟨k + 1, ?_, rfl, by omega, trivial⟩, by simp only [intOf]; omega⟩
      rw [← HA.out]; rfl
    · have hki : ¬ (k : Int) < m := by omega
      have hkm : k = m := by omega
      subst hkm
      have hL := HF.out w1 hE1
      by_cases h : k ≤ 255
      · simp only [if_pos h] at hL
        have h5 : ¬ (255 : Int) < k := by omega
        clear HF
        go_wp2_with fail
        refine hL.mono ?_
        rintro e w2 ⟨⟨o, c, rfl⟩, hb2⟩
        rcases Nat.eq_zero_or_pos k with h0 | h0
        · subst h0
          go_wp2
          go_ret
          exact ⟨rfl, hb1.trans (hb2.mono hb1.size)⟩
        · have e1 : min k 1 = 1 := by omega
          have h1i : (1 : Int) ≤ k := by omega
          rw [e1]
          clear e1
          by_cases h2 : k = 1
          · subst h2
            go_wp2
            go_ret
            exact ⟨rfl, hb1.trans (hb2.mono hb1.size)⟩
          · have h2i : ¬ (k : Int) ≤ 1 := by omega
            go_wp2
            go_ret
            exact ⟨by first | rfl | (simp; omega), hb1.trans (hb2.mono hb1.size)⟩
      · simp only [if_neg h] at hL
        have h5 : (255 : Int) < k := by omega
        clear HF
        go_wp2_with fail
        refine hL.mono ?_
        rintro e w2 ⟨⟨o, c, rfl⟩, hb2⟩
        go_wp2
        go_ret
        exact ⟨rfl, hb1.trans (hb2.mono hb1.size)⟩

theorem long_law (n many : Int) (w : World) (hE : Env w) (hn : -9223372036854775808 ≤ n ∧ n ≤ 9223372036854775807) (hm : -9223372036854775808 ≤ many ∧ many ≤ 9223372036854775807) :
    Calls Tryd.prog 8 #[.int .i64 n, .int .i64 many] w fun e w' => e = .returned (.bool true) ∧ Below w.heap.size w w' := long_walk n many w hE

end Go.Proofs.YtmcmmbacehldbaaDoor.Toks

/-
  Contracts of drachmlaw08.rest, short, awake.
-/
import Derived.Test.YtnkfjbfllcdkbaaDoorX5
namespace Go.Proofs.YtnkfjbfllcdkbaaDoor.Toks
open Go.RowKit
open Go.Proofs.YtnkfjbfllcdkbaaDoor.Style
set_option linter.unusedVariables false
set_option linter.unusedSimpArgs false

set_option maxRecDepth 100000 in
theorem rest_any (x : Int) (n : Nat) (w : World) (h : 1 ≤ n) (hn : n ≤ 1000000) :
    Calls Tryd.prog 6 #[.int .i64 x, .int .i64 n] w fun e w' => e = .returned (.int .i64 (restN x n)) ∧ w = w' := by
  have hn0 : (0 : Int) < n := by omega
  have hnn : ¬ (n : Int) = 0 := by omega
  have hle : (n : Int) ≤ 1000000 := by omega
  have hl : -(n : Int) < x.tmod n := Int.lt_tmod_of_pos x hn0
  have hr : x.tmod n < n := Int.tmod_lt_of_pos x hn0
  have HE := Lib.hid (rest_eq x n)
  have HN : Hid (((restN x n : Nat) : Int) = x % (n : Int)) := by
    show _ = _
    have := Int.emod_nonneg x hnn
    unfold restN; omega
  go_enter Tryd.func6, Tryd.ntmps6
  go_wp2
  go_ret
  exact ⟨by rw [HE.out, HN.out]; rfl, rfl⟩
theorem restN_lt (x : Int) (n : Nat) (h : 0 < n) : restN x n < n := by
  have h1 := Int.emod_lt_of_pos x (show (0 : Int) < n by omega)
  have h2 := Int.emod_nonneg x (show (n : Int) ≠ 0 by omega)
  unfold restN; omega

set_option maxRecDepth 100000 in
theorem short_any (s : List UInt8) (m : Nat) (w : World) (hl : s.length ≤ 9223372036854775807) (hm : m ≤ 1000000) :
    Calls Tryd.prog 5 #[.string (bs s), .int .i64 (m : Int)] w fun e w' => e = .returned (.string (bs (s.take m))) ∧ w = w' := by
  have hzi : ((bs s).size : Int) = (s.length : Int) := by rw [bs_size]
  have hmi : (m : Int) ≤ 1000000 := by omega
  by_cases h : m < s.length
  · have hb : (m : Int) < s.length := by omega
    have hmb : (m : Int) ≤ s.length := by omega
    have he := bs_extract s 0 m (by omega)
    rw [List.drop_zero] at he
    go_enter Tryd.func5, Tryd.ntmps5
    go_wp2
    go_ret
    exact ⟨by rw [← he]; rfl, rfl⟩
  · have hb : ¬ (m : Int) < s.length := by omega
    rw [List.take_of_length_le (by omega)]
    go_enter Tryd.func5, Tryd.ntmps5
    go_wp2
    go_ret
    exact ⟨rfl, rfl⟩

theorem ex_one : lexErr 1 [109, 109, 111, 108, 47, 108, 123, 120, 32, 121, 125] = 0 ∧ lexAt 1 [109, 109, 111, 108, 47, 108, 123, 120, 32, 121, 125] = 11 ∧ lexToks 1 [109, 109, 111, 108, 47, 108, 123, 120, 32, 121, 125] = [⟨1, 0, [109, 109, 111, 108], 0⟩, ⟨5, 4, [47], 0⟩, ⟨1, 5, [108], 0⟩, ⟨9, 6, [120, 32, 121], 0⟩] := by decide +kernel
theorem ex_two : lexErr 1 [109, 32] = 14 ∧ lexAt 1 [109, 32] = 1 ∧ lexToks 1 [109, 32] = [] := by decide +kernel

set_option maxRecDepth 100000 in
set_option maxHeartbeats 1000000 in
theorem awake_yes (w : World) (hE : Env w) : Calls Tryd.prog 4 #[] w fun e w' => e = .returned (.bool true) ∧ Below w.heap.size w w' := by
  have hj : ((bs [120, 32, 121]).toList == [120, 32, 121]) = true := by rw [bs_toList]; rfl
  obtain ⟨a1, a2, a3⟩ := ex_one
  obtain ⟨b1, b2, b3⟩ := ex_two
  have h1 := lex_any 1 [109, 109, 111, 108, 47, 108, 123, 120, 32, 121, 125] w hE (by decide)
  have h2 := fun W (h : Env W) => lex_any 1 [109, 32] W h (by decide)
  go_enter Tryd.func4, Tryd.ntmps4
  go_wp2_with fail
  refine h1.mono ?_
  rintro e w1 ⟨⟨o, c, rfl, hT, hA⟩, hb1⟩
  rw [a1, a2, a3]
  rw [a3] at hT hA
  clear h1 a1 a2 a3
  obtain ⟨b, rfl, hg⟩ : ∃ b, o = some ⟨b, 0, none⟩ ∧ Grid w1 b 4 4 (cellK [⟨1, 0, [109, 109, 111, 108], 0⟩, ⟨5, 4, [47], 0⟩, ⟨1, 5, [108], 0⟩, ⟨9, 6, [120, 32, 121], 0⟩]) := by
    rcases hT with ⟨h0, _⟩ | ⟨b, c', hs, _, _, hg⟩
    · cases h0
    · injection hs with e1 e2 e3
      exact ⟨b, e1, hg⟩
  have hE1 := hE.go hb1
  go_wp2_with fail
  refine (h2 w1 hE1).mono ?_
  rintro e w2 ⟨⟨o2, c2, rfl, hT2, hA2⟩, hb2⟩
  rw [b1, b2, b3]
  have hg2 := hg.go hb2
  obtain ⟨x0, x1, x2, x3⟩ := tok_cells hg2 3 (by omega) ⟨9, 6, [120, 32, 121], 0⟩ rfl
  simp only [Nat.reduceMul, Nat.reduceAdd] at x0 x1 x2 x3
  clear h2 b1 b2 b3 hT hT2 hg hg2
  go_wp2
  go_ret
  exact ⟨rfl, hb1.trans (hb2.mono hb1.size)⟩

end Go.Proofs.YtnkfjbfllcdkbaaDoor.Toks

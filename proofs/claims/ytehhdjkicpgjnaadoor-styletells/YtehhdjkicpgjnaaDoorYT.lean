/-
  The walk of StyleTells.
-/
import Derived.Test.YtehhdjkicpgjnaaDoorY9
import Derived.Test.YtehhdjkicpgjnaaDoorY5
namespace Go.Proofs.YtehhdjkicpgjnaaDoor.Style
open Go.RowKit
set_option linter.unusedVariables false
set_option linter.unusedSimpArgs false

theorem rest_lt (x : Int) (n : Nat) (h : 0 < n) : restN x n < n := by
  have h1 := Int.emod_lt_of_pos x (show (0 : Int) < n by omega)
  have h2 := Int.emod_nonneg x (show (n : Int) ≠ 0 by omega)
  unfold restN; omega

set_option maxRecDepth 100000 in
set_option maxHeartbeats 4000000 in
theorem tells_walk (n c : Int) (s0 s : List UInt8) (w : World) (hS : Styles w) (h0 : 0 ≤ c) (h1 : c ≤ 255) (hs : s0.length ≤ 9223372036854775807) (es : s0.take 60 = s) :
    Calls Tryd.prog 3 #[.int .i64 n, .int .u8 c, .string (bs s0)] w fun e w' => e = .returned (.bool true) ∧ Below w.heap.size w w' := by
  have ls : s.length ≤ 60 := by rw [← es, List.length_take]; omega
  have hR := rest_any n 8
  have hr := rest_lt n 8 (by omega)
  generalize restN n 8 = r at hR hr
  have hri : (r : Int) < 8 := by omega
  have hs1 := fun W => short_any s0 W hs
  rw [es] at hs1
  have hT := fun k W (h : Styles W) => tells_yes k c s W h h0 h1 ls
  clear es hs
  go_enter Tryd.func3, Tryd.ntmps3
  go_wp2_with fail
  refine (awake_yes w hS).mono ?_
  rintro e w1 ⟨rfl, hb1⟩
  have hS1 := hS.go hb1
  go_wp2_with fail
  refine (hs1 w1).mono ?_
  rintro e w2 ⟨rfl, rfl⟩
  go_wp2_with fail
  refine (hT n w1 hS1).mono ?_
  rintro e w2 ⟨rfl, hb2⟩
  have hS2 := hS1.go hb2
  have hB2 := hb1.trans (hb2.mono hb1.size)
  go_wp2_with fail
  refine (hR w2 (by omega) (by omega)).mono ?_
  rintro e w3 ⟨rfl, rfl⟩
  go_wp2_with fail
  refine (hs1 w2).mono ?_
  rintro e w3 ⟨rfl, rfl⟩
  go_wp2_with fail
  refine (hT ((r : Int) - 1) w2 hS2).mono ?_
  rintro e w3 ⟨rfl, hb3⟩
  go_wp2
  go_ret
  exact ⟨rfl, hB2.trans (hb3.mono hB2.size)⟩

theorem len_of3 (s : ByteArray) (h : s.size ≤ maxLen) : s.data.toList.length ≤ 9223372036854775807 := by
  have : s.data.toList.length = s.size := by rw [Array.length_toList]; rfl
  have hm : maxLen ≤ 9223372036854775807 := by decide
  omega
theorem tells_law (n c : Int) (s : ByteArray) (w : World) (hS : Styles w) (hn : -9223372036854775808 ≤ n ∧ n ≤ 9223372036854775807) (hc : 0 ≤ c ∧ c ≤ 255) (hs : s.size ≤ maxLen) :
    Calls Tryd.prog 3 #[.int .i64 n, .int .u8 c, .string s] w fun e w' => e = .returned (.bool true) ∧ Below w.heap.size w w' := by
  have h := tells_walk n c s.data.toList _ w hS hc.1 hc.2 (len_of3 s hs) rfl
  rw [bs_of] at h
  exact h

end Go.Proofs.YtehhdjkicpgjnaaDoor.Style

/-
  Contracts of drachmlaw07.awake, rest, short.
-/
import Derived.Test.YtehhdjkicpgjnaaDoorY4
import Derived.Test.YtehhdjkicpgjnaaDoorY1
namespace Go.Proofs.YtehhdjkicpgjnaaDoor.Style
open Go.RowKit
set_option linter.unusedVariables false
set_option linter.unusedSimpArgs false

theorem ex_one : kindZ 3 42 = 4 := by decide
theorem ex_two : kindZ 1 42 = 0 := by decide
theorem ex_three : upL (stZ 4).fold [109, 111, 108] = [77, 79, 76] := by decide
attribute [local irreducible] kindZ upL stZ

set_option maxRecDepth 100000 in
set_option maxHeartbeats 1000000 in
theorem awake_yes (w : World) (hS : Styles w) : Calls Tryd.prog 7 #[] w fun e w' => e = .returned (.bool true) ∧ Below w.heap.size w w' := by
  have hj : ((bs [77, 79, 76]).toList == [77, 79, 76]) = true := by rw [bs_toList]; rfl
  go_enter Tryd.func7, Tryd.ntmps7
  go_wp2_with fail
  refine (kind_any 3 42 w hS (by omega) (by omega)).mono ?_
  rintro e w1 ⟨rfl, hb1⟩
  have hS1 := hS.go hb1
  rw [ex_one]
  go_wp2_with fail
  refine (kind_any 1 42 w1 hS1 (by omega) (by omega)).mono ?_
  rintro e w2 ⟨rfl, hb2⟩
  have hS2 := hS1.go hb2
  rw [ex_two]
  go_wp2_with fail
  refine (raise_any 4 [109, 111, 108] w2 hS2 (by decide)).mono ?_
  rintro e w3 ⟨rfl, hb3⟩
  rw [ex_three]
  go_wp2
  go_ret
  exact ⟨rfl, (hb1.trans (hb2.mono hb1.size)).trans (hb3.mono (Nat.le_trans hb1.size hb2.size))⟩

def restN (x : Int) (n : Nat) : Nat := (x % (n : Int)).toNat
theorem rest_eq (x : Int) (n : Nat) : (x.tmod n + n) % (n : Int) = x % (n : Int) := by
  have h := Int.mul_tdiv_add_tmod x n
  rw [Int.add_emod_right]
  calc x.tmod n % n = (x.tmod n + n * x.tdiv n) % n := by rw [Int.add_mul_emod_self_left]
    _ = x % n := by rw [Int.add_comm, h]

set_option maxRecDepth 100000 in
theorem rest_any (x : Int) (n : Nat) (w : World) (h : 1 ≤ n) (hn : n ≤ 1000000) :
    Calls Tryd.prog 10 #[.int .i64 x, .int .i64 n] w fun e w' => e = .returned (.int .i64 (restN x n)) ∧ w = w' := by
  have hn0 : (0 : Int) < n := by omega
  have hnn : ¬ (n : Int) = 0 := by omega
  have hle : (n : Int) ≤ 1000000 := by omega
  have hl : -(n : Int) < x.tmod n := Int.lt_tmod_of_pos x hn0
  have hr : x.tmod n < n := Int.tmod_lt_of_pos x hn0
  have HE := Lib.hid (rest_eq x n)
  have HN : Hid (((restN x n : Nat) : Int) = x % (n : Int)) := by
    show _ = _
    have := Int.emod_nonneg x hnn
    unfold restN; omega
  go_enter Tryd.func10, Tryd.ntmps10
  go_wp2
  go_ret
  exact ⟨by rw [HE.out, HN.out]; rfl, rfl⟩

theorem bs_extract (l : List UInt8) (i j : Nat) (hj : j ≤ l.length) : (bs l).extract i j = bs ((l.take j).drop i) := by
  apply ByteArray.ext
  simp [bs, ByteArray.data_extract]
  rw [List.take_drop]
  by_cases h : i ≤ j
  · congr 2; omega
  · rw [List.drop_eq_nil_of_le (by rw [List.length_take]; omega), List.drop_eq_nil_of_le (by rw [List.length_take]; omega)]

set_option maxRecDepth 100000 in
theorem short_any (s : List UInt8) (w : World) (hl : s.length ≤ 9223372036854775807) :
    Calls Tryd.prog 9 #[.string (bs s)] w fun e w' => e = .returned (.string (bs (s.take 60))) ∧ w = w' := by
  have hzi : ((bs s).size : Int) = (s.length : Int) := by rw [bs_size]
  by_cases h : 60 < s.length
  · have hb : (60 : Int) < s.length := by omega
    have he := bs_extract s 0 60 (by omega)
    rw [List.drop_zero] at he
    go_enter Tryd.func9, Tryd.ntmps9
    go_wp2
    go_ret
    all_goals trace_state
    exact ⟨by rw [← he]; rfl, rfl⟩
  · have hb : ¬ (60 : Int) < s.length := by omega
    rw [List.take_of_length_le (by omega)]
    go_enter Tryd.func9, Tryd.ntmps9
    go_wp2
    go_ret
    exact ⟨rfl, rfl⟩

end Go.Proofs.YtehhdjkicpgjnaaDoor.Style

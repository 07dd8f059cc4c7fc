/-
  Contracts of drachmlaw07.awake, rest, short.
-/
import Derived.Test.YtnkfjbfllcdkbaaDoorY4
import Derived.Test.YtnkfjbfllcdkbaaDoorY1
namespace Go.Proofs.YtnkfjbfllcdkbaaDoor.Style
open Go.RowKit
set_option linter.unusedVariables false
set_option linter.unusedSimpArgs false

theorem ex_one : kindZ 3 42 = 4 := by decide
theorem ex_two : kindZ 1 42 = 0 := by decide
theorem ex_three : upL (stZ 4).fold [109, 111, 108] = [77, 79, 76] := by decide
attribute [local irreducible] kindZ upL stZ

def restN (x : Int) (n : Nat) : Nat := (x % (n : Int)).toNat
theorem rest_eq (x : Int) (n : Nat) : (x.tmod n + n) % (n : Int) = x % (n : Int) := by
  have h := Int.mul_tdiv_add_tmod x n
  rw [Int.add_emod_right]
  calc x.tmod n % n = (x.tmod n + n * x.tdiv n) % n := by rw [Int.add_mul_emod_self_left]
    _ = x % n := by rw [Int.add_comm, h]

theorem bs_extract (l : List UInt8) (i j : Nat) (hj : j ≤ l.length) : (bs l).extract i j = bs ((l.take j).drop i) := by
  apply ByteArray.ext
  simp [bs, ByteArray.data_extract]
  rw [List.take_drop]
  by_cases h : i ≤ j
  · congr 2; omega
  · rw [List.drop_eq_nil_of_le (by rw [List.length_take]; omega), List.drop_eq_nil_of_le (by rw [List.length_take]; omega)]

end Go.Proofs.YtnkfjbfllcdkbaaDoor.Style

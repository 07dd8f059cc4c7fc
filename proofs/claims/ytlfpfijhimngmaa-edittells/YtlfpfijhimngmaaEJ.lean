/-
  drachmlaw16.EditTells.
-/
import Derived.Test.YtlfpfijhimngmaaEI
import Derived.Test.YtlfpfijhimngmaaEH
namespace Go.Proofs.Ytlfpfijhimngmaa.Edits
open Go.RowKit
set_option linter.unusedVariables false
set_option linter.unusedSimpArgs false

theorem and_three (x : Int) : 0 ≤ bits .and .i64 x 3 ∧ bits .and .i64 x 3 ≤ 3 := by
  have h : (BitVec.ofInt 64 x &&& BitVec.ofInt 64 3).toNat ≤ 3 := by
    rw [BitVec.toNat_and]
    exact Nat.le_trans Nat.and_le_right (by decide)
  have e : bits .and .i64 x 3 = IntKind.i64.wrap ((BitVec.ofInt 64 x &&& BitVec.ofInt 64 3).toNat : Int) := rfl
  rw [e, wrap_low _ (by omega)]
  omega

set_option maxRecDepth 100000 in
set_option maxHeartbeats 2000000 in
theorem tells_walk (a b : List UInt8) (k : Int) (w : World) (ha : a.length ≤ 9223372036854775807) (hb : b.length ≤ 9223372036854775807) (hk0 : -9223372036854775808 ≤ k) (hk1 : k ≤ 9223372036854775807) :
    Calls Try.prog 3 #[.string (bs a), .string (bs b), .int .i64 k] w fun e w' => e = .returned (.bool true) ∧ Below w.heap.size w w' := by
  have hsa := fun W => short_any a W ha
  have hsb := fun W => short_any b W hb
  have la : (a.take 24).length ≤ 24 := by rw [List.length_take]; omega
  have lb : (b.take 24).length ≤ 24 := by rw [List.length_take]; omega
  generalize a.take 24 = x at *
  generalize b.take 24 = y at *
  clear ha hb
  have hbi := and_three k
  have hr := fun W => rdist_any x y W (by omega) (by omega)
  have hd := fun W => distance_any x y W (by omega) (by omega)
  have h1 := fun W => within_any x y k W (by omega) (by omega) hk0 hk1
  have h2 := fun W => within_any x y (bits .and .i64 k 3) W (by omega) (by omega) (by omega) (by omega)
  have hdl : 0 ≤ ((lev x y : Nat) : Int) := by omega
  generalize ((lev x y : Nat) : Int) = d at *
  obtain ⟨k3, hk3⟩ : ∃ k3, bits .and .i64 k 3 = k3 := ⟨_, rfl⟩
  rw [hk3] at hbi h2
  have HR := Lib.hid hr
  have HD := Lib.hid hd
  have H1 := Lib.hid h1
  have H2 := Lib.hid h2
  clear hr hd h1 h2
  go_enter Try.func3, Try.ntmps3
  go_wp2_with fail
  refine (awake_yes _).mono ?_
  rintro e w1 ⟨rfl, hB1⟩
  go_wp2_with fail
  refine (hsa _).mono ?_
  rintro e w2 ⟨rfl, rfl⟩
  go_wp2_with fail
  refine (hsb _).mono ?_
  rintro e w2 ⟨rfl, rfl⟩
  clear hsa hsb
  go_wp2_with fail
  refine (HR.out _).mono ?_
  rintro e w2 ⟨rfl, hB2⟩
  replace hB1 := hB1.trans (hB2.mono hB1.size)
  clear hB2 HR
  go_wp2_with fail
  refine (H1.out _).mono ?_
  rintro e w3 ⟨hE1, hB2⟩
  replace hB1 := hB1.trans (hB2.mono hB1.size)
  clear hB2 H1
  rcases hE1 with ⟨q1, rfl⟩ | ⟨q1, rfl⟩
  · have p1 : decide (d ≤ k) = true := decide_eq_true q1
    go_wp2_with fail
    refine (H2.out _).mono ?_
    rintro e w4 ⟨hE2, hB2⟩
    replace hB1 := hB1.trans (hB2.mono hB1.size)
    clear hB2 H2
    rcases hE2 with ⟨q2, rfl⟩ | ⟨q2, rfl⟩
    · have p2 : decide (d ≤ k3) = true := decide_eq_true q2
      go_wp2_with fail
      refine (HD.out _).mono ?_
      rintro e w5 ⟨rfl, hB2⟩
      have HB := Lib.hid (hB1.trans (hB2.mono hB1.size))
      clear hB1 hB2 HD
      go_wp2
      go_ret
      exact ⟨rfl, HB.out⟩
    · have p2 : decide (d ≤ k3) = false := decide_eq_false (by omega)
      have p2n : ¬ d ≤ k3 := by omega
      go_wp2_with fail
      refine (HD.out _).mono ?_
      rintro e w5 ⟨rfl, hB2⟩
      have HB := Lib.hid (hB1.trans (hB2.mono hB1.size))
      clear hB1 hB2 HD
      go_wp2
      go_ret
      exact ⟨rfl, HB.out⟩
  · have p1 : decide (d ≤ k) = false := decide_eq_false (by omega)
    have p1n : ¬ d ≤ k := by omega
    go_wp2_with fail
    refine (H2.out _).mono ?_
    rintro e w4 ⟨hE2, hB2⟩
    replace hB1 := hB1.trans (hB2.mono hB1.size)
    clear hB2 H2
    rcases hE2 with ⟨q2, rfl⟩ | ⟨q2, rfl⟩
    · have p2 : decide (d ≤ k3) = true := decide_eq_true q2
      go_wp2_with fail
      refine (HD.out _).mono ?_
      rintro e w5 ⟨rfl, hB2⟩
      have HB := Lib.hid (hB1.trans (hB2.mono hB1.size))
      clear hB1 hB2 HD
      go_wp2
      go_ret
      exact ⟨rfl, HB.out⟩
    · have p2 : decide (d ≤ k3) = false := decide_eq_false (by omega)
      have p2n : ¬ d ≤ k3 := by omega
      go_wp2_with fail
      refine (HD.out _).mono ?_
      rintro e w5 ⟨rfl, hB2⟩
      have HB := Lib.hid (hB1.trans (hB2.mono hB1.size))
      clear hB1 hB2 HD
      go_wp2
      go_ret
      exact ⟨rfl, HB.out⟩

theorem tells_law (a b : ByteArray) (k : Int) (w : World) (ha : a.size ≤ maxLen) (hb : b.size ≤ maxLen) (hk : -9223372036854775808 ≤ k ∧ k ≤ 9223372036854775807) :
    Calls Try.prog 3 #[.string a, .string b, .int .i64 k] w fun e w' => e = .returned (.bool true) ∧ Below w.heap.size w w' := by
  rw [← bs_of a, ← bs_of b]
  exact tells_walk _ _ k w (len_of a ha) (len_of b hb) hk.1 hk.2

end Go.Proofs.Ytlfpfijhimngmaa.Edits

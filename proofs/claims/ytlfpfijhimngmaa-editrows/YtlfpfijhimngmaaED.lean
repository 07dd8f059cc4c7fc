/-
  drachmlaw16.EditMetric.
-/
import Derived.Test.YtlfpfijhimngmaaEC
namespace Go.Proofs.Ytlfpfijhimngmaa.Edits
open Go.RowKit
set_option linter.unusedVariables false
set_option linter.unusedSimpArgs false

theorem lev_mmol : lev [109, 109, 111, 108] [109, 111, 108, 47, 108] = 3 := by
  simp [lev, off]

set_option maxRecDepth 100000 in
set_option maxHeartbeats 1000000 in
theorem awake_yes (w : World) : Calls Try.prog 9 #[] w fun e w' => e = .returned (.bool true) ∧ Below w.heap.size w w' := by
  have h := distance_any [109, 109, 111, 108] [109, 111, 108, 47, 108] w (by decide) (by decide)
  rw [lev_mmol] at h
  go_enter Try.func9, Try.ntmps9
  go_wp2_with fail
  refine Calls.mono h ?_
  rintro e w1 ⟨rfl, hB⟩
  have HB := Lib.hid hB
  clear hB
  go_wp2
  go_ret
  exact ⟨rfl, HB.out⟩

set_option maxRecDepth 100000 in
set_option maxHeartbeats 1000000 in
theorem metric_same (a b c : List UInt8) (w : World) (ha : a.length ≤ 9223372036854775807) (hb : b.length ≤ 9223372036854775807) (hc : c.length ≤ 9223372036854775807) (hxy : a.take 24 = b.take 24) :
    Calls Try.prog 6 #[.string (bs a), .string (bs b), .string (bs c)] w fun e w' => e = .returned (.bool true) ∧ Below w.heap.size w w' := by
  have hsa := fun W => short_any a W ha
  have hsb := fun W => short_any b W hb
  have hsc := fun W => short_any c W hc
  rw [← hxy] at hsb
  have la : (a.take 24).length ≤ 24 := by rw [List.length_take]; omega
  have lc : (c.take 24).length ≤ 24 := by rw [List.length_take]; omega
  generalize a.take 24 = x at *
  generalize c.take 24 = z at *
  clear ha hb hc hxy
  have hzx : (bs x).size = x.length := bs_size x
  have d1 := fun W => distance_any x x W (by omega) (by omega)
  have d4 := fun W => distance_any x x W (by omega) (by omega)
  have d2 := fun W => distance_any x z W (by omega) (by omega)
  have d3 := fun W => distance_any x z W (by omega) (by omega)
  rw [(lev_zero x x).mpr rfl] at d1 d4
  have t5 : ((lev x z : Nat) : Int) ≤ 24 := by have := lev_high x z; omega
  have t6 : 0 ≤ ((lev x z : Nat) : Int) := by omega
  generalize ((lev x z : Nat) : Int) = p at *
  have hx0 : (0 : Int) ≤ x.length := by omega
  go_enter Try.func6, Try.ntmps6
  go_wp2_with fail
  refine (awake_yes _).mono ?_
  rintro e w1 ⟨rfl, hB1⟩
  go_wp2_with fail
  refine (hsa _).mono ?_
  rintro e w2 ⟨rfl, rfl⟩
  go_wp2_with fail
  refine (hsb _).mono ?_
  rintro e w2 ⟨rfl, rfl⟩
  go_wp2_with fail
  refine (hsc _).mono ?_
  rintro e w2 ⟨rfl, rfl⟩
  go_wp2_with fail
  refine (d1 _).mono ?_
  rintro e w2 ⟨rfl, hB2⟩
  go_wp2_with fail
  refine (d2 _).mono ?_
  rintro e w3 ⟨rfl, hB3⟩
  go_wp2_with fail
  refine (d3 _).mono ?_
  rintro e w4 ⟨rfl, hB4⟩
  have b2 := hB1.trans (hB2.mono hB1.size)
  have b3 := b2.trans (hB3.mono b2.size)
  have b4 := b3.trans (hB4.mono b3.size)
  clear hB1 hB2 hB3 hB4 b2 b3 hsa hsb hsc d1 d2 d3
  go_wp2_with fail
  refine (d4 _).mono ?_
  rintro e w5 ⟨rfl, hB5⟩
  have HB := Lib.hid (b4.trans (hB5.mono b4.size))
  clear b4 hB5 d4
  go_wp2
  go_ret
  exact ⟨rfl, HB.out⟩

set_option maxRecDepth 100000 in
set_option maxHeartbeats 1000000 in
theorem metric_else (a b c : List UInt8) (w : World) (ha : a.length ≤ 9223372036854775807) (hb : b.length ≤ 9223372036854775807) (hc : c.length ≤ 9223372036854775807) (hxy : a.take 24 ≠ b.take 24) :
    Calls Try.prog 6 #[.string (bs a), .string (bs b), .string (bs c)] w fun e w' => e = .returned (.bool true) ∧ Below w.heap.size w w' := by
  have hsa := fun W => short_any a W ha
  have hsb := fun W => short_any b W hb
  have hsc := fun W => short_any c W hc
  have la : (a.take 24).length ≤ 24 := by rw [List.length_take]; omega
  have lb : (b.take 24).length ≤ 24 := by rw [List.length_take]; omega
  have lc : (c.take 24).length ≤ 24 := by rw [List.length_take]; omega
  generalize a.take 24 = x at *
  generalize b.take 24 = y at *
  generalize c.take 24 = z at *
  clear ha hb hc
  have hzx : (bs x).size = x.length := bs_size x
  have hzy : (bs y).size = y.length := bs_size y
  have d1 := fun W => distance_any x y W (by omega) (by omega)
  have d2 := fun W => distance_any y z W (by omega) (by omega)
  have d3 := fun W => distance_any x z W (by omega) (by omega)
  have d4 := fun W => distance_any y x W (by omega) (by omega)
  rw [lev_symm y x] at d4
  have t1 : ((lev x z : Nat) : Int) ≤ ((lev x y : Nat) : Int) + ((lev y z : Nat) : Int) := by have := lev_third x y z; omega
  have t2 : (x.length : Int) - (y.length : Int) ≤ ((lev x y : Nat) : Int) := by have := lev_low x y; omega
  have t2' : (y.length : Int) - (x.length : Int) ≤ ((lev x y : Nat) : Int) := by have := lev_low x y; omega
  have t4 : (((lev x y : Nat) : Int) == 0) = false := by
    rw [beq_eq_false_iff_ne]
    have : lev x y ≠ 0 := fun h => hxy ((lev_zero x y).mp h)
    omega
  have t8 : ((bs x).toList == (bs y).toList) = false := by
    rw [bs_toList, bs_toList, beq_eq_false_iff_ne]; exact hxy
  have t5 : ((lev y z : Nat) : Int) ≤ 24 := by have := lev_high y z; omega
  have t6 : 0 ≤ ((lev y z : Nat) : Int) := by omega
  have t9 : 0 ≤ ((lev x y : Nat) : Int) := by omega
  have t3 := lev_high x y
  have hcase : (x.length < y.length ∧ ((lev x y : Nat) : Int) ≤ (y.length : Int)) ∨ (¬ x.length < y.length ∧ ((lev x y : Nat) : Int) ≤ (x.length : Int)) := by
    by_cases h : x.length < y.length
    · exact .inl ⟨h, by omega⟩
    · exact .inr ⟨h, by omega⟩
  generalize ((lev x y : Nat) : Int) = p at *
  generalize ((lev y z : Nat) : Int) = q at *
  generalize ((lev x z : Nat) : Int) = r at *
  clear hxy t3
  rcases hcase with ⟨hl, t3⟩ | ⟨hl, t3⟩
  · have hl1 : (x.length : Int) - (y.length : Int) < 0 := by omega
    have hl2 : (x.length : Int) < (y.length : Int) := by omega
    go_enter Try.func6, Try.ntmps6
    go_wp2_with fail
    refine (awake_yes _).mono ?_
    rintro e w1 ⟨rfl, hB1⟩
    go_wp2_with fail
    refine (hsa _).mono ?_
    rintro e w2 ⟨rfl, rfl⟩
    go_wp2_with fail
    refine (hsb _).mono ?_
    rintro e w2 ⟨rfl, rfl⟩
    go_wp2_with fail
    refine (hsc _).mono ?_
    rintro e w2 ⟨rfl, rfl⟩
    go_wp2_with fail
    refine (d1 _).mono ?_
    rintro e w2 ⟨rfl, hB2⟩
    go_wp2_with fail
    refine (d2 _).mono ?_
    rintro e w3 ⟨rfl, hB3⟩
    go_wp2_with fail
    refine (d3 _).mono ?_
    rintro e w4 ⟨rfl, hB4⟩
    have b2 := hB1.trans (hB2.mono hB1.size)
    have b3 := b2.trans (hB3.mono b2.size)
    have b4 := b3.trans (hB4.mono b3.size)
    clear hB1 hB2 hB3 hB4 b2 b3 hsa hsb hsc d1 d2 d3
    go_wp2_with fail
    refine (d4 _).mono ?_
    rintro e w5 ⟨rfl, hB5⟩
    have HB := Lib.hid (b4.trans (hB5.mono b4.size))
    clear b4 hB5 d4
    go_wp2
    go_ret
    exact ⟨rfl, HB.out⟩
  · have hl1 : ¬ ((x.length : Int) - (y.length : Int) < 0) := by omega
    have hl2 : ¬ ((x.length : Int) < (y.length : Int)) := by omega
    go_enter Try.func6, Try.ntmps6
    go_wp2_with fail
    refine (awake_yes _).mono ?_
    rintro e w1 ⟨rfl, hB1⟩
    go_wp2_with fail
    refine (hsa _).mono ?_
    rintro e w2 ⟨rfl, rfl⟩
    go_wp2_with fail
    refine (hsb _).mono ?_
    rintro e w2 ⟨rfl, rfl⟩
    go_wp2_with fail
    refine (hsc _).mono ?_
    rintro e w2 ⟨rfl, rfl⟩
    go_wp2_with fail
    refine (d1 _).mono ?_
    rintro e w2 ⟨rfl, hB2⟩
    go_wp2_with fail
    refine (d2 _).mono ?_
    rintro e w3 ⟨rfl, hB3⟩
    go_wp2_with fail
    refine (d3 _).mono ?_
    rintro e w4 ⟨rfl, hB4⟩
    have b2 := hB1.trans (hB2.mono hB1.size)
    have b3 := b2.trans (hB3.mono b2.size)
    have b4 := b3.trans (hB4.mono b3.size)
    clear hB1 hB2 hB3 hB4 b2 b3 hsa hsb hsc d1 d2 d3
    go_wp2_with fail
    refine (d4 _).mono ?_
    rintro e w5 ⟨rfl, hB5⟩
    have HB := Lib.hid (b4.trans (hB5.mono b4.size))
    clear b4 hB5 d4
    go_wp2
    go_ret
    exact ⟨rfl, HB.out⟩

theorem metric_law (a b c : ByteArray) (w : World) (ha : a.size ≤ maxLen) (hb : b.size ≤ maxLen) (hc : c.size ≤ maxLen) :
    Calls Try.prog 6 #[.string a, .string b, .string c] w fun e w' => e = .returned (.bool true) ∧ Below w.heap.size w w' := by
  have e : ∀ s : ByteArray, s.size ≤ maxLen → s.data.toList.length ≤ 9223372036854775807 := fun s h => by
    have : s.data.toList.length = s.size := rfl
    have hm : maxLen = 9223372036854775807 := by decide
    omega
  rw [← bs_of a, ← bs_of b, ← bs_of c]
  by_cases h : a.data.toList.take 24 = b.data.toList.take 24
  · exact metric_same _ _ _ w (e a ha) (e b hb) (e c hc) h
  · exact metric_else _ _ _ w (e a ha) (e b hb) (e c hc) h

end Go.Proofs.Ytlfpfijhimngmaa.Edits

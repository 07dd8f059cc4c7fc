/-
  The walk of the law DimsTexts: it returns true, for every dims and every text; old memory stays.
-/
import Derived.Test.YtjklbnakgkffnaaDoorDA
namespace Go.Proofs.YtjklbnakgkffnaaDoor.Dims
open Go.RowKit Go.Shelf
set_option linter.unusedVariables false
set_option linter.unusedSimpArgs false

set_option maxRecDepth 100000 in
set_option maxHeartbeats 1000000 in
/-- Behind the cutting: s is the text as it is read. -/
theorem texts_short (a : D7) (s0 s : List UInt8) (w : World) (hE : Env w) (fa : Fine a) (hs : s = s0) (hl0 : s0.length ≤ 40) :
    Calls Tryd.prog 7 #[a.v, .string (bs s0)] w fun e w' => e = .returned (.bool true) ∧ Below w.heap.size w w' := by
  subst hs
  have lA := Lies7.new w a
  have hB : Below w.heap.size w (w.alloc (.cells #[.int .i64 a.a0, .int .i64 a.a1, .int .i64 a.a2, .int .i64 a.a3, .int .i64 a.a4, .int .i64 a.a5, .int .i64 a.a6] 39)) := by go_grown
  have rN := near_right a 99 (by omega) (by omega)
  have hN := near_any a 99
  generalize nearG a 99 = P at *
  have hT := text_yes P
  have hR0 := read_any (textL P) (by have := text_len P rN.fine; omega)
  rw [read_text P rN] at hR0
  have hl : s.length ≤ 40 := hl0
  have hR1 := read_any s (by omega)
  have q := eq7
  have qp := eqB_same P
  have z0 : (bs s).size = s.length := bs_size s
  have z1 : ¬ (40 : Int) < (s.length : Int) := by omega
  have tl : ∀ l : List UInt8, (bs l).toList = l := bs_toList
  generalize textL P = T at *
  cases hg : (readG s).2 with
  | true =>
    obtain ⟨rr, tt⟩ := read_yes s hg
    rw [hg] at hR1
    have hT1 := text_yes (readG s).1
    have hI := right_any (readG s).1
    rw [tt] at hT1
    rw [rightB_of rr] at hI
    have fr := rr.fine
    generalize (readG s).1 = Q at *
    simp only [D7.v] at hN hT hR0 hR1 hT1 hI ⊢
    clear hg tt
    obtain ⟨c0, c1, c2, c3, c4, c5, c6⟩ := lA.cells
    simp only [D7.get] at c0 c1 c2 c3 c4 c5 c6
    go_enter Tryd.func7, Tryd.ntmps7
    go_wp2_with fail
    refine (awake_yes _ (hE.below hB)).mono ?_
    rintro e w1 ⟨rfl, hb⟩
    replace lA := lA.below hb lA.2.2
    replace hB := Below.goB hB hB.size hb
    clear hb c0 c1 c2 c3 c4 c5 c6
    obtain ⟨c0, c1, c2, c3, c4, c5, c6⟩ := lA.cells
    simp only [D7.get] at c0 c1 c2 c3 c4 c5 c6
    go_wp2_with fail
    refine (hN _ fa (by omega) (by omega)).mono ?_
    rintro e w2 ⟨rfl, hb⟩
    have lP := Lies7.new w2 P
    replace hB : Below w.heap.size w (w2.alloc (.cells #[.int .i64 P.a0, .int .i64 P.a1, .int .i64 P.a2, .int .i64 P.a3, .int .i64 P.a4, .int .i64 P.a5, .int .i64 P.a6] 39)) := Below.goB (Below.goB hB hB.size hb) (Nat.le_trans hB.size hb.size) (by go_grown)
    clear hb c0 c1 c2 c3 c4 c5 c6 lA
    go_wp2_with fail
    generalize w2.alloc (.cells #[.int .i64 P.a0, .int .i64 P.a1, .int .i64 P.a2, .int .i64 P.a3, .int .i64 P.a4, .int .i64 P.a5, .int .i64 P.a6] 39) = U at *
    refine (hT U (hE.below hB) rN).mono ?_
    rintro e w3 ⟨rfl, hb⟩
    replace lP := lP.below hb lP.2.2
    replace hB := Below.goB hB hB.size hb
    clear hb
    go_wp2_with fail
    refine (hR0 w3 (hE.below hB)).mono ?_
    rintro e w4 ⟨rfl, hb⟩
    have lX := Lies7.new w4 P
    replace lP := (lP.below hb lP.2.2).alloc (.cells #[.int .i64 P.a0, .int .i64 P.a1, .int .i64 P.a2, .int .i64 P.a3, .int .i64 P.a4, .int .i64 P.a5, .int .i64 P.a6] 39)
    replace hB : Below w.heap.size w (w4.alloc (.cells #[.int .i64 P.a0, .int .i64 P.a1, .int .i64 P.a2, .int .i64 P.a3, .int .i64 P.a4, .int .i64 P.a5, .int .i64 P.a6] 39)) := Below.goB (Below.goB hB hB.size hb) (Nat.le_trans hB.size hb.size) (by go_grown)
    clear hb
    go_wp2_with fail
    generalize w4.alloc (.cells #[.int .i64 P.a0, .int .i64 P.a1, .int .i64 P.a2, .int .i64 P.a3, .int .i64 P.a4, .int .i64 P.a5, .int .i64 P.a6] 39) = V at *
    refine (hR1 V (hE.below hB)).mono ?_
    rintro e w5 ⟨rfl, hb⟩
    have lQ := Lies7.new w5 Q
    replace lP := (lP.below hb lP.2.2).alloc (.cells #[.int .i64 Q.a0, .int .i64 Q.a1, .int .i64 Q.a2, .int .i64 Q.a3, .int .i64 Q.a4, .int .i64 Q.a5, .int .i64 Q.a6] 39)
    replace lX := (lX.below hb lX.2.2).alloc (.cells #[.int .i64 Q.a0, .int .i64 Q.a1, .int .i64 Q.a2, .int .i64 Q.a3, .int .i64 Q.a4, .int .i64 Q.a5, .int .i64 Q.a6] 39)
    replace hB : Below w.heap.size w (w5.alloc (.cells #[.int .i64 Q.a0, .int .i64 Q.a1, .int .i64 Q.a2, .int .i64 Q.a3, .int .i64 Q.a4, .int .i64 Q.a5, .int .i64 Q.a6] 39)) := Below.goB (Below.goB hB hB.size hb) (Nat.le_trans hB.size hb.size) (by go_grown)
    clear hb
    generalize hU : w5.alloc (.cells #[.int .i64 Q.a0, .int .i64 Q.a1, .int .i64 Q.a2, .int .i64 Q.a3, .int .i64 Q.a4, .int .i64 Q.a5, .int .i64 Q.a6] 39) = Y at *
    obtain ⟨c0, c1, c2, c3, c4, c5, c6⟩ := lP.cells
    simp only [D7.get] at c0 c1 c2 c3 c4 c5 c6
    obtain ⟨d0, d1, d2, d3, d4, d5, d6⟩ := lX.cells
    simp only [D7.get] at d0 d1 d2 d3 d4 d5 d6
    obtain ⟨f0, f1, f2, f3, f4, f5, f6⟩ := lQ.cells
    simp only [D7.get] at f0 f1 f2 f3 f4 f5 f6
    go_wp2_with fail
    refine (hT1 Y (hE.below hB) rr).mono ?_
    rintro e w6 ⟨rfl, hb⟩
    replace lQ := lQ.below hb lQ.2.2
    replace hB := Below.goB hB hB.size hb
    clear hb f0 f1 f2 f3 f4 f5 f6 c0 c1 c2 c3 c4 c5 c6 d0 d1 d2 d3 d4 d5 d6
    obtain ⟨f0, f1, f2, f3, f4, f5, f6⟩ := lQ.cells
    simp only [D7.get] at f0 f1 f2 f3 f4 f5 f6
    go_wp2_with fail
    refine (hI w6 fr).mono ?_
    rintro e w7 ⟨rfl, hb⟩
    replace hB := Below.goB hB hB.size hb
    clear hb
    go_wp2
    go_ret
    exact ⟨rfl, hB⟩
  | false =>
    have qq := read_no s hg
    rw [hg, qq] at hR1
    have qz := eqB_same dZero
    simp only [D7.v] at hN hT hR0 hR1 ⊢
    simp only [dZero] at hR1 qz
    clear hg qq
    obtain ⟨c0, c1, c2, c3, c4, c5, c6⟩ := lA.cells
    simp only [D7.get] at c0 c1 c2 c3 c4 c5 c6
    go_enter Tryd.func7, Tryd.ntmps7
    go_wp2_with fail
    refine (awake_yes _ (hE.below hB)).mono ?_
    rintro e w1 ⟨rfl, hb⟩
    replace lA := lA.below hb lA.2.2
    replace hB := Below.goB hB hB.size hb
    clear hb c0 c1 c2 c3 c4 c5 c6
    obtain ⟨c0, c1, c2, c3, c4, c5, c6⟩ := lA.cells
    simp only [D7.get] at c0 c1 c2 c3 c4 c5 c6
    go_wp2_with fail
    refine (hN _ fa (by omega) (by omega)).mono ?_
    rintro e w2 ⟨rfl, hb⟩
    have lP := Lies7.new w2 P
    replace hB : Below w.heap.size w (w2.alloc (.cells #[.int .i64 P.a0, .int .i64 P.a1, .int .i64 P.a2, .int .i64 P.a3, .int .i64 P.a4, .int .i64 P.a5, .int .i64 P.a6] 39)) := Below.goB (Below.goB hB hB.size hb) (Nat.le_trans hB.size hb.size) (by go_grown)
    clear hb c0 c1 c2 c3 c4 c5 c6 lA
    go_wp2_with fail
    generalize w2.alloc (.cells #[.int .i64 P.a0, .int .i64 P.a1, .int .i64 P.a2, .int .i64 P.a3, .int .i64 P.a4, .int .i64 P.a5, .int .i64 P.a6] 39) = U at *
    refine (hT U (hE.below hB) rN).mono ?_
    rintro e w3 ⟨rfl, hb⟩
    replace lP := lP.below hb lP.2.2
    replace hB := Below.goB hB hB.size hb
    clear hb
    go_wp2_with fail
    refine (hR0 w3 (hE.below hB)).mono ?_
    rintro e w4 ⟨rfl, hb⟩
    have lX := Lies7.new w4 P
    replace lP := (lP.below hb lP.2.2).alloc (.cells #[.int .i64 P.a0, .int .i64 P.a1, .int .i64 P.a2, .int .i64 P.a3, .int .i64 P.a4, .int .i64 P.a5, .int .i64 P.a6] 39)
    replace hB : Below w.heap.size w (w4.alloc (.cells #[.int .i64 P.a0, .int .i64 P.a1, .int .i64 P.a2, .int .i64 P.a3, .int .i64 P.a4, .int .i64 P.a5, .int .i64 P.a6] 39)) := Below.goB (Below.goB hB hB.size hb) (Nat.le_trans hB.size hb.size) (by go_grown)
    clear hb
    go_wp2_with fail
    generalize w4.alloc (.cells #[.int .i64 P.a0, .int .i64 P.a1, .int .i64 P.a2, .int .i64 P.a3, .int .i64 P.a4, .int .i64 P.a5, .int .i64 P.a6] 39) = V at *
    refine (hR1 V (hE.below hB)).mono ?_
    rintro e w5 ⟨rfl, hb⟩
    have lQ := Lies7.new w5 dZero
    replace lP := (lP.below hb lP.2.2).alloc (.cells #[.int .i64 0, .int .i64 0, .int .i64 0, .int .i64 0, .int .i64 0, .int .i64 0, .int .i64 0] 39)
    replace lX := (lX.below hb lX.2.2).alloc (.cells #[.int .i64 0, .int .i64 0, .int .i64 0, .int .i64 0, .int .i64 0, .int .i64 0, .int .i64 0] 39)
    replace hB : Below w.heap.size w (w5.alloc (.cells #[.int .i64 0, .int .i64 0, .int .i64 0, .int .i64 0, .int .i64 0, .int .i64 0, .int .i64 0] 39)) := Below.goB (Below.goB hB hB.size hb) (Nat.le_trans hB.size hb.size) (by go_grown)
    clear hb
    simp only [dZero] at lQ
    obtain ⟨c0, c1, c2, c3, c4, c5, c6⟩ := lP.cells
    simp only [D7.get] at c0 c1 c2 c3 c4 c5 c6
    obtain ⟨d0, d1, d2, d3, d4, d5, d6⟩ := lX.cells
    simp only [D7.get] at d0 d1 d2 d3 d4 d5 d6
    obtain ⟨f0, f1, f2, f3, f4, f5, f6⟩ := lQ.cells
    simp only [D7.get] at f0 f1 f2 f3 f4 f5 f6
    go_wp2
    go_ret
    exact ⟨rfl, hB⟩
set_option maxRecDepth 100000 in
set_option maxHeartbeats 1000000 in
/-- Behind the cutting: s is the text as it is read. -/
theorem texts_long (a : D7) (s0 s : List UInt8) (w : World) (hE : Env w) (fa : Fine a) (hs : s = s0.take 40) (hl0 : 40 < s0.length) :
    Calls Tryd.prog 7 #[a.v, .string (bs s0)] w fun e w' => e = .returned (.bool true) ∧ Below w.heap.size w w' := by
  have lA := Lies7.new w a
  have hB : Below w.heap.size w (w.alloc (.cells #[.int .i64 a.a0, .int .i64 a.a1, .int .i64 a.a2, .int .i64 a.a3, .int .i64 a.a4, .int .i64 a.a5, .int .i64 a.a6] 39)) := by go_grown
  have rN := near_right a 99 (by omega) (by omega)
  have hN := near_any a 99
  generalize nearG a 99 = P at *
  have hT := text_yes P
  have hR0 := read_any (textL P) (by have := text_len P rN.fine; omega)
  rw [read_text P rN] at hR0
  have hl : s.length ≤ 40 := by rw [hs, List.length_take]; omega
  have hR1 := read_any s (by omega)
  have q := eq7
  have qp := eqB_same P
  have z0 : (bs s0).size = s0.length := bs_size s0
  have z1 : (40 : Int) < (s0.length : Int) := by omega
  have z2 : (40 : Int) ≤ (s0.length : Int) := by omega
  have z3 : 40 ≤ s0.length := by omega
  have ex : (bs s0).extract 0 40 = bs s := by rw [bs_extract, hs]; simp
  clear hs
  have tl : ∀ l : List UInt8, (bs l).toList = l := bs_toList
  generalize textL P = T at *
  cases hg : (readG s).2 with
  | true =>
    obtain ⟨rr, tt⟩ := read_yes s hg
    rw [hg] at hR1
    have hT1 := text_yes (readG s).1
    have hI := right_any (readG s).1
    rw [tt] at hT1
    rw [rightB_of rr] at hI
    have fr := rr.fine
    generalize (readG s).1 = Q at *
    simp only [D7.v] at hN hT hR0 hR1 hT1 hI ⊢
    clear hg tt
    obtain ⟨c0, c1, c2, c3, c4, c5, c6⟩ := lA.cells
    simp only [D7.get] at c0 c1 c2 c3 c4 c5 c6
    go_enter Tryd.func7, Tryd.ntmps7
    go_wp2_with fail
    refine (awake_yes _ (hE.below hB)).mono ?_
    rintro e w1 ⟨rfl, hb⟩
    replace lA := lA.below hb lA.2.2
    replace hB := Below.goB hB hB.size hb
    clear hb c0 c1 c2 c3 c4 c5 c6
    obtain ⟨c0, c1, c2, c3, c4, c5, c6⟩ := lA.cells
    simp only [D7.get] at c0 c1 c2 c3 c4 c5 c6
    go_wp2_with fail
    refine (hN _ fa (by omega) (by omega)).mono ?_
    rintro e w2 ⟨rfl, hb⟩
    have lP := Lies7.new w2 P
    replace hB : Below w.heap.size w (w2.alloc (.cells #[.int .i64 P.a0, .int .i64 P.a1, .int .i64 P.a2, .int .i64 P.a3, .int .i64 P.a4, .int .i64 P.a5, .int .i64 P.a6] 39)) := Below.goB (Below.goB hB hB.size hb) (Nat.le_trans hB.size hb.size) (by go_grown)
    clear hb c0 c1 c2 c3 c4 c5 c6 lA
    go_wp2_with fail
    generalize w2.alloc (.cells #[.int .i64 P.a0, .int .i64 P.a1, .int .i64 P.a2, .int .i64 P.a3, .int .i64 P.a4, .int .i64 P.a5, .int .i64 P.a6] 39) = U at *
    refine (hT U (hE.below hB) rN).mono ?_
    rintro e w3 ⟨rfl, hb⟩
    replace lP := lP.below hb lP.2.2
    replace hB := Below.goB hB hB.size hb
    clear hb
    go_wp2_with fail
    refine (hR0 w3 (hE.below hB)).mono ?_
    rintro e w4 ⟨rfl, hb⟩
    have lX := Lies7.new w4 P
    replace lP := (lP.below hb lP.2.2).alloc (.cells #[.int .i64 P.a0, .int .i64 P.a1, .int .i64 P.a2, .int .i64 P.a3, .int .i64 P.a4, .int .i64 P.a5, .int .i64 P.a6] 39)
    replace hB : Below w.heap.size w (w4.alloc (.cells #[.int .i64 P.a0, .int .i64 P.a1, .int .i64 P.a2, .int .i64 P.a3, .int .i64 P.a4, .int .i64 P.a5, .int .i64 P.a6] 39)) := Below.goB (Below.goB hB hB.size hb) (Nat.le_trans hB.size hb.size) (by go_grown)
    clear hb
    go_wp2_with fail
    generalize w4.alloc (.cells #[.int .i64 P.a0, .int .i64 P.a1, .int .i64 P.a2, .int .i64 P.a3, .int .i64 P.a4, .int .i64 P.a5, .int .i64 P.a6] 39) = V at *
    refine (hR1 V (hE.below hB)).mono ?_
    rintro e w5 ⟨rfl, hb⟩
    have lQ := Lies7.new w5 Q
    replace lP := (lP.below hb lP.2.2).alloc (.cells #[.int .i64 Q.a0, .int .i64 Q.a1, .int .i64 Q.a2, .int .i64 Q.a3, .int .i64 Q.a4, .int .i64 Q.a5, .int .i64 Q.a6] 39)
    replace lX := (lX.below hb lX.2.2).alloc (.cells #[.int .i64 Q.a0, .int .i64 Q.a1, .int .i64 Q.a2, .int .i64 Q.a3, .int .i64 Q.a4, .int .i64 Q.a5, .int .i64 Q.a6] 39)
    replace hB : Below w.heap.size w (w5.alloc (.cells #[.int .i64 Q.a0, .int .i64 Q.a1, .int .i64 Q.a2, .int .i64 Q.a3, .int .i64 Q.a4, .int .i64 Q.a5, .int .i64 Q.a6] 39)) := Below.goB (Below.goB hB hB.size hb) (Nat.le_trans hB.size hb.size) (by go_grown)
    clear hb
    generalize hU : w5.alloc (.cells #[.int .i64 Q.a0, .int .i64 Q.a1, .int .i64 Q.a2, .int .i64 Q.a3, .int .i64 Q.a4, .int .i64 Q.a5, .int .i64 Q.a6] 39) = Y at *
    obtain ⟨c0, c1, c2, c3, c4, c5, c6⟩ := lP.cells
    simp only [D7.get] at c0 c1 c2 c3 c4 c5 c6
    obtain ⟨d0, d1, d2, d3, d4, d5, d6⟩ := lX.cells
    simp only [D7.get] at d0 d1 d2 d3 d4 d5 d6
    obtain ⟨f0, f1, f2, f3, f4, f5, f6⟩ := lQ.cells
    simp only [D7.get] at f0 f1 f2 f3 f4 f5 f6
    go_wp2_with fail
    refine (hT1 Y (hE.below hB) rr).mono ?_
    rintro e w6 ⟨rfl, hb⟩
    replace lQ := lQ.below hb lQ.2.2
    replace hB := Below.goB hB hB.size hb
    clear hb f0 f1 f2 f3 f4 f5 f6 c0 c1 c2 c3 c4 c5 c6 d0 d1 d2 d3 d4 d5 d6
    obtain ⟨f0, f1, f2, f3, f4, f5, f6⟩ := lQ.cells
    simp only [D7.get] at f0 f1 f2 f3 f4 f5 f6
    go_wp2_with fail
    refine (hI w6 fr).mono ?_
    rintro e w7 ⟨rfl, hb⟩
    replace hB := Below.goB hB hB.size hb
    clear hb
    go_wp2
    go_ret
    exact ⟨rfl, hB⟩
  | false =>
    have qq := read_no s hg
    rw [hg, qq] at hR1
    have qz := eqB_same dZero
    simp only [D7.v] at hN hT hR0 hR1 ⊢
    simp only [dZero] at hR1 qz
    clear hg qq
    obtain ⟨c0, c1, c2, c3, c4, c5, c6⟩ := lA.cells
    simp only [D7.get] at c0 c1 c2 c3 c4 c5 c6
    go_enter Tryd.func7, Tryd.ntmps7
    go_wp2_with fail
    refine (awake_yes _ (hE.below hB)).mono ?_
    rintro e w1 ⟨rfl, hb⟩
    replace lA := lA.below hb lA.2.2
    replace hB := Below.goB hB hB.size hb
    clear hb c0 c1 c2 c3 c4 c5 c6
    obtain ⟨c0, c1, c2, c3, c4, c5, c6⟩ := lA.cells
    simp only [D7.get] at c0 c1 c2 c3 c4 c5 c6
    go_wp2_with fail
    refine (hN _ fa (by omega) (by omega)).mono ?_
    rintro e w2 ⟨rfl, hb⟩
    have lP := Lies7.new w2 P
    replace hB : Below w.heap.size w (w2.alloc (.cells #[.int .i64 P.a0, .int .i64 P.a1, .int .i64 P.a2, .int .i64 P.a3, .int .i64 P.a4, .int .i64 P.a5, .int .i64 P.a6] 39)) := Below.goB (Below.goB hB hB.size hb) (Nat.le_trans hB.size hb.size) (by go_grown)
    clear hb c0 c1 c2 c3 c4 c5 c6 lA
    go_wp2_with fail
    generalize w2.alloc (.cells #[.int .i64 P.a0, .int .i64 P.a1, .int .i64 P.a2, .int .i64 P.a3, .int .i64 P.a4, .int .i64 P.a5, .int .i64 P.a6] 39) = U at *
    refine (hT U (hE.below hB) rN).mono ?_
    rintro e w3 ⟨rfl, hb⟩
    replace lP := lP.below hb lP.2.2
    replace hB := Below.goB hB hB.size hb
    clear hb
    go_wp2_with fail
    refine (hR0 w3 (hE.below hB)).mono ?_
    rintro e w4 ⟨rfl, hb⟩
    have lX := Lies7.new w4 P
    replace lP := (lP.below hb lP.2.2).alloc (.cells #[.int .i64 P.a0, .int .i64 P.a1, .int .i64 P.a2, .int .i64 P.a3, .int .i64 P.a4, .int .i64 P.a5, .int .i64 P.a6] 39)
    replace hB : Below w.heap.size w (w4.alloc (.cells #[.int .i64 P.a0, .int .i64 P.a1, .int .i64 P.a2, .int .i64 P.a3, .int .i64 P.a4, .int .i64 P.a5, .int .i64 P.a6] 39)) := Below.goB (Below.goB hB hB.size hb) (Nat.le_trans hB.size hb.size) (by go_grown)
    clear hb
    go_wp2_with fail
    generalize w4.alloc (.cells #[.int .i64 P.a0, .int .i64 P.a1, .int .i64 P.a2, .int .i64 P.a3, .int .i64 P.a4, .int .i64 P.a5, .int .i64 P.a6] 39) = V at *
    refine (hR1 V (hE.below hB)).mono ?_
    rintro e w5 ⟨rfl, hb⟩
    have lQ := Lies7.new w5 dZero
    replace lP := (lP.below hb lP.2.2).alloc (.cells #[.int .i64 0, .int .i64 0, .int .i64 0, .int .i64 0, .int .i64 0, .int .i64 0, .int .i64 0] 39)
    replace lX := (lX.below hb lX.2.2).alloc (.cells #[.int .i64 0, .int .i64 0, .int .i64 0, .int .i64 0, .int .i64 0, .int .i64 0, .int .i64 0] 39)
    replace hB : Below w.heap.size w (w5.alloc (.cells #[.int .i64 0, .int .i64 0, .int .i64 0, .int .i64 0, .int .i64 0, .int .i64 0, .int .i64 0] 39)) := Below.goB (Below.goB hB hB.size hb) (Nat.le_trans hB.size hb.size) (by go_grown)
    clear hb
    simp only [dZero] at lQ
    obtain ⟨c0, c1, c2, c3, c4, c5, c6⟩ := lP.cells
    simp only [D7.get] at c0 c1 c2 c3 c4 c5 c6
    obtain ⟨d0, d1, d2, d3, d4, d5, d6⟩ := lX.cells
    simp only [D7.get] at d0 d1 d2 d3 d4 d5 d6
    obtain ⟨f0, f1, f2, f3, f4, f5, f6⟩ := lQ.cells
    simp only [D7.get] at f0 f1 f2 f3 f4 f5 f6
    go_wp2
    go_ret
    exact ⟨rfl, hB⟩

theorem texts_walk (a : D7) (s : List UInt8) (w : World) (hE : Env w) (fa : Fine a) :
    Calls Tryd.prog 7 #[a.v, .string (bs s)] w fun e w' => e = .returned (.bool true) ∧ Below w.heap.size w w' := by
  by_cases h : s.length ≤ 40
  · exact texts_short a s s w hE fa rfl h
  · exact texts_long a s _ w hE fa rfl (by omega)
theorem bs_of (s : ByteArray) : bs s.data.toList = s := by
  cases s
  simp [bs]

theorem texts_law (a0 a1 a2 a3 a4 a5 a6 : Int) (s : ByteArray) (w : World) (hE : Env w) (b0 : -9223372036854775808 ≤ a0 ∧ a0 ≤ 9223372036854775807) (b1 : -9223372036854775808 ≤ a1 ∧ a1 ≤ 9223372036854775807) (b2 : -9223372036854775808 ≤ a2 ∧ a2 ≤ 9223372036854775807) (b3 : -9223372036854775808 ≤ a3 ∧ a3 ≤ 9223372036854775807) (b4 : -9223372036854775808 ≤ a4 ∧ a4 ≤ 9223372036854775807) (b5 : -9223372036854775808 ≤ a5 ∧ a5 ≤ 9223372036854775807) (b6 : -9223372036854775808 ≤ a6 ∧ a6 ≤ 9223372036854775807) (hs : s.size ≤ maxLen) :
    Calls Tryd.prog 7 #[.agg #[.int .i64 a0, .int .i64 a1, .int .i64 a2, .int .i64 a3, .int .i64 a4, .int .i64 a5, .int .i64 a6], .string s] w fun e w' => e = .returned (.bool true) ∧ Below w.heap.size w w' := by
  have h := texts_walk ⟨a0, a1, a2, a3, a4, a5, a6⟩ s.data.toList w hE (seven b0 b1 b2 b3 b4 b5 b6)
  rw [bs_of] at h
  exact h

end Go.Proofs.YtjklbnakgkffnaaDoor.Dims

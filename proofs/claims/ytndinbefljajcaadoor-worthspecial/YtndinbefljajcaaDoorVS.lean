/-
  The walk of the law WorthSpecial: it returns true, for every argument of its kind; old memory stays.
-/
import Derived.Test.YtndinbefljajcaaDoorVB
namespace Go.Proofs.YtndinbefljajcaaDoor.Worth
open Go.RowKit Go.Shelf
open Go.Proofs.YtndinbefljajcaaDoor.Frac (Got OfTen Room specG)
open Go.Proofs.YtndinbefljajcaaDoor.Dims (D7 dZero dOf Lies7 get_of)
set_option linter.unusedVariables false
set_option linter.unusedSimpArgs false

theorem put_special1 {a b : Wo} (G : Got) (P : D7 × Bool) (ra : rightW a = true) (rb : rightW b = true) (h : a.g ≠ 0 ∨ b.g ≠ 0) : putW a b G P = (wZero, 18) := by
  unfold putW
  rw [if_neg (by simp [ra, rb]), if_pos h]

set_option maxRecDepth 100000 in
set_option maxHeartbeats 8000000 in
theorem special_walk (s0 s1 : Wo) (tag n : Int) (w : World) (hE : EnvW w) (f0 : s0.Fine) (f1 : s1.Fine) (i0 : -9223372036854775808 ≤ s0.t ∧ s0.t ≤ 9223372036854775807) (i1 : -9223372036854775808 ≤ s1.t ∧ s1.t ≤ 9223372036854775807) (bt : -9223372036854775808 ≤ tag ∧ tag ≤ 9223372036854775807) (bn : -9223372036854775808 ≤ n ∧ n ≤ 9223372036854775807) :
    Calls Tryd.prog 6 #[.agg #[.int .i64 s0.n, .int .i64 s0.d, .int .i64 s0.t, .int .i64 s0.D.a0, .int .i64 s0.D.a1, .int .i64 s0.D.a2, .int .i64 s0.D.a3, .int .i64 s0.D.a4, .int .i64 s0.D.a5, .int .i64 s0.D.a6, .int .i64 s0.g, .int .i64 s1.n, .int .i64 s1.d, .int .i64 s1.t, .int .i64 s1.D.a0, .int .i64 s1.D.a1, .int .i64 s1.D.a2, .int .i64 s1.D.a3, .int .i64 s1.D.a4, .int .i64 s1.D.a5, .int .i64 s1.D.a6, .int .i64 s1.g], .int .i64 tag, .int .i64 n] w fun e w' => e = .returned (.bool true) ∧ Below w.heap.size w w' := by
  obtain ⟨bt0, bt1⟩ := bt
  obtain ⟨bn0, bn1⟩ := bn
  have kS0 := fun V => spec_any s0 V f0 i0.1 i0.2
  have kS1 := fun V => spec_any s1.plain V (plain_fine f1) i1.1 i1.2
  have rA0 := spec_right s0 f0
  have rB := spec_right s1.plain (plain_fine f1)
  have fA0 := spec_fine s0 f0
  have fB := spec_fine s1.plain (plain_fine f1)
  generalize specW s0 = A0 at *
  generalize specW s1.plain = B at *
  have m0 := Frac.tmod_in tag 99 (by omega)
  have m1 := Frac.tmod_in n 100 (by omega)
  obtain ⟨m0a, m0b⟩ := m0
  obtain ⟨m1a, m1b⟩ := m1
  obtain ⟨T, HT, T0, T1⟩ : ∃ T, Hid (1 + tag.tmod 99 % 99 = T) ∧ 1 ≤ T ∧ T ≤ 99 := ⟨_, Lib.hid rfl, by omega, by omega⟩
  have rA : rightW (A0.setG T) = true := by
    obtain ⟨h1, h2, _, _⟩ := (rightW_iff _).1 rA0
    exact (rightW_iff _).2 ⟨h1, h2, by show 0 ≤ T; omega, T1⟩
  have fA : (A0.setG T).Fine := ⟨fA0.n, fA0.d, fA0.D, by show _ ≤ T; omega, by show T ≤ _; omega⟩
  have gA : (A0.setG T).g ≠ 0 := by show T ≠ 0; omega
  have kM1 := fun V hT => mul_any (A0.setG T) B V hT fA fB
  have kM2 := fun V hT => mul_any B (A0.setG T) V hT fB fA
  have kD1 := fun V hT => div_any B (A0.setG T) V hT fB fA
  have kD2 := fun V hT => div_any (A0.setG T) B V hT fA fB
  have kP := fun V hT => pow_any (A0.setG T) (n.tmod 100) V hT fA (by omega) (by omega)
  have kR := fun V hT => right_any (A0.setG T) V hT fA
  rw [show mulW (A0.setG T) B = (wZero, 18) from put_special1 _ _ rA rB (.inl gA)] at kM1
  rw [show mulW B (A0.setG T) = (wZero, 18) from put_special1 _ _ rB rA (.inr gA)] at kM2
  rw [show divW B (A0.setG T) = (wZero, 18) from put_special1 _ _ rB rA (.inr gA)] at kD1
  rw [show divW (A0.setG T) B = (wZero, 18) from put_special1 _ _ rA rB (.inl gA)] at kD2
  rw [show powW (A0.setG T) (n.tmod 100) = (wZero, 18) from by unfold powW; rw [if_neg (by omega)]; exact put_special1 _ _ rA rA (.inl gA)] at kP
  rw [rA] at kR
  have hS := LiesC.new w #[.int .i64 s0.n, .int .i64 s0.d, .int .i64 s0.t, .int .i64 s0.D.a0, .int .i64 s0.D.a1, .int .i64 s0.D.a2, .int .i64 s0.D.a3, .int .i64 s0.D.a4, .int .i64 s0.D.a5, .int .i64 s0.D.a6, .int .i64 s0.g, .int .i64 s1.n, .int .i64 s1.d, .int .i64 s1.t, .int .i64 s1.D.a0, .int .i64 s1.D.a1, .int .i64 s1.D.a2, .int .i64 s1.D.a3, .int .i64 s1.D.a4, .int .i64 s1.D.a5, .int .i64 s1.D.a6, .int .i64 s1.g] 36
  have hB : Below w.heap.size w (w.alloc (.cells #[.int .i64 s0.n, .int .i64 s0.d, .int .i64 s0.t, .int .i64 s0.D.a0, .int .i64 s0.D.a1, .int .i64 s0.D.a2, .int .i64 s0.D.a3, .int .i64 s0.D.a4, .int .i64 s0.D.a5, .int .i64 s0.D.a6, .int .i64 s0.g, .int .i64 s1.n, .int .i64 s1.d, .int .i64 s1.t, .int .i64 s1.D.a0, .int .i64 s1.D.a1, .int .i64 s1.D.a2, .int .i64 s1.D.a3, .int .i64 s1.D.a4, .int .i64 s1.D.a5, .int .i64 s1.D.a6, .int .i64 s1.g] 36)) := by go_grown
  clear rA0 rB fA0 fB rA fA gA f0 f1 i0 i1
  simp only [Wo.v, Wo.plain, Wo.setG, wZero, dZero] at kS0 kS1 kM1 kM2 kD1 kD2 kP kR
  go_enter Tryd.func6, Tryd.ntmps6
  go_wp2_with fail
  generalize (w.alloc (.cells #[.int .i64 s0.n, .int .i64 s0.d, .int .i64 s0.t, .int .i64 s0.D.a0, .int .i64 s0.D.a1, .int .i64 s0.D.a2, .int .i64 s0.D.a3, .int .i64 s0.D.a4, .int .i64 s0.D.a5, .int .i64 s0.D.a6, .int .i64 s0.g, .int .i64 s1.n, .int .i64 s1.d, .int .i64 s1.t, .int .i64 s1.D.a0, .int .i64 s1.D.a1, .int .i64 s1.D.a2, .int .i64 s1.D.a3, .int .i64 s1.D.a4, .int .i64 s1.D.a5, .int .i64 s1.D.a6, .int .i64 s1.g] 36)) = V0 at *
  refine (awake_yes _ (hE.below hB)).mono ?_
  rintro e w1 ⟨rfl, hb⟩
  replace hB := Dims.Below.goB hB hB.size hb
  replace hS := hS.go hb
  clear hb
  have x21 := hS.1 21 (by simp)
  have xf := hS.2.1
  simp only [List.getElem?_toArray, List.getElem?_cons_zero, List.getElem?_cons_succ] at x21
  replace hS := hS.set 21 (by simp) (.int .i64 0)
  replace hB := hB.setCell (p := ⟨w.heap.size, 21, none⟩) (Nat.le_refl _) (.int .i64 0)
  go_upto_region 3 with fail
  clear x21 xf
  generalize w1.setCell ⟨w.heap.size, 21, none⟩ (.int .i64 0) = U1 at *
  simp only [List.setIfInBounds_toArray, List.set_cons_succ, List.set_cons_zero] at hS
  have x0 := hS.1 0 (by simp)
  have x1 := hS.1 1 (by simp)
  have x2 := hS.1 2 (by simp)
  have x3 := hS.1 3 (by simp)
  have x4 := hS.1 4 (by simp)
  have x5 := hS.1 5 (by simp)
  have x6 := hS.1 6 (by simp)
  have x7 := hS.1 7 (by simp)
  have x8 := hS.1 8 (by simp)
  have x9 := hS.1 9 (by simp)
  have x10 := hS.1 10 (by simp)
  simp only [List.getElem?_toArray, List.getElem?_cons_zero, List.getElem?_cons_succ] at x0 x1 x2 x3 x4 x5 x6 x7 x8 x9 x10
  go_wp2_with fail
  refine (kS0 _).mono ?_
  rintro e w2 ⟨rfl, hb⟩
  replace hB := Dims.Below.goB hB hB.size hb
  replace hS := hS.go hb
  clear hb
  clear x0 x1 x2 x3 x4 x5 x6 x7 x8 x9 x10
  have hA := LiesW.new w2 A0
  simp only [Wo.cs, wZero, dZero] at hA
  have z_hA := hB.size
  have lt_hS_hA := hS.2.2
  have hu : Below w2.heap.size w2 (w2.alloc (.cells #[.int .i64 A0.n, .int .i64 A0.d, .int .i64 A0.t, .int .i64 A0.D.a0, .int .i64 A0.D.a1, .int .i64 A0.D.a2, .int .i64 A0.D.a3, .int .i64 A0.D.a4, .int .i64 A0.D.a5, .int .i64 A0.D.a6, .int .i64 A0.g] 40)) := by go_grown
  replace hB := Dims.Below.goB hB hB.size hu
  replace hS := hS.go hu
  clear hu
  have x11 := hS.1 11 (by simp)
  have x12 := hS.1 12 (by simp)
  have x13 := hS.1 13 (by simp)
  have x14 := hS.1 14 (by simp)
  have x15 := hS.1 15 (by simp)
  have x16 := hS.1 16 (by simp)
  have x17 := hS.1 17 (by simp)
  have x18 := hS.1 18 (by simp)
  have x19 := hS.1 19 (by simp)
  have x20 := hS.1 20 (by simp)
  have x21 := hS.1 21 (by simp)
  simp only [List.getElem?_toArray, List.getElem?_cons_zero, List.getElem?_cons_succ] at x11 x12 x13 x14 x15 x16 x17 x18 x19 x20 x21
  go_wp2_with fail
  generalize (w2.alloc (.cells #[.int .i64 A0.n, .int .i64 A0.d, .int .i64 A0.t, .int .i64 A0.D.a0, .int .i64 A0.D.a1, .int .i64 A0.D.a2, .int .i64 A0.D.a3, .int .i64 A0.D.a4, .int .i64 A0.D.a5, .int .i64 A0.D.a6, .int .i64 A0.g] 40)) = V1 at *
  refine (kS1 _).mono ?_
  rintro e w3 ⟨rfl, hb⟩
  replace hB := Dims.Below.goB hB hB.size hb
  replace hS := hS.go hb
  replace hA := hA.go hb
  clear hb
  clear x11 x12 x13 x14 x15 x16 x17 x18 x19 x20 x21
  have hBb := LiesW.new w3 B
  simp only [Wo.cs, wZero, dZero] at hBb
  have z_hBb := hB.size
  have lt_hS_hBb := hS.2.2
  have lt_hA_hBb := hA.2.2
  have hu : Below w3.heap.size w3 (w3.alloc (.cells #[.int .i64 B.n, .int .i64 B.d, .int .i64 B.t, .int .i64 B.D.a0, .int .i64 B.D.a1, .int .i64 B.D.a2, .int .i64 B.D.a3, .int .i64 B.D.a4, .int .i64 B.D.a5, .int .i64 B.D.a6, .int .i64 B.g] 40)) := by go_grown
  replace hB := Dims.Below.goB hB hB.size hu
  replace hS := hS.go hu
  replace hA := hA.go hu
  clear hu
  go_upto_region 5 with fail
  generalize (w3.alloc (.cells #[.int .i64 B.n, .int .i64 B.d, .int .i64 B.t, .int .i64 B.D.a0, .int .i64 B.D.a1, .int .i64 B.D.a2, .int .i64 B.D.a3, .int .i64 B.D.a4, .int .i64 B.D.a5, .int .i64 B.D.a6, .int .i64 B.g] 40)) = V2 at *
  obtain ⟨a0, a1, a2, a3, a4, a5, a6, a7, a8, a9, a10⟩ := hA.cells
  have af := hA.2.1
  go_upto_region 6 with fail
  rw [show 1 + tag.tmod 99 % 99 = T from HT.out]
  clear a0 a1 a2 a3 a4 a5 a6 a7 a8 a9 a10 af
  replace hA := hA.setG T
  replace hS := hS.other w2.heap.size 10 (.int .i64 T) (by omega)
  replace hBb := hBb.other w2.heap.size 10 (.int .i64 T) (by omega)
  replace hB := hB.setCell (p := ⟨w2.heap.size, 10, none⟩) z_hA (.int .i64 T)
  generalize V2.setCell ⟨w2.heap.size, 10, none⟩ (.int .i64 T) = U2 at *
  simp only [Wo.setG] at hA
  clear hS HT
  obtain ⟨a0, a1, a2, a3, a4, a5, a6, a7, a8, a9, a10⟩ := hA.cells
  obtain ⟨b0, b1, b2, b3, b4, b5, b6, b7, b8, b9, b10⟩ := hBb.cells
  go_wp2_with fail
  refine (kM1 _ (hE.below hB).1).mono ?_
  rintro e w4 ⟨rfl, hb⟩
  replace hB := Dims.Below.goB hB hB.size hb
  replace hA := hA.go hb
  replace hBb := hBb.go hb
  clear hb
  clear a0 a1 a2 a3 a4 a5 a6 a7 a8 a9 a10 b0 b1 b2 b3 b4 b5 b6 b7 b8 b9 b10
  have hu : Below w4.heap.size w4 (w4.alloc (.cells #[.int .i64 0, .int .i64 0, .int .i64 0, .int .i64 0, .int .i64 0, .int .i64 0, .int .i64 0, .int .i64 0, .int .i64 0, .int .i64 0, .int .i64 0] 40)) := by go_grown
  replace hB := Dims.Below.goB hB hB.size hu
  replace hA := hA.go hu
  replace hBb := hBb.go hu
  clear hu
  obtain ⟨a0, a1, a2, a3, a4, a5, a6, a7, a8, a9, a10⟩ := hA.cells
  obtain ⟨b0, b1, b2, b3, b4, b5, b6, b7, b8, b9, b10⟩ := hBb.cells
  go_wp2_with fail
  generalize (w4.alloc (.cells #[.int .i64 0, .int .i64 0, .int .i64 0, .int .i64 0, .int .i64 0, .int .i64 0, .int .i64 0, .int .i64 0, .int .i64 0, .int .i64 0, .int .i64 0] 40)) = V3 at *
  refine (kM2 _ (hE.below hB).1).mono ?_
  rintro e w5 ⟨rfl, hb⟩
  replace hB := Dims.Below.goB hB hB.size hb
  replace hA := hA.go hb
  replace hBb := hBb.go hb
  clear hb
  clear a0 a1 a2 a3 a4 a5 a6 a7 a8 a9 a10 b0 b1 b2 b3 b4 b5 b6 b7 b8 b9 b10
  have hu : Below w5.heap.size w5 (w5.alloc (.cells #[.int .i64 0, .int .i64 0, .int .i64 0, .int .i64 0, .int .i64 0, .int .i64 0, .int .i64 0, .int .i64 0, .int .i64 0, .int .i64 0, .int .i64 0] 40)) := by go_grown
  replace hB := Dims.Below.goB hB hB.size hu
  replace hA := hA.go hu
  replace hBb := hBb.go hu
  clear hu
  obtain ⟨a0, a1, a2, a3, a4, a5, a6, a7, a8, a9, a10⟩ := hA.cells
  obtain ⟨b0, b1, b2, b3, b4, b5, b6, b7, b8, b9, b10⟩ := hBb.cells
  go_wp2_with fail
  generalize (w5.alloc (.cells #[.int .i64 0, .int .i64 0, .int .i64 0, .int .i64 0, .int .i64 0, .int .i64 0, .int .i64 0, .int .i64 0, .int .i64 0, .int .i64 0, .int .i64 0] 40)) = V4 at *
  refine (kD1 _ (hE.below hB).1).mono ?_
  rintro e w6 ⟨rfl, hb⟩
  replace hB := Dims.Below.goB hB hB.size hb
  replace hA := hA.go hb
  replace hBb := hBb.go hb
  clear hb
  clear a0 a1 a2 a3 a4 a5 a6 a7 a8 a9 a10 b0 b1 b2 b3 b4 b5 b6 b7 b8 b9 b10
  have hu : Below w6.heap.size w6 (w6.alloc (.cells #[.int .i64 0, .int .i64 0, .int .i64 0, .int .i64 0, .int .i64 0, .int .i64 0, .int .i64 0, .int .i64 0, .int .i64 0, .int .i64 0, .int .i64 0] 40)) := by go_grown
  replace hB := Dims.Below.goB hB hB.size hu
  replace hA := hA.go hu
  replace hBb := hBb.go hu
  clear hu
  obtain ⟨a0, a1, a2, a3, a4, a5, a6, a7, a8, a9, a10⟩ := hA.cells
  obtain ⟨b0, b1, b2, b3, b4, b5, b6, b7, b8, b9, b10⟩ := hBb.cells
  go_wp2_with fail
  generalize (w6.alloc (.cells #[.int .i64 0, .int .i64 0, .int .i64 0, .int .i64 0, .int .i64 0, .int .i64 0, .int .i64 0, .int .i64 0, .int .i64 0, .int .i64 0, .int .i64 0] 40)) = V5 at *
  refine (kD2 _ (hE.below hB).1).mono ?_
  rintro e w7 ⟨rfl, hb⟩
  replace hB := Dims.Below.goB hB hB.size hb
  replace hA := hA.go hb
  replace hBb := hBb.go hb
  clear hb
  clear a0 a1 a2 a3 a4 a5 a6 a7 a8 a9 a10 b0 b1 b2 b3 b4 b5 b6 b7 b8 b9 b10
  have hu : Below w7.heap.size w7 (w7.alloc (.cells #[.int .i64 0, .int .i64 0, .int .i64 0, .int .i64 0, .int .i64 0, .int .i64 0, .int .i64 0, .int .i64 0, .int .i64 0, .int .i64 0, .int .i64 0] 40)) := by go_grown
  replace hB := Dims.Below.goB hB hB.size hu
  replace hA := hA.go hu
  replace hBb := hBb.go hu
  clear hu
  obtain ⟨a0, a1, a2, a3, a4, a5, a6, a7, a8, a9, a10⟩ := hA.cells
  obtain ⟨b0, b1, b2, b3, b4, b5, b6, b7, b8, b9, b10⟩ := hBb.cells
  go_wp2_with fail
  generalize (w7.alloc (.cells #[.int .i64 0, .int .i64 0, .int .i64 0, .int .i64 0, .int .i64 0, .int .i64 0, .int .i64 0, .int .i64 0, .int .i64 0, .int .i64 0, .int .i64 0] 40)) = V6 at *
  refine (kP _ (hE.below hB).1).mono ?_
  rintro e w8 ⟨rfl, hb⟩
  replace hB := Dims.Below.goB hB hB.size hb
  replace hA := hA.go hb
  replace hBb := hBb.go hb
  clear hb
  clear a0 a1 a2 a3 a4 a5 a6 a7 a8 a9 a10 b0 b1 b2 b3 b4 b5 b6 b7 b8 b9 b10
  have hu : Below w8.heap.size w8 (w8.alloc (.cells #[.int .i64 0, .int .i64 0, .int .i64 0, .int .i64 0, .int .i64 0, .int .i64 0, .int .i64 0, .int .i64 0, .int .i64 0, .int .i64 0, .int .i64 0] 40)) := by go_grown
  replace hB := Dims.Below.goB hB hB.size hu
  replace hA := hA.go hu
  replace hBb := hBb.go hu
  clear hu
  obtain ⟨a0, a1, a2, a3, a4, a5, a6, a7, a8, a9, a10⟩ := hA.cells
  obtain ⟨b0, b1, b2, b3, b4, b5, b6, b7, b8, b9, b10⟩ := hBb.cells
  go_wp2_with fail
  generalize (w8.alloc (.cells #[.int .i64 0, .int .i64 0, .int .i64 0, .int .i64 0, .int .i64 0, .int .i64 0, .int .i64 0, .int .i64 0, .int .i64 0, .int .i64 0, .int .i64 0] 40)) = V7 at *
  refine (kR _ (hE.below hB).1).mono ?_
  rintro e w9 ⟨rfl, hb⟩
  replace hB := Dims.Below.goB hB hB.size hb
  replace hA := hA.go hb
  replace hBb := hBb.go hb
  clear hb
  clear a0 a1 a2 a3 a4 a5 a6 a7 a8 a9 a10 b0 b1 b2 b3 b4 b5 b6 b7 b8 b9 b10
  go_wp2
  go_ret
  exact ⟨rfl, hB⟩

theorem special_law (a0 a1 a2 a3 a4 a5 a6 a7 a8 a9 a10 a11 a12 a13 a14 a15 a16 a17 a18 a19 a20 a21 tag n : Int) (w : World) (hE : EnvW w) (b_a0 : -9223372036854775808 ≤ a0 ∧ a0 ≤ 9223372036854775807) (b_a1 : -9223372036854775808 ≤ a1 ∧ a1 ≤ 9223372036854775807) (b_a2 : -9223372036854775808 ≤ a2 ∧ a2 ≤ 9223372036854775807) (b_a3 : -9223372036854775808 ≤ a3 ∧ a3 ≤ 9223372036854775807) (b_a4 : -9223372036854775808 ≤ a4 ∧ a4 ≤ 9223372036854775807) (b_a5 : -9223372036854775808 ≤ a5 ∧ a5 ≤ 9223372036854775807) (b_a6 : -9223372036854775808 ≤ a6 ∧ a6 ≤ 9223372036854775807) (b_a7 : -9223372036854775808 ≤ a7 ∧ a7 ≤ 9223372036854775807) (b_a8 : -9223372036854775808 ≤ a8 ∧ a8 ≤ 9223372036854775807) (b_a9 : -9223372036854775808 ≤ a9 ∧ a9 ≤ 9223372036854775807) (b_a10 : -9223372036854775808 ≤ a10 ∧ a10 ≤ 9223372036854775807) (b_a11 : -9223372036854775808 ≤ a11 ∧ a11 ≤ 9223372036854775807) (b_a12 : -9223372036854775808 ≤ a12 ∧ a12 ≤ 9223372036854775807) (b_a13 : -9223372036854775808 ≤ a13 ∧ a13 ≤ 9223372036854775807) (b_a14 : -9223372036854775808 ≤ a14 ∧ a14 ≤ 9223372036854775807) (b_a15 : -9223372036854775808 ≤ a15 ∧ a15 ≤ 9223372036854775807) (b_a16 : -9223372036854775808 ≤ a16 ∧ a16 ≤ 9223372036854775807) (b_a17 : -9223372036854775808 ≤ a17 ∧ a17 ≤ 9223372036854775807) (b_a18 : -9223372036854775808 ≤ a18 ∧ a18 ≤ 9223372036854775807) (b_a19 : -9223372036854775808 ≤ a19 ∧ a19 ≤ 9223372036854775807) (b_a20 : -9223372036854775808 ≤ a20 ∧ a20 ≤ 9223372036854775807) (b_a21 : -9223372036854775808 ≤ a21 ∧ a21 ≤ 9223372036854775807) (b_tag : -9223372036854775808 ≤ tag ∧ tag ≤ 9223372036854775807) (b_n : -9223372036854775808 ≤ n ∧ n ≤ 9223372036854775807) :
    Calls Tryd.prog 6 #[.agg #[.int .i64 a0, .int .i64 a1, .int .i64 a2, .int .i64 a3, .int .i64 a4, .int .i64 a5, .int .i64 a6, .int .i64 a7, .int .i64 a8, .int .i64 a9, .int .i64 a10, .int .i64 a11, .int .i64 a12, .int .i64 a13, .int .i64 a14, .int .i64 a15, .int .i64 a16, .int .i64 a17, .int .i64 a18, .int .i64 a19, .int .i64 a20, .int .i64 a21], .int .i64 tag, .int .i64 n] w fun e w' => e = .returned (.bool true) ∧ Below w.heap.size w w' :=
  special_walk ⟨a0, a1, a2, ⟨a3, a4, a5, a6, a7, a8, a9⟩, a10⟩ ⟨a11, a12, a13, ⟨a14, a15, a16, a17, a18, a19, a20⟩, a21⟩ tag n w hE ⟨b_a0.2, b_a1.2, Dims.seven (p := fun i => -9223372036854775808 ≤ D7.get ⟨a3, a4, a5, a6, a7, a8, a9⟩ i ∧ D7.get ⟨a3, a4, a5, a6, a7, a8, a9⟩ i ≤ 9223372036854775807) b_a3 b_a4 b_a5 b_a6 b_a7 b_a8 b_a9, b_a10.1, b_a10.2⟩ ⟨b_a11.2, b_a12.2, Dims.seven (p := fun i => -9223372036854775808 ≤ D7.get ⟨a14, a15, a16, a17, a18, a19, a20⟩ i ∧ D7.get ⟨a14, a15, a16, a17, a18, a19, a20⟩ i ≤ 9223372036854775807) b_a14 b_a15 b_a16 b_a17 b_a18 b_a19 b_a20, b_a21.1, b_a21.2⟩ b_a2 b_a13 b_tag b_n

end Go.Proofs.YtndinbefljajcaaDoor.Worth

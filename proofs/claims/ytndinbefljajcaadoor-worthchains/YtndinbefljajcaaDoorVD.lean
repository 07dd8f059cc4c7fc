/-
  The walk of the law WorthChains: it returns true, for every argument of its kind; old memory stays.
-/
import Derived.Test.YtndinbefljajcaaDoorVK
namespace Go.Proofs.YtndinbefljajcaaDoor.Worth
open Go.RowKit Go.Shelf
open Go.Proofs.YtndinbefljajcaaDoor.Frac (Got OfTen Room specG)
open Go.Proofs.YtndinbefljajcaaDoor.Dims (D7 dZero dOf Lies7 get_of)
set_option linter.unusedVariables false
set_option linter.unusedSimpArgs false

set_option maxRecDepth 100000 in
set_option maxHeartbeats 8000000 in
theorem chain_over (s0 s1 s2 : Wo) (w : World) (hE : EnvW w) (f0 : s0.Fine) (f1 : s1.Fine) (f2 : s2.Fine) (i0 : -9223372036854775808 ≤ s0.t ∧ s0.t ≤ 9223372036854775807) (i1 : -9223372036854775808 ≤ s1.t ∧ s1.t ≤ 9223372036854775807) (i2 : -9223372036854775808 ≤ s2.t ∧ s2.t ≤ 9223372036854775807) (ho : ¬ ((mulW (specW s0.plain) (specW s1.plain)).2 = 0 ∧ (mulW (specW s1.plain) (specW s2.plain)).2 = 0)) :
    Calls Tryd.prog 8 #[.agg #[.int .i64 s0.n, .int .i64 s0.d, .int .i64 s0.t, .int .i64 s0.D.a0, .int .i64 s0.D.a1, .int .i64 s0.D.a2, .int .i64 s0.D.a3, .int .i64 s0.D.a4, .int .i64 s0.D.a5, .int .i64 s0.D.a6, .int .i64 s0.g, .int .i64 s1.n, .int .i64 s1.d, .int .i64 s1.t, .int .i64 s1.D.a0, .int .i64 s1.D.a1, .int .i64 s1.D.a2, .int .i64 s1.D.a3, .int .i64 s1.D.a4, .int .i64 s1.D.a5, .int .i64 s1.D.a6, .int .i64 s1.g, .int .i64 s2.n, .int .i64 s2.d, .int .i64 s2.t, .int .i64 s2.D.a0, .int .i64 s2.D.a1, .int .i64 s2.D.a2, .int .i64 s2.D.a3, .int .i64 s2.D.a4, .int .i64 s2.D.a5, .int .i64 s2.D.a6, .int .i64 s2.g]] w fun e w' => e = .returned (.bool true) ∧ Below w.heap.size w w' := by
  have kS0 := fun V => spec_any s0.plain V (plain_fine f0) i0.1 i0.2
  have kS1 := fun V => spec_any s1.plain V (plain_fine f1) i1.1 i1.2
  have kS2 := fun V => spec_any s2.plain V (plain_fine f2) i2.1 i2.2
  have mA := spec_mild s0 f0
  have mB := spec_mild s1 f1
  have mC := spec_mild s2 f2
  generalize specW s0.plain = A at *
  generalize specW s1.plain = B at *
  generalize specW s2.plain = C at *
  have kM1 := fun V hT => mul_any A B V hT mA.fine mB.fine
  have kM2 := fun V hT => mul_any B C V hT mB.fine mC.fine
  obtain ⟨X, e, hR⟩ : ∃ X e, mulW A B = (X, e) := ⟨_, _, rfl⟩
  obtain ⟨Y, f, hQ⟩ : ∃ X e, mulW B C = (X, e) := ⟨_, _, rfl⟩
  have he := mul_over mA mB (by omega)
  have hf := mul_over mB mC (by omega)
  rw [hR, hQ] at ho
  rw [hR] at he
  rw [hQ] at hf
  simp only at ho he hf
  rw [hR] at kM1
  rw [hQ] at kM2
  have hO : (e = 0 ∧ f = 10) ∨ (e = 10 ∧ f = 0) ∨ (e = 10 ∧ f = 10) := by omega
  clear ho he hf hR hQ
  have hS := LiesC.new w #[.int .i64 s0.n, .int .i64 s0.d, .int .i64 s0.t, .int .i64 s0.D.a0, .int .i64 s0.D.a1, .int .i64 s0.D.a2, .int .i64 s0.D.a3, .int .i64 s0.D.a4, .int .i64 s0.D.a5, .int .i64 s0.D.a6, .int .i64 s0.g, .int .i64 s1.n, .int .i64 s1.d, .int .i64 s1.t, .int .i64 s1.D.a0, .int .i64 s1.D.a1, .int .i64 s1.D.a2, .int .i64 s1.D.a3, .int .i64 s1.D.a4, .int .i64 s1.D.a5, .int .i64 s1.D.a6, .int .i64 s1.g, .int .i64 s2.n, .int .i64 s2.d, .int .i64 s2.t, .int .i64 s2.D.a0, .int .i64 s2.D.a1, .int .i64 s2.D.a2, .int .i64 s2.D.a3, .int .i64 s2.D.a4, .int .i64 s2.D.a5, .int .i64 s2.D.a6, .int .i64 s2.g] 53
  have hB : Below w.heap.size w (w.alloc (.cells #[.int .i64 s0.n, .int .i64 s0.d, .int .i64 s0.t, .int .i64 s0.D.a0, .int .i64 s0.D.a1, .int .i64 s0.D.a2, .int .i64 s0.D.a3, .int .i64 s0.D.a4, .int .i64 s0.D.a5, .int .i64 s0.D.a6, .int .i64 s0.g, .int .i64 s1.n, .int .i64 s1.d, .int .i64 s1.t, .int .i64 s1.D.a0, .int .i64 s1.D.a1, .int .i64 s1.D.a2, .int .i64 s1.D.a3, .int .i64 s1.D.a4, .int .i64 s1.D.a5, .int .i64 s1.D.a6, .int .i64 s1.g, .int .i64 s2.n, .int .i64 s2.d, .int .i64 s2.t, .int .i64 s2.D.a0, .int .i64 s2.D.a1, .int .i64 s2.D.a2, .int .i64 s2.D.a3, .int .i64 s2.D.a4, .int .i64 s2.D.a5, .int .i64 s2.D.a6, .int .i64 s2.g] 53)) := by go_grown
  clear mA mB mC f0 f1 f2 i0 i1 i2
  simp only [Wo.v, Wo.plain] at kS0 kS1 kS2 kM1 kM2
  go_enter Tryd.func8, Tryd.ntmps8
  go_wp2_with fail
  generalize (w.alloc (.cells #[.int .i64 s0.n, .int .i64 s0.d, .int .i64 s0.t, .int .i64 s0.D.a0, .int .i64 s0.D.a1, .int .i64 s0.D.a2, .int .i64 s0.D.a3, .int .i64 s0.D.a4, .int .i64 s0.D.a5, .int .i64 s0.D.a6, .int .i64 s0.g, .int .i64 s1.n, .int .i64 s1.d, .int .i64 s1.t, .int .i64 s1.D.a0, .int .i64 s1.D.a1, .int .i64 s1.D.a2, .int .i64 s1.D.a3, .int .i64 s1.D.a4, .int .i64 s1.D.a5, .int .i64 s1.D.a6, .int .i64 s1.g, .int .i64 s2.n, .int .i64 s2.d, .int .i64 s2.t, .int .i64 s2.D.a0, .int .i64 s2.D.a1, .int .i64 s2.D.a2, .int .i64 s2.D.a3, .int .i64 s2.D.a4, .int .i64 s2.D.a5, .int .i64 s2.D.a6, .int .i64 s2.g] 53)) = V0 at *
  refine (awake_yes _ (hE.below hB)).mono ?_
  rintro e w1 ⟨rfl, hb⟩
  replace hB := Dims.Below.goB hB hB.size hb
  replace hS := hS.go hb
  clear hb
  go_wp2
  refine wp_loop_rounds 4 ?_
  have x10 := hS.1 10 (by simp)
  have xf := hS.2.1
  simp only [List.getElem?_toArray, List.getElem?_cons_zero, List.getElem?_cons_succ] at x10
  replace hS := hS.set 10 (by simp) (.int .i64 0)
  replace hB := hB.setCell (p := ⟨w.heap.size, 10, none⟩) (Nat.le_refl _) (.int .i64 0)
  rw [rounds_succ]
  go_wp2
  clear x10 xf
  generalize w1.setCell ⟨w.heap.size, 10, none⟩ (.int .i64 0) = U1 at *
  simp only [List.setIfInBounds_toArray, List.set_cons_succ, List.set_cons_zero] at hS
  have x21 := hS.1 21 (by simp)
  have xf := hS.2.1
  simp only [List.getElem?_toArray, List.getElem?_cons_zero, List.getElem?_cons_succ] at x21
  replace hS := hS.set 21 (by simp) (.int .i64 0)
  replace hB := hB.setCell (p := ⟨w.heap.size, 21, none⟩) (Nat.le_refl _) (.int .i64 0)
  rw [rounds_succ]
  go_wp2
  clear x21 xf
  generalize U1.setCell ⟨w.heap.size, 21, none⟩ (.int .i64 0) = U2 at *
  simp only [List.setIfInBounds_toArray, List.set_cons_succ, List.set_cons_zero] at hS
  have x32 := hS.1 32 (by simp)
  have xf := hS.2.1
  simp only [List.getElem?_toArray, List.getElem?_cons_zero, List.getElem?_cons_succ] at x32
  replace hS := hS.set 32 (by simp) (.int .i64 0)
  replace hB := hB.setCell (p := ⟨w.heap.size, 32, none⟩) (Nat.le_refl _) (.int .i64 0)
  rw [rounds_succ]
  go_wp2
  clear x32 xf
  generalize U2.setCell ⟨w.heap.size, 32, none⟩ (.int .i64 0) = U3 at *
  simp only [List.setIfInBounds_toArray, List.set_cons_succ, List.set_cons_zero] at hS
  rw [rounds_succ]
  have x0 := hS.1 0 (by simp)
  have x1 := hS.1 1 (by simp)
  have x2 := hS.1 2 (by simp)
  have x3 := hS.1 3 (by simp)
  have x4 := hS.1 4 (by simp)
  have x5 := hS.1 5 (by simp)
  have x6 := hS.1 6 (by simp)
  have x7 := hS.1 7 (by simp)
  have x8 := hS.1 8 (by simp)
  have x9 := hS.1 9 (by simp)
  have x10 := hS.1 10 (by simp)
  simp only [List.getElem?_toArray, List.getElem?_cons_zero, List.getElem?_cons_succ] at x0 x1 x2 x3 x4 x5 x6 x7 x8 x9 x10
  go_wp2_with fail
  refine (kS0 _).mono ?_
  rintro e w2 ⟨rfl, hb⟩
  replace hB := Dims.Below.goB hB hB.size hb
  replace hS := hS.go hb
  clear hb
  clear x0 x1 x2 x3 x4 x5 x6 x7 x8 x9 x10
  have hA := LiesW.new w2 A
  simp only [Wo.cs, wZero, dZero] at hA
  have z_hA := hB.size
  have lt_hS_hA := hS.2.2
  have hu : Below w2.heap.size w2 (w2.alloc (.cells #[.int .i64 A.n, .int .i64 A.d, .int .i64 A.t, .int .i64 A.D.a0, .int .i64 A.D.a1, .int .i64 A.D.a2, .int .i64 A.D.a3, .int .i64 A.D.a4, .int .i64 A.D.a5, .int .i64 A.D.a6, .int .i64 A.g] 40)) := by go_grown
  replace hB := Dims.Below.goB hB hB.size hu
  replace hS := hS.go hu
  clear hu
  have x11 := hS.1 11 (by simp)
  have x12 := hS.1 12 (by simp)
  have x13 := hS.1 13 (by simp)
  have x14 := hS.1 14 (by simp)
  have x15 := hS.1 15 (by simp)
  have x16 := hS.1 16 (by simp)
  have x17 := hS.1 17 (by simp)
  have x18 := hS.1 18 (by simp)
  have x19 := hS.1 19 (by simp)
  have x20 := hS.1 20 (by simp)
  have x21 := hS.1 21 (by simp)
  simp only [List.getElem?_toArray, List.getElem?_cons_zero, List.getElem?_cons_succ] at x11 x12 x13 x14 x15 x16 x17 x18 x19 x20 x21
  go_wp2_with fail
  generalize (w2.alloc (.cells #[.int .i64 A.n, .int .i64 A.d, .int .i64 A.t, .int .i64 A.D.a0, .int .i64 A.D.a1, .int .i64 A.D.a2, .int .i64 A.D.a3, .int .i64 A.D.a4, .int .i64 A.D.a5, .int .i64 A.D.a6, .int .i64 A.g] 40)) = V1 at *
  refine (kS1 _).mono ?_
  rintro e w3 ⟨rfl, hb⟩
  replace hB := Dims.Below.goB hB hB.size hb
  replace hS := hS.go hb
  replace hA := hA.go hb
  clear hb
  clear x11 x12 x13 x14 x15 x16 x17 x18 x19 x20 x21
  have hBb := LiesW.new w3 B
  simp only [Wo.cs, wZero, dZero] at hBb
  have z_hBb := hB.size
  have lt_hS_hBb := hS.2.2
  have lt_hA_hBb := hA.2.2
  have hu : Below w3.heap.size w3 (w3.alloc (.cells #[.int .i64 B.n, .int .i64 B.d, .int .i64 B.t, .int .i64 B.D.a0, .int .i64 B.D.a1, .int .i64 B.D.a2, .int .i64 B.D.a3, .int .i64 B.D.a4, .int .i64 B.D.a5, .int .i64 B.D.a6, .int .i64 B.g] 40)) := by go_grown
  replace hB := Dims.Below.goB hB hB.size hu
  replace hS := hS.go hu
  replace hA := hA.go hu
  clear hu
  have x22 := hS.1 22 (by simp)
  have x23 := hS.1 23 (by simp)
  have x24 := hS.1 24 (by simp)
  have x25 := hS.1 25 (by simp)
  have x26 := hS.1 26 (by simp)
  have x27 := hS.1 27 (by simp)
  have x28 := hS.1 28 (by simp)
  have x29 := hS.1 29 (by simp)
  have x30 := hS.1 30 (by simp)
  have x31 := hS.1 31 (by simp)
  have x32 := hS.1 32 (by simp)
  simp only [List.getElem?_toArray, List.getElem?_cons_zero, List.getElem?_cons_succ] at x22 x23 x24 x25 x26 x27 x28 x29 x30 x31 x32
  go_wp2_with fail
  generalize (w3.alloc (.cells #[.int .i64 B.n, .int .i64 B.d, .int .i64 B.t, .int .i64 B.D.a0, .int .i64 B.D.a1, .int .i64 B.D.a2, .int .i64 B.D.a3, .int .i64 B.D.a4, .int .i64 B.D.a5, .int .i64 B.D.a6, .int .i64 B.g] 40)) = V2 at *
  refine (kS2 _).mono ?_
  rintro e w4 ⟨rfl, hb⟩
  replace hB := Dims.Below.goB hB hB.size hb
  replace hS := hS.go hb
  replace hA := hA.go hb
  replace hBb := hBb.go hb
  clear hb
  clear x22 x23 x24 x25 x26 x27 x28 x29 x30 x31 x32
  have hC := LiesW.new w4 C
  simp only [Wo.cs, wZero, dZero] at hC
  have z_hC := hB.size
  have lt_hS_hC := hS.2.2
  have lt_hA_hC := hA.2.2
  have lt_hBb_hC := hBb.2.2
  have hu : Below w4.heap.size w4 (w4.alloc (.cells #[.int .i64 C.n, .int .i64 C.d, .int .i64 C.t, .int .i64 C.D.a0, .int .i64 C.D.a1, .int .i64 C.D.a2, .int .i64 C.D.a3, .int .i64 C.D.a4, .int .i64 C.D.a5, .int .i64 C.D.a6, .int .i64 C.g] 40)) := by go_grown
  replace hB := Dims.Below.goB hB hB.size hu
  replace hS := hS.go hu
  replace hA := hA.go hu
  replace hBb := hBb.go hu
  clear hu
  clear hS
  obtain ⟨a0, a1, a2, a3, a4, a5, a6, a7, a8, a9, a10⟩ := hA.cells
  obtain ⟨b0, b1, b2, b3, b4, b5, b6, b7, b8, b9, b10⟩ := hBb.cells
  go_wp2_with fail
  generalize (w4.alloc (.cells #[.int .i64 C.n, .int .i64 C.d, .int .i64 C.t, .int .i64 C.D.a0, .int .i64 C.D.a1, .int .i64 C.D.a2, .int .i64 C.D.a3, .int .i64 C.D.a4, .int .i64 C.D.a5, .int .i64 C.D.a6, .int .i64 C.g] 40)) = V3 at *
  refine (kM1 _ (hE.below hB).1).mono ?_
  rintro e w5 ⟨rfl, hb⟩
  replace hB := Dims.Below.goB hB hB.size hb
  replace hA := hA.go hb
  replace hBb := hBb.go hb
  replace hC := hC.go hb
  clear hb
  clear a0 a1 a2 a3 a4 a5 a6 a7 a8 a9 a10 b0 b1 b2 b3 b4 b5 b6 b7 b8 b9 b10
  have hX := LiesW.new w5 X
  simp only [Wo.cs, wZero, dZero] at hX
  have z_hX := hB.size
  have lt_hA_hX := hA.2.2
  have lt_hBb_hX := hBb.2.2
  have lt_hC_hX := hC.2.2
  have hu : Below w5.heap.size w5 (w5.alloc (.cells #[.int .i64 X.n, .int .i64 X.d, .int .i64 X.t, .int .i64 X.D.a0, .int .i64 X.D.a1, .int .i64 X.D.a2, .int .i64 X.D.a3, .int .i64 X.D.a4, .int .i64 X.D.a5, .int .i64 X.D.a6, .int .i64 X.g] 40)) := by go_grown
  replace hB := Dims.Below.goB hB hB.size hu
  replace hA := hA.go hu
  replace hBb := hBb.go hu
  replace hC := hC.go hu
  clear hu
  obtain ⟨b0, b1, b2, b3, b4, b5, b6, b7, b8, b9, b10⟩ := hBb.cells
  obtain ⟨c0, c1, c2, c3, c4, c5, c6, c7, c8, c9, c10⟩ := hC.cells
  go_wp2_with fail
  generalize (w5.alloc (.cells #[.int .i64 X.n, .int .i64 X.d, .int .i64 X.t, .int .i64 X.D.a0, .int .i64 X.D.a1, .int .i64 X.D.a2, .int .i64 X.D.a3, .int .i64 X.D.a4, .int .i64 X.D.a5, .int .i64 X.D.a6, .int .i64 X.g] 40)) = V4 at *
  refine (kM2 _ (hE.below hB).1).mono ?_
  rintro e w6 ⟨rfl, hb⟩
  replace hB := Dims.Below.goB hB hB.size hb
  replace hA := hA.go hb
  replace hBb := hBb.go hb
  replace hC := hC.go hb
  replace hX := hX.go hb
  clear hb
  clear b0 b1 b2 b3 b4 b5 b6 b7 b8 b9 b10 c0 c1 c2 c3 c4 c5 c6 c7 c8 c9 c10
  have hY := LiesW.new w6 Y
  simp only [Wo.cs, wZero, dZero] at hY
  have z_hY := hB.size
  have lt_hA_hY := hA.2.2
  have lt_hBb_hY := hBb.2.2
  have lt_hC_hY := hC.2.2
  have lt_hX_hY := hX.2.2
  have hu : Below w6.heap.size w6 (w6.alloc (.cells #[.int .i64 Y.n, .int .i64 Y.d, .int .i64 Y.t, .int .i64 Y.D.a0, .int .i64 Y.D.a1, .int .i64 Y.D.a2, .int .i64 Y.D.a3, .int .i64 Y.D.a4, .int .i64 Y.D.a5, .int .i64 Y.D.a6, .int .i64 Y.g] 40)) := by go_grown
  replace hB := Dims.Below.goB hB hB.size hu
  replace hA := hA.go hu
  replace hBb := hBb.go hu
  replace hC := hC.go hu
  replace hX := hX.go hu
  clear hu
  go_upto_region 11 with fail
  generalize (w6.alloc (.cells #[.int .i64 Y.n, .int .i64 Y.d, .int .i64 Y.t, .int .i64 Y.D.a0, .int .i64 Y.D.a1, .int .i64 Y.D.a2, .int .i64 Y.D.a3, .int .i64 Y.D.a4, .int .i64 Y.D.a5, .int .i64 Y.D.a6, .int .i64 Y.g] 40)) = V5 at *
  rcases hO with ⟨rfl, rfl⟩ | ⟨rfl, rfl⟩ | ⟨rfl, rfl⟩
  all_goals
    go_wp2
    go_ret
    exact ⟨rfl, hB⟩

set_option maxRecDepth 100000 in
set_option maxHeartbeats 8000000 in
theorem chain_yes (s0 s1 s2 : Wo) (w : World) (hE : EnvW w) (f0 : s0.Fine) (f1 : s1.Fine) (f2 : s2.Fine) (i0 : -9223372036854775808 ≤ s0.t ∧ s0.t ≤ 9223372036854775807) (i1 : -9223372036854775808 ≤ s1.t ∧ s1.t ≤ 9223372036854775807) (i2 : -9223372036854775808 ≤ s2.t ∧ s2.t ≤ 9223372036854775807) (ho : (mulW (specW s0.plain) (specW s1.plain)).2 = 0 ∧ (mulW (specW s1.plain) (specW s2.plain)).2 = 0) :
    Calls Tryd.prog 8 #[.agg #[.int .i64 s0.n, .int .i64 s0.d, .int .i64 s0.t, .int .i64 s0.D.a0, .int .i64 s0.D.a1, .int .i64 s0.D.a2, .int .i64 s0.D.a3, .int .i64 s0.D.a4, .int .i64 s0.D.a5, .int .i64 s0.D.a6, .int .i64 s0.g, .int .i64 s1.n, .int .i64 s1.d, .int .i64 s1.t, .int .i64 s1.D.a0, .int .i64 s1.D.a1, .int .i64 s1.D.a2, .int .i64 s1.D.a3, .int .i64 s1.D.a4, .int .i64 s1.D.a5, .int .i64 s1.D.a6, .int .i64 s1.g, .int .i64 s2.n, .int .i64 s2.d, .int .i64 s2.t, .int .i64 s2.D.a0, .int .i64 s2.D.a1, .int .i64 s2.D.a2, .int .i64 s2.D.a3, .int .i64 s2.D.a4, .int .i64 s2.D.a5, .int .i64 s2.D.a6, .int .i64 s2.g]] w fun e w' => e = .returned (.bool true) ∧ Below w.heap.size w w' := by
  have kS0 := fun V => spec_any s0.plain V (plain_fine f0) i0.1 i0.2
  have kS1 := fun V => spec_any s1.plain V (plain_fine f1) i1.1 i1.2
  have kS2 := fun V => spec_any s2.plain V (plain_fine f2) i2.1 i2.2
  have mA := spec_mild s0 f0
  have mB := spec_mild s1 f1
  have mC := spec_mild s2 f2
  generalize specW s0.plain = A at *
  generalize specW s1.plain = B at *
  generalize specW s2.plain = C at *
  have kM1 := fun V hT => mul_any A B V hT mA.fine mB.fine
  have kM2 := fun V hT => mul_any B C V hT mB.fine mC.fine
  obtain ⟨X, e, hR⟩ : ∃ X e, mulW A B = (X, e) := ⟨_, _, rfl⟩
  obtain ⟨Y, f, hQ⟩ : ∃ X e, mulW B C = (X, e) := ⟨_, _, rfl⟩
  have he := mul_over mA mB (by omega)
  have hf := mul_over mB mC (by omega)
  have mX := mul_mild mA mB (by omega) ho.1
  have mY := mul_mild mB mC (by omega) ho.2
  have hch := mul_chain mA mB mC (by omega) ho.1 ho.2
  rw [hR, hQ] at ho
  rw [hR] at mX
  rw [hQ] at mY
  rw [hR, hQ] at hch
  simp only at ho mX mY hch
  obtain ⟨rfl, rfl⟩ := ho
  rw [hR] at kM1
  rw [hQ] at kM2
  have kM3 := fun V hT => mul_any X C V hT mX.fine mC.fine
  have kM4 := fun V hT => mul_any A Y V hT mA.fine mY.fine
  rw [hch] at kM3
  clear he hf hR hQ hch mX mY
  obtain ⟨Z, g, hZ⟩ : ∃ X e, mulW A Y = (X, e) := ⟨_, _, rfl⟩
  rw [hZ] at kM3 kM4
  clear hZ
  have q1 := eqv Z Z
  rw [eqW_same] at q1
  simp only [Wo.v] at kM3 kM4 q1
  have hS := LiesC.new w #[.int .i64 s0.n, .int .i64 s0.d, .int .i64 s0.t, .int .i64 s0.D.a0, .int .i64 s0.D.a1, .int .i64 s0.D.a2, .int .i64 s0.D.a3, .int .i64 s0.D.a4, .int .i64 s0.D.a5, .int .i64 s0.D.a6, .int .i64 s0.g, .int .i64 s1.n, .int .i64 s1.d, .int .i64 s1.t, .int .i64 s1.D.a0, .int .i64 s1.D.a1, .int .i64 s1.D.a2, .int .i64 s1.D.a3, .int .i64 s1.D.a4, .int .i64 s1.D.a5, .int .i64 s1.D.a6, .int .i64 s1.g, .int .i64 s2.n, .int .i64 s2.d, .int .i64 s2.t, .int .i64 s2.D.a0, .int .i64 s2.D.a1, .int .i64 s2.D.a2, .int .i64 s2.D.a3, .int .i64 s2.D.a4, .int .i64 s2.D.a5, .int .i64 s2.D.a6, .int .i64 s2.g] 53
  have hB : Below w.heap.size w (w.alloc (.cells #[.int .i64 s0.n, .int .i64 s0.d, .int .i64 s0.t, .int .i64 s0.D.a0, .int .i64 s0.D.a1, .int .i64 s0.D.a2, .int .i64 s0.D.a3, .int .i64 s0.D.a4, .int .i64 s0.D.a5, .int .i64 s0.D.a6, .int .i64 s0.g, .int .i64 s1.n, .int .i64 s1.d, .int .i64 s1.t, .int .i64 s1.D.a0, .int .i64 s1.D.a1, .int .i64 s1.D.a2, .int .i64 s1.D.a3, .int .i64 s1.D.a4, .int .i64 s1.D.a5, .int .i64 s1.D.a6, .int .i64 s1.g, .int .i64 s2.n, .int .i64 s2.d, .int .i64 s2.t, .int .i64 s2.D.a0, .int .i64 s2.D.a1, .int .i64 s2.D.a2, .int .i64 s2.D.a3, .int .i64 s2.D.a4, .int .i64 s2.D.a5, .int .i64 s2.D.a6, .int .i64 s2.g] 53)) := by go_grown
  clear mA mB mC f0 f1 f2 i0 i1 i2
  simp only [Wo.v, Wo.plain] at kS0 kS1 kS2 kM1 kM2
  go_enter Tryd.func8, Tryd.ntmps8
  go_wp2_with fail
  generalize (w.alloc (.cells #[.int .i64 s0.n, .int .i64 s0.d, .int .i64 s0.t, .int .i64 s0.D.a0, .int .i64 s0.D.a1, .int .i64 s0.D.a2, .int .i64 s0.D.a3, .int .i64 s0.D.a4, .int .i64 s0.D.a5, .int .i64 s0.D.a6, .int .i64 s0.g, .int .i64 s1.n, .int .i64 s1.d, .int .i64 s1.t, .int .i64 s1.D.a0, .int .i64 s1.D.a1, .int .i64 s1.D.a2, .int .i64 s1.D.a3, .int .i64 s1.D.a4, .int .i64 s1.D.a5, .int .i64 s1.D.a6, .int .i64 s1.g, .int .i64 s2.n, .int .i64 s2.d, .int .i64 s2.t, .int .i64 s2.D.a0, .int .i64 s2.D.a1, .int .i64 s2.D.a2, .int .i64 s2.D.a3, .int .i64 s2.D.a4, .int .i64 s2.D.a5, .int .i64 s2.D.a6, .int .i64 s2.g] 53)) = V0 at *
  refine (awake_yes _ (hE.below hB)).mono ?_
  rintro e w1 ⟨rfl, hb⟩
  replace hB := Dims.Below.goB hB hB.size hb
  replace hS := hS.go hb
  clear hb
  go_wp2
  refine wp_loop_rounds 4 ?_
  have x10 := hS.1 10 (by simp)
  have xf := hS.2.1
  simp only [List.getElem?_toArray, List.getElem?_cons_zero, List.getElem?_cons_succ] at x10
  replace hS := hS.set 10 (by simp) (.int .i64 0)
  replace hB := hB.setCell (p := ⟨w.heap.size, 10, none⟩) (Nat.le_refl _) (.int .i64 0)
  rw [rounds_succ]
  go_wp2
  clear x10 xf
  generalize w1.setCell ⟨w.heap.size, 10, none⟩ (.int .i64 0) = U1 at *
  simp only [List.setIfInBounds_toArray, List.set_cons_succ, List.set_cons_zero] at hS
  have x21 := hS.1 21 (by simp)
  have xf := hS.2.1
  simp only [List.getElem?_toArray, List.getElem?_cons_zero, List.getElem?_cons_succ] at x21
  replace hS := hS.set 21 (by simp) (.int .i64 0)
  replace hB := hB.setCell (p := ⟨w.heap.size, 21, none⟩) (Nat.le_refl _) (.int .i64 0)
  rw [rounds_succ]
  go_wp2
  clear x21 xf
  generalize U1.setCell ⟨w.heap.size, 21, none⟩ (.int .i64 0) = U2 at *
  simp only [List.setIfInBounds_toArray, List.set_cons_succ, List.set_cons_zero] at hS
  have x32 := hS.1 32 (by simp)
  have xf := hS.2.1
  simp only [List.getElem?_toArray, List.getElem?_cons_zero, List.getElem?_cons_succ] at x32
  replace hS := hS.set 32 (by simp) (.int .i64 0)
  replace hB := hB.setCell (p := ⟨w.heap.size, 32, none⟩) (Nat.le_refl _) (.int .i64 0)
  rw [rounds_succ]
  go_wp2
  clear x32 xf
  generalize U2.setCell ⟨w.heap.size, 32, none⟩ (.int .i64 0) = U3 at *
  simp only [List.setIfInBounds_toArray, List.set_cons_succ, List.set_cons_zero] at hS
  rw [rounds_succ]
  have x0 := hS.1 0 (by simp)
  have x1 := hS.1 1 (by simp)
  have x2 := hS.1 2 (by simp)
  have x3 := hS.1 3 (by simp)
  have x4 := hS.1 4 (by simp)
  have x5 := hS.1 5 (by simp)
  have x6 := hS.1 6 (by simp)
  have x7 := hS.1 7 (by simp)
  have x8 := hS.1 8 (by simp)
  have x9 := hS.1 9 (by simp)
  have x10 := hS.1 10 (by simp)
  simp only [List.getElem?_toArray, List.getElem?_cons_zero, List.getElem?_cons_succ] at x0 x1 x2 x3 x4 x5 x6 x7 x8 x9 x10
  go_wp2_with fail
  refine (kS0 _).mono ?_
  rintro e w2 ⟨rfl, hb⟩
  replace hB := Dims.Below.goB hB hB.size hb
  replace hS := hS.go hb
  clear hb
  clear x0 x1 x2 x3 x4 x5 x6 x7 x8 x9 x10
  have hA := LiesW.new w2 A
  simp only [Wo.cs, wZero, dZero] at hA
  have z_hA := hB.size
  have lt_hS_hA := hS.2.2
  have hu : Below w2.heap.size w2 (w2.alloc (.cells #[.int .i64 A.n, .int .i64 A.d, .int .i64 A.t, .int .i64 A.D.a0, .int .i64 A.D.a1, .int .i64 A.D.a2, .int .i64 A.D.a3, .int .i64 A.D.a4, .int .i64 A.D.a5, .int .i64 A.D.a6, .int .i64 A.g] 40)) := by go_grown
  replace hB := Dims.Below.goB hB hB.size hu
  replace hS := hS.go hu
  clear hu
  have x11 := hS.1 11 (by simp)
  have x12 := hS.1 12 (by simp)
  have x13 := hS.1 13 (by simp)
  have x14 := hS.1 14 (by simp)
  have x15 := hS.1 15 (by simp)
  have x16 := hS.1 16 (by simp)
  have x17 := hS.1 17 (by simp)
  have x18 := hS.1 18 (by simp)
  have x19 := hS.1 19 (by simp)
  have x20 := hS.1 20 (by simp)
  have x21 := hS.1 21 (by simp)
  simp only [List.getElem?_toArray, List.getElem?_cons_zero, List.getElem?_cons_succ] at x11 x12 x13 x14 x15 x16 x17 x18 x19 x20 x21
  go_wp2_with fail
  generalize (w2.alloc (.cells #[.int .i64 A.n, .int .i64 A.d, .int .i64 A.t, .int .i64 A.D.a0, .int .i64 A.D.a1, .int .i64 A.D.a2, .int .i64 A.D.a3, .int .i64 A.D.a4, .int .i64 A.D.a5, .int .i64 A.D.a6, .int .i64 A.g] 40)) = V1 at *
  refine (kS1 _).mono ?_
  rintro e w3 ⟨rfl, hb⟩
  replace hB := Dims.Below.goB hB hB.size hb
  replace hS := hS.go hb
  replace hA := hA.go hb
  clear hb
  clear x11 x12 x13 x14 x15 x16 x17 x18 x19 x20 x21
  have hBb := LiesW.new w3 B
  simp only [Wo.cs, wZero, dZero] at hBb
  have z_hBb := hB.size
  have lt_hS_hBb := hS.2.2
  have lt_hA_hBb := hA.2.2
  have hu : Below w3.heap.size w3 (w3.alloc (.cells #[.int .i64 B.n, .int .i64 B.d, .int .i64 B.t, .int .i64 B.D.a0, .int .i64 B.D.a1, .int .i64 B.D.a2, .int .i64 B.D.a3, .int .i64 B.D.a4, .int .i64 B.D.a5, .int .i64 B.D.a6, .int .i64 B.g] 40)) := by go_grown
  replace hB := Dims.Below.goB hB hB.size hu
  replace hS := hS.go hu
  replace hA := hA.go hu
  clear hu
  have x22 := hS.1 22 (by simp)
  have x23 := hS.1 23 (by simp)
  have x24 := hS.1 24 (by simp)
  have x25 := hS.1 25 (by simp)
  have x26 := hS.1 26 (by simp)
  have x27 := hS.1 27 (by simp)
  have x28 := hS.1 28 (by simp)
  have x29 := hS.1 29 (by simp)
  have x30 := hS.1 30 (by simp)
  have x31 := hS.1 31 (by simp)
  have x32 := hS.1 32 (by simp)
  simp only [List.getElem?_toArray, List.getElem?_cons_zero, List.getElem?_cons_succ] at x22 x23 x24 x25 x26 x27 x28 x29 x30 x31 x32
  go_wp2_with fail
  generalize (w3.alloc (.cells #[.int .i64 B.n, .int .i64 B.d, .int .i64 B.t, .int .i64 B.D.a0, .int .i64 B.D.a1, .int .i64 B.D.a2, .int .i64 B.D.a3, .int .i64 B.D.a4, .int .i64 B.D.a5, .int .i64 B.D.a6, .int .i64 B.g] 40)) = V2 at *
  refine (kS2 _).mono ?_
  rintro e w4 ⟨rfl, hb⟩
  replace hB := Dims.Below.goB hB hB.size hb
  replace hS := hS.go hb
  replace hA := hA.go hb
  replace hBb := hBb.go hb
  clear hb
  clear x22 x23 x24 x25 x26 x27 x28 x29 x30 x31 x32
  have hC := LiesW.new w4 C
  simp only [Wo.cs, wZero, dZero] at hC
  have z_hC := hB.size
  have lt_hS_hC := hS.2.2
  have lt_hA_hC := hA.2.2
  have lt_hBb_hC := hBb.2.2
  have hu : Below w4.heap.size w4 (w4.alloc (.cells #[.int .i64 C.n, .int .i64 C.d, .int .i64 C.t, .int .i64 C.D.a0, .int .i64 C.D.a1, .int .i64 C.D.a2, .int .i64 C.D.a3, .int .i64 C.D.a4, .int .i64 C.D.a5, .int .i64 C.D.a6, .int .i64 C.g] 40)) := by go_grown
  replace hB := Dims.Below.goB hB hB.size hu
  replace hS := hS.go hu
  replace hA := hA.go hu
  replace hBb := hBb.go hu
  clear hu
  clear hS
  obtain ⟨a0, a1, a2, a3, a4, a5, a6, a7, a8, a9, a10⟩ := hA.cells
  obtain ⟨b0, b1, b2, b3, b4, b5, b6, b7, b8, b9, b10⟩ := hBb.cells
  go_wp2_with fail
  generalize (w4.alloc (.cells #[.int .i64 C.n, .int .i64 C.d, .int .i64 C.t, .int .i64 C.D.a0, .int .i64 C.D.a1, .int .i64 C.D.a2, .int .i64 C.D.a3, .int .i64 C.D.a4, .int .i64 C.D.a5, .int .i64 C.D.a6, .int .i64 C.g] 40)) = V3 at *
  refine (kM1 _ (hE.below hB).1).mono ?_
  rintro e w5 ⟨rfl, hb⟩
  replace hB := Dims.Below.goB hB hB.size hb
  replace hA := hA.go hb
  replace hBb := hBb.go hb
  replace hC := hC.go hb
  clear hb
  clear a0 a1 a2 a3 a4 a5 a6 a7 a8 a9 a10 b0 b1 b2 b3 b4 b5 b6 b7 b8 b9 b10
  have hX := LiesW.new w5 X
  simp only [Wo.cs, wZero, dZero] at hX
  have z_hX := hB.size
  have lt_hA_hX := hA.2.2
  have lt_hBb_hX := hBb.2.2
  have lt_hC_hX := hC.2.2
  have hu : Below w5.heap.size w5 (w5.alloc (.cells #[.int .i64 X.n, .int .i64 X.d, .int .i64 X.t, .int .i64 X.D.a0, .int .i64 X.D.a1, .int .i64 X.D.a2, .int .i64 X.D.a3, .int .i64 X.D.a4, .int .i64 X.D.a5, .int .i64 X.D.a6, .int .i64 X.g] 40)) := by go_grown
  replace hB := Dims.Below.goB hB hB.size hu
  replace hA := hA.go hu
  replace hBb := hBb.go hu
  replace hC := hC.go hu
  clear hu
  obtain ⟨b0, b1, b2, b3, b4, b5, b6, b7, b8, b9, b10⟩ := hBb.cells
  obtain ⟨c0, c1, c2, c3, c4, c5, c6, c7, c8, c9, c10⟩ := hC.cells
  go_wp2_with fail
  generalize (w5.alloc (.cells #[.int .i64 X.n, .int .i64 X.d, .int .i64 X.t, .int .i64 X.D.a0, .int .i64 X.D.a1, .int .i64 X.D.a2, .int .i64 X.D.a3, .int .i64 X.D.a4, .int .i64 X.D.a5, .int .i64 X.D.a6, .int .i64 X.g] 40)) = V4 at *
  refine (kM2 _ (hE.below hB).1).mono ?_
  rintro e w6 ⟨rfl, hb⟩
  replace hB := Dims.Below.goB hB hB.size hb
  replace hA := hA.go hb
  replace hBb := hBb.go hb
  replace hC := hC.go hb
  replace hX := hX.go hb
  clear hb
  clear b0 b1 b2 b3 b4 b5 b6 b7 b8 b9 b10 c0 c1 c2 c3 c4 c5 c6 c7 c8 c9 c10
  have hY := LiesW.new w6 Y
  simp only [Wo.cs, wZero, dZero] at hY
  have z_hY := hB.size
  have lt_hA_hY := hA.2.2
  have lt_hBb_hY := hBb.2.2
  have lt_hC_hY := hC.2.2
  have lt_hX_hY := hX.2.2
  have hu : Below w6.heap.size w6 (w6.alloc (.cells #[.int .i64 Y.n, .int .i64 Y.d, .int .i64 Y.t, .int .i64 Y.D.a0, .int .i64 Y.D.a1, .int .i64 Y.D.a2, .int .i64 Y.D.a3, .int .i64 Y.D.a4, .int .i64 Y.D.a5, .int .i64 Y.D.a6, .int .i64 Y.g] 40)) := by go_grown
  replace hB := Dims.Below.goB hB hB.size hu
  replace hA := hA.go hu
  replace hBb := hBb.go hu
  replace hC := hC.go hu
  replace hX := hX.go hu
  clear hu
  go_upto_region 11 with fail
  generalize (w6.alloc (.cells #[.int .i64 Y.n, .int .i64 Y.d, .int .i64 Y.t, .int .i64 Y.D.a0, .int .i64 Y.D.a1, .int .i64 Y.D.a2, .int .i64 Y.D.a3, .int .i64 Y.D.a4, .int .i64 Y.D.a5, .int .i64 Y.D.a6, .int .i64 Y.g] 40)) = V5 at *
  obtain ⟨x0, x1, x2, x3, x4, x5, x6, x7, x8, x9, x10⟩ := hX.cells
  obtain ⟨c0, c1, c2, c3, c4, c5, c6, c7, c8, c9, c10⟩ := hC.cells
  go_wp2_with fail
  refine (kM3 _ (hE.below hB).1).mono ?_
  rintro e w7 ⟨rfl, hb⟩
  replace hB := Dims.Below.goB hB hB.size hb
  replace hA := hA.go hb
  replace hBb := hBb.go hb
  replace hC := hC.go hb
  replace hX := hX.go hb
  replace hY := hY.go hb
  clear hb
  clear x0 x1 x2 x3 x4 x5 x6 x7 x8 x9 x10 c0 c1 c2 c3 c4 c5 c6 c7 c8 c9 c10
  have hZ1 := LiesW.new w7 Z
  simp only [Wo.cs, wZero, dZero] at hZ1
  have z_hZ1 := hB.size
  have lt_hA_hZ1 := hA.2.2
  have lt_hBb_hZ1 := hBb.2.2
  have lt_hC_hZ1 := hC.2.2
  have lt_hX_hZ1 := hX.2.2
  have lt_hY_hZ1 := hY.2.2
  have hu : Below w7.heap.size w7 (w7.alloc (.cells #[.int .i64 Z.n, .int .i64 Z.d, .int .i64 Z.t, .int .i64 Z.D.a0, .int .i64 Z.D.a1, .int .i64 Z.D.a2, .int .i64 Z.D.a3, .int .i64 Z.D.a4, .int .i64 Z.D.a5, .int .i64 Z.D.a6, .int .i64 Z.g] 40)) := by go_grown
  replace hB := Dims.Below.goB hB hB.size hu
  replace hA := hA.go hu
  replace hBb := hBb.go hu
  replace hC := hC.go hu
  replace hX := hX.go hu
  replace hY := hY.go hu
  clear hu
  obtain ⟨a0, a1, a2, a3, a4, a5, a6, a7, a8, a9, a10⟩ := hA.cells
  obtain ⟨y0, y1, y2, y3, y4, y5, y6, y7, y8, y9, y10⟩ := hY.cells
  go_wp2_with fail
  generalize (w7.alloc (.cells #[.int .i64 Z.n, .int .i64 Z.d, .int .i64 Z.t, .int .i64 Z.D.a0, .int .i64 Z.D.a1, .int .i64 Z.D.a2, .int .i64 Z.D.a3, .int .i64 Z.D.a4, .int .i64 Z.D.a5, .int .i64 Z.D.a6, .int .i64 Z.g] 40)) = V6 at *
  refine (kM4 _ (hE.below hB).1).mono ?_
  rintro e w8 ⟨rfl, hb⟩
  replace hB := Dims.Below.goB hB hB.size hb
  replace hA := hA.go hb
  replace hBb := hBb.go hb
  replace hC := hC.go hb
  replace hX := hX.go hb
  replace hY := hY.go hb
  replace hZ1 := hZ1.go hb
  clear hb
  clear a0 a1 a2 a3 a4 a5 a6 a7 a8 a9 a10 y0 y1 y2 y3 y4 y5 y6 y7 y8 y9 y10
  have hZ2 := LiesW.new w8 Z
  simp only [Wo.cs, wZero, dZero] at hZ2
  have z_hZ2 := hB.size
  have lt_hA_hZ2 := hA.2.2
  have lt_hBb_hZ2 := hBb.2.2
  have lt_hC_hZ2 := hC.2.2
  have lt_hX_hZ2 := hX.2.2
  have lt_hY_hZ2 := hY.2.2
  have lt_hZ1_hZ2 := hZ1.2.2
  have hu : Below w8.heap.size w8 (w8.alloc (.cells #[.int .i64 Z.n, .int .i64 Z.d, .int .i64 Z.t, .int .i64 Z.D.a0, .int .i64 Z.D.a1, .int .i64 Z.D.a2, .int .i64 Z.D.a3, .int .i64 Z.D.a4, .int .i64 Z.D.a5, .int .i64 Z.D.a6, .int .i64 Z.g] 40)) := by go_grown
  replace hB := Dims.Below.goB hB hB.size hu
  replace hA := hA.go hu
  replace hBb := hBb.go hu
  replace hC := hC.go hu
  replace hX := hX.go hu
  replace hY := hY.go hu
  replace hZ1 := hZ1.go hu
  clear hu
  go_upto_region 15 with fail
  generalize (w8.alloc (.cells #[.int .i64 Z.n, .int .i64 Z.d, .int .i64 Z.t, .int .i64 Z.D.a0, .int .i64 Z.D.a1, .int .i64 Z.D.a2, .int .i64 Z.D.a3, .int .i64 Z.D.a4, .int .i64 Z.D.a5, .int .i64 Z.D.a6, .int .i64 Z.g] 40)) = V7 at *
  obtain ⟨z0, z1, z2, z3, z4, z5, z6, z7, z8, z9, z10⟩ := hZ1.cells
  obtain ⟨u0, u1, u2, u3, u4, u5, u6, u7, u8, u9, u10⟩ := hZ2.cells
  have e1 : (g == g) = true := by simp
  go_wp2
  go_ret
  exact ⟨by simp, hB⟩

theorem chain_walk (s0 s1 s2 : Wo) (w : World) (hE : EnvW w) (f0 : s0.Fine) (f1 : s1.Fine) (f2 : s2.Fine) (i0 : -9223372036854775808 ≤ s0.t ∧ s0.t ≤ 9223372036854775807) (i1 : -9223372036854775808 ≤ s1.t ∧ s1.t ≤ 9223372036854775807) (i2 : -9223372036854775808 ≤ s2.t ∧ s2.t ≤ 9223372036854775807) :
    Calls Tryd.prog 8 #[.agg #[.int .i64 s0.n, .int .i64 s0.d, .int .i64 s0.t, .int .i64 s0.D.a0, .int .i64 s0.D.a1, .int .i64 s0.D.a2, .int .i64 s0.D.a3, .int .i64 s0.D.a4, .int .i64 s0.D.a5, .int .i64 s0.D.a6, .int .i64 s0.g, .int .i64 s1.n, .int .i64 s1.d, .int .i64 s1.t, .int .i64 s1.D.a0, .int .i64 s1.D.a1, .int .i64 s1.D.a2, .int .i64 s1.D.a3, .int .i64 s1.D.a4, .int .i64 s1.D.a5, .int .i64 s1.D.a6, .int .i64 s1.g, .int .i64 s2.n, .int .i64 s2.d, .int .i64 s2.t, .int .i64 s2.D.a0, .int .i64 s2.D.a1, .int .i64 s2.D.a2, .int .i64 s2.D.a3, .int .i64 s2.D.a4, .int .i64 s2.D.a5, .int .i64 s2.D.a6, .int .i64 s2.g]] w fun e w' => e = .returned (.bool true) ∧ Below w.heap.size w w' := by
  by_cases ho : (mulW (specW s0.plain) (specW s1.plain)).2 = 0 ∧ (mulW (specW s1.plain) (specW s2.plain)).2 = 0
  · exact chain_yes s0 s1 s2 w hE f0 f1 f2 i0 i1 i2 ho
  · exact chain_over s0 s1 s2 w hE f0 f1 f2 i0 i1 i2 ho

theorem chain_law (a0 a1 a2 a3 a4 a5 a6 a7 a8 a9 a10 a11 a12 a13 a14 a15 a16 a17 a18 a19 a20 a21 a22 a23 a24 a25 a26 a27 a28 a29 a30 a31 a32 : Int) (w : World) (hE : EnvW w) (b_a0 : -9223372036854775808 ≤ a0 ∧ a0 ≤ 9223372036854775807) (b_a1 : -9223372036854775808 ≤ a1 ∧ a1 ≤ 9223372036854775807) (b_a2 : -9223372036854775808 ≤ a2 ∧ a2 ≤ 9223372036854775807) (b_a3 : -9223372036854775808 ≤ a3 ∧ a3 ≤ 9223372036854775807) (b_a4 : -9223372036854775808 ≤ a4 ∧ a4 ≤ 9223372036854775807) (b_a5 : -9223372036854775808 ≤ a5 ∧ a5 ≤ 9223372036854775807) (b_a6 : -9223372036854775808 ≤ a6 ∧ a6 ≤ 9223372036854775807) (b_a7 : -9223372036854775808 ≤ a7 ∧ a7 ≤ 9223372036854775807) (b_a8 : -9223372036854775808 ≤ a8 ∧ a8 ≤ 9223372036854775807) (b_a9 : -9223372036854775808 ≤ a9 ∧ a9 ≤ 9223372036854775807) (b_a10 : -9223372036854775808 ≤ a10 ∧ a10 ≤ 9223372036854775807) (b_a11 : -9223372036854775808 ≤ a11 ∧ a11 ≤ 9223372036854775807) (b_a12 : -9223372036854775808 ≤ a12 ∧ a12 ≤ 9223372036854775807) (b_a13 : -9223372036854775808 ≤ a13 ∧ a13 ≤ 9223372036854775807) (b_a14 : -9223372036854775808 ≤ a14 ∧ a14 ≤ 9223372036854775807) (b_a15 : -9223372036854775808 ≤ a15 ∧ a15 ≤ 9223372036854775807) (b_a16 : -9223372036854775808 ≤ a16 ∧ a16 ≤ 9223372036854775807) (b_a17 : -9223372036854775808 ≤ a17 ∧ a17 ≤ 9223372036854775807) (b_a18 : -9223372036854775808 ≤ a18 ∧ a18 ≤ 9223372036854775807) (b_a19 : -9223372036854775808 ≤ a19 ∧ a19 ≤ 9223372036854775807) (b_a20 : -9223372036854775808 ≤ a20 ∧ a20 ≤ 9223372036854775807) (b_a21 : -9223372036854775808 ≤ a21 ∧ a21 ≤ 9223372036854775807) (b_a22 : -9223372036854775808 ≤ a22 ∧ a22 ≤ 9223372036854775807) (b_a23 : -9223372036854775808 ≤ a23 ∧ a23 ≤ 9223372036854775807) (b_a24 : -9223372036854775808 ≤ a24 ∧ a24 ≤ 9223372036854775807) (b_a25 : -9223372036854775808 ≤ a25 ∧ a25 ≤ 9223372036854775807) (b_a26 : -9223372036854775808 ≤ a26 ∧ a26 ≤ 9223372036854775807) (b_a27 : -9223372036854775808 ≤ a27 ∧ a27 ≤ 9223372036854775807) (b_a28 : -9223372036854775808 ≤ a28 ∧ a28 ≤ 9223372036854775807) (b_a29 : -9223372036854775808 ≤ a29 ∧ a29 ≤ 9223372036854775807) (b_a30 : -9223372036854775808 ≤ a30 ∧ a30 ≤ 9223372036854775807) (b_a31 : -9223372036854775808 ≤ a31 ∧ a31 ≤ 9223372036854775807) (b_a32 : -9223372036854775808 ≤ a32 ∧ a32 ≤ 9223372036854775807) :
    Calls Tryd.prog 8 #[.agg #[.int .i64 a0, .int .i64 a1, .int .i64 a2, .int .i64 a3, .int .i64 a4, .int .i64 a5, .int .i64 a6, .int .i64 a7, .int .i64 a8, .int .i64 a9, .int .i64 a10, .int .i64 a11, .int .i64 a12, .int .i64 a13, .int .i64 a14, .int .i64 a15, .int .i64 a16, .int .i64 a17, .int .i64 a18, .int .i64 a19, .int .i64 a20, .int .i64 a21, .int .i64 a22, .int .i64 a23, .int .i64 a24, .int .i64 a25, .int .i64 a26, .int .i64 a27, .int .i64 a28, .int .i64 a29, .int .i64 a30, .int .i64 a31, .int .i64 a32]] w fun e w' => e = .returned (.bool true) ∧ Below w.heap.size w w' :=
  chain_walk ⟨a0, a1, a2, ⟨a3, a4, a5, a6, a7, a8, a9⟩, a10⟩ ⟨a11, a12, a13, ⟨a14, a15, a16, a17, a18, a19, a20⟩, a21⟩ ⟨a22, a23, a24, ⟨a25, a26, a27, a28, a29, a30, a31⟩, a32⟩  w hE ⟨b_a0.2, b_a1.2, Dims.seven (p := fun i => -9223372036854775808 ≤ D7.get ⟨a3, a4, a5, a6, a7, a8, a9⟩ i ∧ D7.get ⟨a3, a4, a5, a6, a7, a8, a9⟩ i ≤ 9223372036854775807) b_a3 b_a4 b_a5 b_a6 b_a7 b_a8 b_a9, b_a10.1, b_a10.2⟩ ⟨b_a11.2, b_a12.2, Dims.seven (p := fun i => -9223372036854775808 ≤ D7.get ⟨a14, a15, a16, a17, a18, a19, a20⟩ i ∧ D7.get ⟨a14, a15, a16, a17, a18, a19, a20⟩ i ≤ 9223372036854775807) b_a14 b_a15 b_a16 b_a17 b_a18 b_a19 b_a20, b_a21.1, b_a21.2⟩ ⟨b_a22.2, b_a23.2, Dims.seven (p := fun i => -9223372036854775808 ≤ D7.get ⟨a25, a26, a27, a28, a29, a30, a31⟩ i ∧ D7.get ⟨a25, a26, a27, a28, a29, a30, a31⟩ i ≤ 9223372036854775807) b_a25 b_a26 b_a27 b_a28 b_a29 b_a30 b_a31, b_a32.1, b_a32.2⟩ b_a2 b_a13 b_a24 

end Go.Proofs.YtndinbefljajcaaDoor.Worth

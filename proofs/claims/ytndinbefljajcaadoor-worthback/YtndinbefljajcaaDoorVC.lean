/-
  The walk of the law WorthBack: it returns true, for every argument of its kind; old memory stays.
-/
import Derived.Test.YtndinbefljajcaaDoorVK
namespace Go.Proofs.YtndinbefljajcaaDoor.Worth
open Go.RowKit Go.Shelf
open Go.Proofs.YtndinbefljajcaaDoor.Frac (Got OfTen Room specG)
open Go.Proofs.YtndinbefljajcaaDoor.Dims (D7 dZero dOf Lies7 get_of)
set_option linter.unusedVariables false
set_option linter.unusedSimpArgs false

set_option maxRecDepth 100000 in
set_option maxHeartbeats 8000000 in
theorem back_zero (s0 s1 : Wo) (w : World) (hE : EnvW w) (f0 : s0.Fine) (f1 : s1.Fine) (i0 : -9223372036854775808 ≤ s0.t ∧ s0.t ≤ 9223372036854775807) (i1 : -9223372036854775808 ≤ s1.t ∧ s1.t ≤ 9223372036854775807) (hz : (specW s1.plain).n = 0) :
    Calls Tryd.prog 4 #[.agg #[.int .i64 s0.n, .int .i64 s0.d, .int .i64 s0.t, .int .i64 s0.D.a0, .int .i64 s0.D.a1, .int .i64 s0.D.a2, .int .i64 s0.D.a3, .int .i64 s0.D.a4, .int .i64 s0.D.a5, .int .i64 s0.D.a6, .int .i64 s0.g, .int .i64 s1.n, .int .i64 s1.d, .int .i64 s1.t, .int .i64 s1.D.a0, .int .i64 s1.D.a1, .int .i64 s1.D.a2, .int .i64 s1.D.a3, .int .i64 s1.D.a4, .int .i64 s1.D.a5, .int .i64 s1.D.a6, .int .i64 s1.g]] w fun e w' => e = .returned (.bool true) ∧ Below w.heap.size w w' := by
  have kS0 := fun V => spec_any s0.plain V (plain_fine f0) i0.1 i0.2
  have kS1 := fun V => spec_any s1.plain V (plain_fine f1) i1.1 i1.2
  have mA := spec_mild s0 f0
  have mB := spec_mild s1 f1
  generalize specW s0.plain = A at *
  generalize specW s1.plain = B at *
  have kM1 := fun V hT => mul_any A B V hT mA.fine mB.fine
  have kM2 := fun V hT => mul_any B A V hT mB.fine mA.fine
  have kD1 := fun V hT => div_any B B V hT mB.fine mB.fine
  rw [← mul_comm mA mB (by omega)] at kM2
  obtain ⟨X, e, hR⟩ : ∃ X e, mulW A B = (X, e) := ⟨_, _, rfl⟩
  rw [div_none mB hz] at kD1
  rw [hR] at kM1 kM2
  have e1 : (e != e) = false := by simp
  have zb : (B.n == 0) = true := by simp [hz]
  clear hz
  have q1 := nev X X
  rw [eqW_same] at q1
  have hS := LiesC.new w #[.int .i64 s0.n, .int .i64 s0.d, .int .i64 s0.t, .int .i64 s0.D.a0, .int .i64 s0.D.a1, .int .i64 s0.D.a2, .int .i64 s0.D.a3, .int .i64 s0.D.a4, .int .i64 s0.D.a5, .int .i64 s0.D.a6, .int .i64 s0.g, .int .i64 s1.n, .int .i64 s1.d, .int .i64 s1.t, .int .i64 s1.D.a0, .int .i64 s1.D.a1, .int .i64 s1.D.a2, .int .i64 s1.D.a3, .int .i64 s1.D.a4, .int .i64 s1.D.a5, .int .i64 s1.D.a6, .int .i64 s1.g] 36
  have hB : Below w.heap.size w (w.alloc (.cells #[.int .i64 s0.n, .int .i64 s0.d, .int .i64 s0.t, .int .i64 s0.D.a0, .int .i64 s0.D.a1, .int .i64 s0.D.a2, .int .i64 s0.D.a3, .int .i64 s0.D.a4, .int .i64 s0.D.a5, .int .i64 s0.D.a6, .int .i64 s0.g, .int .i64 s1.n, .int .i64 s1.d, .int .i64 s1.t, .int .i64 s1.D.a0, .int .i64 s1.D.a1, .int .i64 s1.D.a2, .int .i64 s1.D.a3, .int .i64 s1.D.a4, .int .i64 s1.D.a5, .int .i64 s1.D.a6, .int .i64 s1.g] 36)) := by go_grown
  clear mA mB f0 f1 i0 i1
  simp only [Wo.v, Wo.plain, wZero, dZero, Bool.not_true] at kS0 kS1 kM1 kM2 kD1 q1
  go_enter Tryd.func4, Tryd.ntmps4
  go_wp2_with fail
  generalize (w.alloc (.cells #[.int .i64 s0.n, .int .i64 s0.d, .int .i64 s0.t, .int .i64 s0.D.a0, .int .i64 s0.D.a1, .int .i64 s0.D.a2, .int .i64 s0.D.a3, .int .i64 s0.D.a4, .int .i64 s0.D.a5, .int .i64 s0.D.a6, .int .i64 s0.g, .int .i64 s1.n, .int .i64 s1.d, .int .i64 s1.t, .int .i64 s1.D.a0, .int .i64 s1.D.a1, .int .i64 s1.D.a2, .int .i64 s1.D.a3, .int .i64 s1.D.a4, .int .i64 s1.D.a5, .int .i64 s1.D.a6, .int .i64 s1.g] 36)) = V0 at *
  refine (awake_yes _ (hE.below hB)).mono ?_
  rintro e w1 ⟨rfl, hb⟩
  replace hB := Dims.Below.goB hB hB.size hb
  replace hS := hS.go hb
  clear hb
  have x10 := hS.1 10 (by simp)
  have xf := hS.2.1
  simp only [List.getElem?_toArray, List.getElem?_cons_zero, List.getElem?_cons_succ] at x10
  replace hS := hS.set 10 (by simp) (.int .i64 0)
  replace hB := hB.setCell (p := ⟨w.heap.size, 10, none⟩) (Nat.le_refl _) (.int .i64 0)
  go_upto_region 3 with fail
  clear x10 xf
  generalize w1.setCell ⟨w.heap.size, 10, none⟩ (.int .i64 0) = U1 at *
  simp only [List.setIfInBounds_toArray, List.set_cons_succ, List.set_cons_zero] at hS
  have x21 := hS.1 21 (by simp)
  have xf := hS.2.1
  simp only [List.getElem?_toArray, List.getElem?_cons_zero, List.getElem?_cons_succ] at x21
  replace hS := hS.set 21 (by simp) (.int .i64 0)
  replace hB := hB.setCell (p := ⟨w.heap.size, 21, none⟩) (Nat.le_refl _) (.int .i64 0)
  go_upto_region 4 with fail
  clear x21 xf
  generalize U1.setCell ⟨w.heap.size, 21, none⟩ (.int .i64 0) = U2 at *
  simp only [List.setIfInBounds_toArray, List.set_cons_succ, List.set_cons_zero] at hS
  have x0 := hS.1 0 (by simp)
  have x1 := hS.1 1 (by simp)
  have x2 := hS.1 2 (by simp)
  have x3 := hS.1 3 (by simp)
  have x4 := hS.1 4 (by simp)
  have x5 := hS.1 5 (by simp)
  have x6 := hS.1 6 (by simp)
  have x7 := hS.1 7 (by simp)
  have x8 := hS.1 8 (by simp)
  have x9 := hS.1 9 (by simp)
  have x10 := hS.1 10 (by simp)
  simp only [List.getElem?_toArray, List.getElem?_cons_zero, List.getElem?_cons_succ] at x0 x1 x2 x3 x4 x5 x6 x7 x8 x9 x10
  go_wp2_with fail
  refine (kS0 _).mono ?_
  rintro e w2 ⟨rfl, hb⟩
  replace hB := Dims.Below.goB hB hB.size hb
  replace hS := hS.go hb
  clear hb
  clear x0 x1 x2 x3 x4 x5 x6 x7 x8 x9 x10
  have hA := LiesW.new w2 A
  simp only [Wo.cs, wZero, dZero] at hA
  have z_hA := hB.size
  have lt_hS_hA := hS.2.2
  have hu : Below w2.heap.size w2 (w2.alloc (.cells #[.int .i64 A.n, .int .i64 A.d, .int .i64 A.t, .int .i64 A.D.a0, .int .i64 A.D.a1, .int .i64 A.D.a2, .int .i64 A.D.a3, .int .i64 A.D.a4, .int .i64 A.D.a5, .int .i64 A.D.a6, .int .i64 A.g] 40)) := by go_grown
  replace hB := Dims.Below.goB hB hB.size hu
  replace hS := hS.go hu
  clear hu
  have x11 := hS.1 11 (by simp)
  have x12 := hS.1 12 (by simp)
  have x13 := hS.1 13 (by simp)
  have x14 := hS.1 14 (by simp)
  have x15 := hS.1 15 (by simp)
  have x16 := hS.1 16 (by simp)
  have x17 := hS.1 17 (by simp)
  have x18 := hS.1 18 (by simp)
  have x19 := hS.1 19 (by simp)
  have x20 := hS.1 20 (by simp)
  have x21 := hS.1 21 (by simp)
  simp only [List.getElem?_toArray, List.getElem?_cons_zero, List.getElem?_cons_succ] at x11 x12 x13 x14 x15 x16 x17 x18 x19 x20 x21
  go_wp2_with fail
  generalize (w2.alloc (.cells #[.int .i64 A.n, .int .i64 A.d, .int .i64 A.t, .int .i64 A.D.a0, .int .i64 A.D.a1, .int .i64 A.D.a2, .int .i64 A.D.a3, .int .i64 A.D.a4, .int .i64 A.D.a5, .int .i64 A.D.a6, .int .i64 A.g] 40)) = V1 at *
  refine (kS1 _).mono ?_
  rintro e w3 ⟨rfl, hb⟩
  replace hB := Dims.Below.goB hB hB.size hb
  replace hS := hS.go hb
  replace hA := hA.go hb
  clear hb
  clear x11 x12 x13 x14 x15 x16 x17 x18 x19 x20 x21
  have hBb := LiesW.new w3 B
  simp only [Wo.cs, wZero, dZero] at hBb
  have z_hBb := hB.size
  have lt_hS_hBb := hS.2.2
  have lt_hA_hBb := hA.2.2
  have hu : Below w3.heap.size w3 (w3.alloc (.cells #[.int .i64 B.n, .int .i64 B.d, .int .i64 B.t, .int .i64 B.D.a0, .int .i64 B.D.a1, .int .i64 B.D.a2, .int .i64 B.D.a3, .int .i64 B.D.a4, .int .i64 B.D.a5, .int .i64 B.D.a6, .int .i64 B.g] 40)) := by go_grown
  replace hB := Dims.Below.goB hB hB.size hu
  replace hS := hS.go hu
  replace hA := hA.go hu
  clear hu
  clear hS
  obtain ⟨a0, a1, a2, a3, a4, a5, a6, a7, a8, a9, a10⟩ := hA.cells
  obtain ⟨b0, b1, b2, b3, b4, b5, b6, b7, b8, b9, b10⟩ := hBb.cells
  go_wp2_with fail
  generalize (w3.alloc (.cells #[.int .i64 B.n, .int .i64 B.d, .int .i64 B.t, .int .i64 B.D.a0, .int .i64 B.D.a1, .int .i64 B.D.a2, .int .i64 B.D.a3, .int .i64 B.D.a4, .int .i64 B.D.a5, .int .i64 B.D.a6, .int .i64 B.g] 40)) = V2 at *
  refine (kM1 _ (hE.below hB).1).mono ?_
  rintro e w4 ⟨rfl, hb⟩
  replace hB := Dims.Below.goB hB hB.size hb
  replace hA := hA.go hb
  replace hBb := hBb.go hb
  clear hb
  clear a0 a1 a2 a3 a4 a5 a6 a7 a8 a9 a10 b0 b1 b2 b3 b4 b5 b6 b7 b8 b9 b10
  have hX := LiesW.new w4 X
  simp only [Wo.cs, wZero, dZero] at hX
  have z_hX := hB.size
  have lt_hA_hX := hA.2.2
  have lt_hBb_hX := hBb.2.2
  have hu : Below w4.heap.size w4 (w4.alloc (.cells #[.int .i64 X.n, .int .i64 X.d, .int .i64 X.t, .int .i64 X.D.a0, .int .i64 X.D.a1, .int .i64 X.D.a2, .int .i64 X.D.a3, .int .i64 X.D.a4, .int .i64 X.D.a5, .int .i64 X.D.a6, .int .i64 X.g] 40)) := by go_grown
  replace hB := Dims.Below.goB hB hB.size hu
  replace hA := hA.go hu
  replace hBb := hBb.go hu
  clear hu
  obtain ⟨a0, a1, a2, a3, a4, a5, a6, a7, a8, a9, a10⟩ := hA.cells
  obtain ⟨b0, b1, b2, b3, b4, b5, b6, b7, b8, b9, b10⟩ := hBb.cells
  go_wp2_with fail
  generalize (w4.alloc (.cells #[.int .i64 X.n, .int .i64 X.d, .int .i64 X.t, .int .i64 X.D.a0, .int .i64 X.D.a1, .int .i64 X.D.a2, .int .i64 X.D.a3, .int .i64 X.D.a4, .int .i64 X.D.a5, .int .i64 X.D.a6, .int .i64 X.g] 40)) = V3 at *
  refine (kM2 _ (hE.below hB).1).mono ?_
  rintro e w5 ⟨rfl, hb⟩
  replace hB := Dims.Below.goB hB hB.size hb
  replace hA := hA.go hb
  replace hBb := hBb.go hb
  replace hX := hX.go hb
  clear hb
  clear a0 a1 a2 a3 a4 a5 a6 a7 a8 a9 a10 b0 b1 b2 b3 b4 b5 b6 b7 b8 b9 b10
  have hY := LiesW.new w5 X
  simp only [Wo.cs, wZero, dZero] at hY
  have z_hY := hB.size
  have lt_hA_hY := hA.2.2
  have lt_hBb_hY := hBb.2.2
  have lt_hX_hY := hX.2.2
  have hu : Below w5.heap.size w5 (w5.alloc (.cells #[.int .i64 X.n, .int .i64 X.d, .int .i64 X.t, .int .i64 X.D.a0, .int .i64 X.D.a1, .int .i64 X.D.a2, .int .i64 X.D.a3, .int .i64 X.D.a4, .int .i64 X.D.a5, .int .i64 X.D.a6, .int .i64 X.g] 40)) := by go_grown
  replace hB := Dims.Below.goB hB hB.size hu
  replace hA := hA.go hu
  replace hBb := hBb.go hu
  replace hX := hX.go hu
  clear hu
  obtain ⟨b0, b1, b2, b3, b4, b5, b6, b7, b8, b9, b10⟩ := hBb.cells
  go_wp2_with fail
  generalize (w5.alloc (.cells #[.int .i64 X.n, .int .i64 X.d, .int .i64 X.t, .int .i64 X.D.a0, .int .i64 X.D.a1, .int .i64 X.D.a2, .int .i64 X.D.a3, .int .i64 X.D.a4, .int .i64 X.D.a5, .int .i64 X.D.a6, .int .i64 X.g] 40)) = V4 at *
  refine (kD1 _ (hE.below hB).1).mono ?_
  rintro e w6 ⟨rfl, hb⟩
  replace hB := Dims.Below.goB hB hB.size hb
  replace hA := hA.go hb
  replace hBb := hBb.go hb
  replace hX := hX.go hb
  replace hY := hY.go hb
  clear hb
  clear b0 b1 b2 b3 b4 b5 b6 b7 b8 b9 b10
  have hu : Below w6.heap.size w6 (w6.alloc (.cells #[.int .i64 0, .int .i64 0, .int .i64 0, .int .i64 0, .int .i64 0, .int .i64 0, .int .i64 0, .int .i64 0, .int .i64 0, .int .i64 0, .int .i64 0] 40)) := by go_grown
  replace hB := Dims.Below.goB hB hB.size hu
  replace hA := hA.go hu
  replace hBb := hBb.go hu
  replace hX := hX.go hu
  replace hY := hY.go hu
  clear hu
  go_upto_region 9 with fail
  generalize (w6.alloc (.cells #[.int .i64 0, .int .i64 0, .int .i64 0, .int .i64 0, .int .i64 0, .int .i64 0, .int .i64 0, .int .i64 0, .int .i64 0, .int .i64 0, .int .i64 0] 40)) = V5 at *
  obtain ⟨x0, x1, x2, x3, x4, x5, x6, x7, x8, x9, x10⟩ := hX.cells
  obtain ⟨y0, y1, y2, y3, y4, y5, y6, y7, y8, y9, y10⟩ := hY.cells
  obtain ⟨b0, b1, b2, b3, b4, b5, b6, b7, b8, b9, b10⟩ := hBb.cells
  go_wp2
  go_ret
  exact ⟨rfl, hB⟩

set_option maxRecDepth 100000 in
set_option maxHeartbeats 8000000 in
theorem back_over (s0 s1 : Wo) (w : World) (hE : EnvW w) (f0 : s0.Fine) (f1 : s1.Fine) (i0 : -9223372036854775808 ≤ s0.t ∧ s0.t ≤ 9223372036854775807) (i1 : -9223372036854775808 ≤ s1.t ∧ s1.t ≤ 9223372036854775807) (hz : (specW s1.plain).n ≠ 0) (he : (mulW (specW s0.plain) (specW s1.plain)).2 ≠ 0) :
    Calls Tryd.prog 4 #[.agg #[.int .i64 s0.n, .int .i64 s0.d, .int .i64 s0.t, .int .i64 s0.D.a0, .int .i64 s0.D.a1, .int .i64 s0.D.a2, .int .i64 s0.D.a3, .int .i64 s0.D.a4, .int .i64 s0.D.a5, .int .i64 s0.D.a6, .int .i64 s0.g, .int .i64 s1.n, .int .i64 s1.d, .int .i64 s1.t, .int .i64 s1.D.a0, .int .i64 s1.D.a1, .int .i64 s1.D.a2, .int .i64 s1.D.a3, .int .i64 s1.D.a4, .int .i64 s1.D.a5, .int .i64 s1.D.a6, .int .i64 s1.g]] w fun e w' => e = .returned (.bool true) ∧ Below w.heap.size w w' := by
  have kS0 := fun V => spec_any s0.plain V (plain_fine f0) i0.1 i0.2
  have kS1 := fun V => spec_any s1.plain V (plain_fine f1) i1.1 i1.2
  have mA := spec_mild s0 f0
  have mB := spec_mild s1 f1
  generalize specW s0.plain = A at *
  generalize specW s1.plain = B at *
  have kM1 := fun V hT => mul_any A B V hT mA.fine mB.fine
  have kM2 := fun V hT => mul_any B A V hT mB.fine mA.fine
  have kD1 := fun V hT => div_any B B V hT mB.fine mB.fine
  rw [← mul_comm mA mB (by omega)] at kM2
  obtain ⟨X, e, hR⟩ : ∃ X e, mulW A B = (X, e) := ⟨_, _, rfl⟩
  rw [div_self mB hz] at kD1
  rw [hR] at kM1 kM2
  have kO := fun V hT => of_any 1 V hT (by omega)
  rw [show ofW 1 = (⟨1, 1, 0, dZero, 0⟩, 0) from by have h : Frac.makeG 1 1 0 = ⟨1, 1, 0, 0⟩ := by kernel_rfl
                                                    unfold ofW; rw [h]] at kO
  have q2 := nev (⟨1, 1, 0, dZero, 0⟩ : Wo) ⟨1, 1, 0, dZero, 0⟩
  rw [eqW_same] at q2
  simp only [Wo.v, dZero, Bool.not_true] at kO q2
  have he2 : e = 10 := by
    have h := mul_over mA mB (by omega)
    rw [hR] at h he
    exact h.resolve_left he
  subst he2
  clear he
  have q1 := nev X X
  rw [eqW_same] at q1
  have hS := LiesC.new w #[.int .i64 s0.n, .int .i64 s0.d, .int .i64 s0.t, .int .i64 s0.D.a0, .int .i64 s0.D.a1, .int .i64 s0.D.a2, .int .i64 s0.D.a3, .int .i64 s0.D.a4, .int .i64 s0.D.a5, .int .i64 s0.D.a6, .int .i64 s0.g, .int .i64 s1.n, .int .i64 s1.d, .int .i64 s1.t, .int .i64 s1.D.a0, .int .i64 s1.D.a1, .int .i64 s1.D.a2, .int .i64 s1.D.a3, .int .i64 s1.D.a4, .int .i64 s1.D.a5, .int .i64 s1.D.a6, .int .i64 s1.g] 36
  have hB : Below w.heap.size w (w.alloc (.cells #[.int .i64 s0.n, .int .i64 s0.d, .int .i64 s0.t, .int .i64 s0.D.a0, .int .i64 s0.D.a1, .int .i64 s0.D.a2, .int .i64 s0.D.a3, .int .i64 s0.D.a4, .int .i64 s0.D.a5, .int .i64 s0.D.a6, .int .i64 s0.g, .int .i64 s1.n, .int .i64 s1.d, .int .i64 s1.t, .int .i64 s1.D.a0, .int .i64 s1.D.a1, .int .i64 s1.D.a2, .int .i64 s1.D.a3, .int .i64 s1.D.a4, .int .i64 s1.D.a5, .int .i64 s1.D.a6, .int .i64 s1.g] 36)) := by go_grown
  clear mA mB f0 f1 i0 i1
  simp only [Wo.v, Wo.plain, wZero, dZero, Bool.not_true] at kS0 kS1 kM1 kM2 kD1 q1
  go_enter Tryd.func4, Tryd.ntmps4
  go_wp2_with fail
  generalize (w.alloc (.cells #[.int .i64 s0.n, .int .i64 s0.d, .int .i64 s0.t, .int .i64 s0.D.a0, .int .i64 s0.D.a1, .int .i64 s0.D.a2, .int .i64 s0.D.a3, .int .i64 s0.D.a4, .int .i64 s0.D.a5, .int .i64 s0.D.a6, .int .i64 s0.g, .int .i64 s1.n, .int .i64 s1.d, .int .i64 s1.t, .int .i64 s1.D.a0, .int .i64 s1.D.a1, .int .i64 s1.D.a2, .int .i64 s1.D.a3, .int .i64 s1.D.a4, .int .i64 s1.D.a5, .int .i64 s1.D.a6, .int .i64 s1.g] 36)) = V0 at *
  refine (awake_yes _ (hE.below hB)).mono ?_
  rintro e w1 ⟨rfl, hb⟩
  replace hB := Dims.Below.goB hB hB.size hb
  replace hS := hS.go hb
  clear hb
  have x10 := hS.1 10 (by simp)
  have xf := hS.2.1
  simp only [List.getElem?_toArray, List.getElem?_cons_zero, List.getElem?_cons_succ] at x10
  replace hS := hS.set 10 (by simp) (.int .i64 0)
  replace hB := hB.setCell (p := ⟨w.heap.size, 10, none⟩) (Nat.le_refl _) (.int .i64 0)
  go_upto_region 3 with fail
  clear x10 xf
  generalize w1.setCell ⟨w.heap.size, 10, none⟩ (.int .i64 0) = U1 at *
  simp only [List.setIfInBounds_toArray, List.set_cons_succ, List.set_cons_zero] at hS
  have x21 := hS.1 21 (by simp)
  have xf := hS.2.1
  simp only [List.getElem?_toArray, List.getElem?_cons_zero, List.getElem?_cons_succ] at x21
  replace hS := hS.set 21 (by simp) (.int .i64 0)
  replace hB := hB.setCell (p := ⟨w.heap.size, 21, none⟩) (Nat.le_refl _) (.int .i64 0)
  go_upto_region 4 with fail
  clear x21 xf
  generalize U1.setCell ⟨w.heap.size, 21, none⟩ (.int .i64 0) = U2 at *
  simp only [List.setIfInBounds_toArray, List.set_cons_succ, List.set_cons_zero] at hS
  have x0 := hS.1 0 (by simp)
  have x1 := hS.1 1 (by simp)
  have x2 := hS.1 2 (by simp)
  have x3 := hS.1 3 (by simp)
  have x4 := hS.1 4 (by simp)
  have x5 := hS.1 5 (by simp)
  have x6 := hS.1 6 (by simp)
  have x7 := hS.1 7 (by simp)
  have x8 := hS.1 8 (by simp)
  have x9 := hS.1 9 (by simp)
  have x10 := hS.1 10 (by simp)
  simp only [List.getElem?_toArray, List.getElem?_cons_zero, List.getElem?_cons_succ] at x0 x1 x2 x3 x4 x5 x6 x7 x8 x9 x10
  go_wp2_with fail
  refine (kS0 _).mono ?_
  rintro e w2 ⟨rfl, hb⟩
  replace hB := Dims.Below.goB hB hB.size hb
  replace hS := hS.go hb
  clear hb
  clear x0 x1 x2 x3 x4 x5 x6 x7 x8 x9 x10
  have hA := LiesW.new w2 A
  simp only [Wo.cs, wZero, dZero] at hA
  have z_hA := hB.size
  have lt_hS_hA := hS.2.2
  have hu : Below w2.heap.size w2 (w2.alloc (.cells #[.int .i64 A.n, .int .i64 A.d, .int .i64 A.t, .int .i64 A.D.a0, .int .i64 A.D.a1, .int .i64 A.D.a2, .int .i64 A.D.a3, .int .i64 A.D.a4, .int .i64 A.D.a5, .int .i64 A.D.a6, .int .i64 A.g] 40)) := by go_grown
  replace hB := Dims.Below.goB hB hB.size hu
  replace hS := hS.go hu
  clear hu
  have x11 := hS.1 11 (by simp)
  have x12 := hS.1 12 (by simp)
  have x13 := hS.1 13 (by simp)
  have x14 := hS.1 14 (by simp)
  have x15 := hS.1 15 (by simp)
  have x16 := hS.1 16 (by simp)
  have x17 := hS.1 17 (by simp)
  have x18 := hS.1 18 (by simp)
  have x19 := hS.1 19 (by simp)
  have x20 := hS.1 20 (by simp)
  have x21 := hS.1 21 (by simp)
  simp only [List.getElem?_toArray, List.getElem?_cons_zero, List.getElem?_cons_succ] at x11 x12 x13 x14 x15 x16 x17 x18 x19 x20 x21
  go_wp2_with fail
  generalize (w2.alloc (.cells #[.int .i64 A.n, .int .i64 A.d, .int .i64 A.t, .int .i64 A.D.a0, .int .i64 A.D.a1, .int .i64 A.D.a2, .int .i64 A.D.a3, .int .i64 A.D.a4, .int .i64 A.D.a5, .int .i64 A.D.a6, .int .i64 A.g] 40)) = V1 at *
  refine (kS1 _).mono ?_
  rintro e w3 ⟨rfl, hb⟩
  replace hB := Dims.Below.goB hB hB.size hb
  replace hS := hS.go hb
  replace hA := hA.go hb
  clear hb
  clear x11 x12 x13 x14 x15 x16 x17 x18 x19 x20 x21
  have hBb := LiesW.new w3 B
  simp only [Wo.cs, wZero, dZero] at hBb
  have z_hBb := hB.size
  have lt_hS_hBb := hS.2.2
  have lt_hA_hBb := hA.2.2
  have hu : Below w3.heap.size w3 (w3.alloc (.cells #[.int .i64 B.n, .int .i64 B.d, .int .i64 B.t, .int .i64 B.D.a0, .int .i64 B.D.a1, .int .i64 B.D.a2, .int .i64 B.D.a3, .int .i64 B.D.a4, .int .i64 B.D.a5, .int .i64 B.D.a6, .int .i64 B.g] 40)) := by go_grown
  replace hB := Dims.Below.goB hB hB.size hu
  replace hS := hS.go hu
  replace hA := hA.go hu
  clear hu
  clear hS
  obtain ⟨a0, a1, a2, a3, a4, a5, a6, a7, a8, a9, a10⟩ := hA.cells
  obtain ⟨b0, b1, b2, b3, b4, b5, b6, b7, b8, b9, b10⟩ := hBb.cells
  go_wp2_with fail
  generalize (w3.alloc (.cells #[.int .i64 B.n, .int .i64 B.d, .int .i64 B.t, .int .i64 B.D.a0, .int .i64 B.D.a1, .int .i64 B.D.a2, .int .i64 B.D.a3, .int .i64 B.D.a4, .int .i64 B.D.a5, .int .i64 B.D.a6, .int .i64 B.g] 40)) = V2 at *
  refine (kM1 _ (hE.below hB).1).mono ?_
  rintro e w4 ⟨rfl, hb⟩
  replace hB := Dims.Below.goB hB hB.size hb
  replace hA := hA.go hb
  replace hBb := hBb.go hb
  clear hb
  clear a0 a1 a2 a3 a4 a5 a6 a7 a8 a9 a10 b0 b1 b2 b3 b4 b5 b6 b7 b8 b9 b10
  have hX := LiesW.new w4 X
  simp only [Wo.cs, wZero, dZero] at hX
  have z_hX := hB.size
  have lt_hA_hX := hA.2.2
  have lt_hBb_hX := hBb.2.2
  have hu : Below w4.heap.size w4 (w4.alloc (.cells #[.int .i64 X.n, .int .i64 X.d, .int .i64 X.t, .int .i64 X.D.a0, .int .i64 X.D.a1, .int .i64 X.D.a2, .int .i64 X.D.a3, .int .i64 X.D.a4, .int .i64 X.D.a5, .int .i64 X.D.a6, .int .i64 X.g] 40)) := by go_grown
  replace hB := Dims.Below.goB hB hB.size hu
  replace hA := hA.go hu
  replace hBb := hBb.go hu
  clear hu
  obtain ⟨a0, a1, a2, a3, a4, a5, a6, a7, a8, a9, a10⟩ := hA.cells
  obtain ⟨b0, b1, b2, b3, b4, b5, b6, b7, b8, b9, b10⟩ := hBb.cells
  go_wp2_with fail
  generalize (w4.alloc (.cells #[.int .i64 X.n, .int .i64 X.d, .int .i64 X.t, .int .i64 X.D.a0, .int .i64 X.D.a1, .int .i64 X.D.a2, .int .i64 X.D.a3, .int .i64 X.D.a4, .int .i64 X.D.a5, .int .i64 X.D.a6, .int .i64 X.g] 40)) = V3 at *
  refine (kM2 _ (hE.below hB).1).mono ?_
  rintro e w5 ⟨rfl, hb⟩
  replace hB := Dims.Below.goB hB hB.size hb
  replace hA := hA.go hb
  replace hBb := hBb.go hb
  replace hX := hX.go hb
  clear hb
  clear a0 a1 a2 a3 a4 a5 a6 a7 a8 a9 a10 b0 b1 b2 b3 b4 b5 b6 b7 b8 b9 b10
  have hY := LiesW.new w5 X
  simp only [Wo.cs, wZero, dZero] at hY
  have z_hY := hB.size
  have lt_hA_hY := hA.2.2
  have lt_hBb_hY := hBb.2.2
  have lt_hX_hY := hX.2.2
  have hu : Below w5.heap.size w5 (w5.alloc (.cells #[.int .i64 X.n, .int .i64 X.d, .int .i64 X.t, .int .i64 X.D.a0, .int .i64 X.D.a1, .int .i64 X.D.a2, .int .i64 X.D.a3, .int .i64 X.D.a4, .int .i64 X.D.a5, .int .i64 X.D.a6, .int .i64 X.g] 40)) := by go_grown
  replace hB := Dims.Below.goB hB hB.size hu
  replace hA := hA.go hu
  replace hBb := hBb.go hu
  replace hX := hX.go hu
  clear hu
  obtain ⟨b0, b1, b2, b3, b4, b5, b6, b7, b8, b9, b10⟩ := hBb.cells
  go_wp2_with fail
  generalize (w5.alloc (.cells #[.int .i64 X.n, .int .i64 X.d, .int .i64 X.t, .int .i64 X.D.a0, .int .i64 X.D.a1, .int .i64 X.D.a2, .int .i64 X.D.a3, .int .i64 X.D.a4, .int .i64 X.D.a5, .int .i64 X.D.a6, .int .i64 X.g] 40)) = V4 at *
  refine (kD1 _ (hE.below hB).1).mono ?_
  rintro e w6 ⟨rfl, hb⟩
  replace hB := Dims.Below.goB hB hB.size hb
  replace hA := hA.go hb
  replace hBb := hBb.go hb
  replace hX := hX.go hb
  replace hY := hY.go hb
  clear hb
  clear b0 b1 b2 b3 b4 b5 b6 b7 b8 b9 b10
  have hZ1 := LiesW.new w6 (⟨1, 1, 0, dZero, 0⟩ : Wo)
  simp only [Wo.cs, dZero] at hZ1
  have hu : Below w6.heap.size w6 (w6.alloc (.cells #[.int .i64 1, .int .i64 1, .int .i64 0, .int .i64 0, .int .i64 0, .int .i64 0, .int .i64 0, .int .i64 0, .int .i64 0, .int .i64 0, .int .i64 0] 40)) := by go_grown
  replace hB := Dims.Below.goB hB hB.size hu
  replace hA := hA.go hu
  replace hBb := hBb.go hu
  replace hX := hX.go hu
  replace hY := hY.go hu
  clear hu
  go_upto_region 9 with fail
  generalize (w6.alloc (.cells #[.int .i64 1, .int .i64 1, .int .i64 0, .int .i64 0, .int .i64 0, .int .i64 0, .int .i64 0, .int .i64 0, .int .i64 0, .int .i64 0, .int .i64 0] 40)) = V5 at *
  obtain ⟨x0, x1, x2, x3, x4, x5, x6, x7, x8, x9, x10⟩ := hX.cells
  obtain ⟨y0, y1, y2, y3, y4, y5, y6, y7, y8, y9, y10⟩ := hY.cells
  obtain ⟨b0, b1, b2, b3, b4, b5, b6, b7, b8, b9, b10⟩ := hBb.cells
  have zb : (B.n == 0) = false := by simpa using hz
  have HZ := Lib.hid hz
  clear hz
  go_wp2_with fail
  refine (kO _ (hE.below hB).1).mono ?_
  rintro e w7 ⟨rfl, hb⟩
  replace hB := Dims.Below.goB hB hB.size hb
  replace hA := hA.go hb
  replace hBb := hBb.go hb
  replace hX := hX.go hb
  replace hY := hY.go hb
  replace hZ1 := hZ1.go hb
  clear hb
  clear x0 x1 x2 x3 x4 x5 x6 x7 x8 x9 x10 y0 y1 y2 y3 y4 y5 y6 y7 y8 y9 y10 b0 b1 b2 b3 b4 b5 b6 b7 b8 b9 b10
  have hO := LiesW.new w7 (⟨1, 1, 0, dZero, 0⟩ : Wo)
  simp only [Wo.cs, dZero] at hO
  have hu : Below w7.heap.size w7 (w7.alloc (.cells #[.int .i64 1, .int .i64 1, .int .i64 0, .int .i64 0, .int .i64 0, .int .i64 0, .int .i64 0, .int .i64 0, .int .i64 0, .int .i64 0, .int .i64 0] 40)) := by go_grown
  replace hB := Dims.Below.goB hB hB.size hu
  replace hA := hA.go hu
  replace hBb := hBb.go hu
  replace hX := hX.go hu
  replace hY := hY.go hu
  replace hZ1 := hZ1.go hu
  clear hu
  go_upto_region 14 with fail
  generalize (w7.alloc (.cells #[.int .i64 1, .int .i64 1, .int .i64 0, .int .i64 0, .int .i64 0, .int .i64 0, .int .i64 0, .int .i64 0, .int .i64 0, .int .i64 0, .int .i64 0] 40)) = V6 at *
  obtain ⟨z0, z1, z2, z3, z4, z5, z6, z7, z8, z9, z10⟩ := hZ1.cells
  obtain ⟨o0, o1, o2, o3, o4, o5, o6, o7, o8, o9, o10⟩ := hO.cells
  simp only [dZero] at z3 o3 z4 o4 z5 o5 z6 o6 z7 o7 z8 o8 z9 o9
  go_wp2
  go_ret
  exact ⟨rfl, hB⟩

set_option maxRecDepth 100000 in
set_option maxHeartbeats 8000000 in
theorem back_yes (s0 s1 : Wo) (w : World) (hE : EnvW w) (f0 : s0.Fine) (f1 : s1.Fine) (i0 : -9223372036854775808 ≤ s0.t ∧ s0.t ≤ 9223372036854775807) (i1 : -9223372036854775808 ≤ s1.t ∧ s1.t ≤ 9223372036854775807) (hz : (specW s1.plain).n ≠ 0) (he : (mulW (specW s0.plain) (specW s1.plain)).2 = 0) :
    Calls Tryd.prog 4 #[.agg #[.int .i64 s0.n, .int .i64 s0.d, .int .i64 s0.t, .int .i64 s0.D.a0, .int .i64 s0.D.a1, .int .i64 s0.D.a2, .int .i64 s0.D.a3, .int .i64 s0.D.a4, .int .i64 s0.D.a5, .int .i64 s0.D.a6, .int .i64 s0.g, .int .i64 s1.n, .int .i64 s1.d, .int .i64 s1.t, .int .i64 s1.D.a0, .int .i64 s1.D.a1, .int .i64 s1.D.a2, .int .i64 s1.D.a3, .int .i64 s1.D.a4, .int .i64 s1.D.a5, .int .i64 s1.D.a6, .int .i64 s1.g]] w fun e w' => e = .returned (.bool true) ∧ Below w.heap.size w w' := by
  have kS0 := fun V => spec_any s0.plain V (plain_fine f0) i0.1 i0.2
  have kS1 := fun V => spec_any s1.plain V (plain_fine f1) i1.1 i1.2
  have mA := spec_mild s0 f0
  have mB := spec_mild s1 f1
  generalize specW s0.plain = A at *
  generalize specW s1.plain = B at *
  have kM1 := fun V hT => mul_any A B V hT mA.fine mB.fine
  have kM2 := fun V hT => mul_any B A V hT mB.fine mA.fine
  have kD1 := fun V hT => div_any B B V hT mB.fine mB.fine
  rw [← mul_comm mA mB (by omega)] at kM2
  obtain ⟨X, e, hR⟩ : ∃ X e, mulW A B = (X, e) := ⟨_, _, rfl⟩
  rw [div_self mB hz] at kD1
  rw [hR] at kM1 kM2
  have kO := fun V hT => of_any 1 V hT (by omega)
  rw [show ofW 1 = (⟨1, 1, 0, dZero, 0⟩, 0) from by have h : Frac.makeG 1 1 0 = ⟨1, 1, 0, 0⟩ := by kernel_rfl
                                                    unfold ofW; rw [h]] at kO
  have q2 := nev (⟨1, 1, 0, dZero, 0⟩ : Wo) ⟨1, 1, 0, dZero, 0⟩
  rw [eqW_same] at q2
  simp only [Wo.v, dZero, Bool.not_true] at kO q2
  have hk := div_back mA mB (by omega) hz he
  rw [hR] at hk he
  simp only at hk he
  subst he
  have kD2 := fun V hT => div_any X B V hT hk.1.fine mB.fine
  rw [hk.2] at kD2
  clear hk
  have q3 := eqf A.n A.d A.t A.n A.d A.t
  rw [eqF_same] at q3
  have q4 := Dims.eq7 A.D.a0 A.D.a1 A.D.a2 A.D.a3 A.D.a4 A.D.a5 A.D.a6 A.D.a0 A.D.a1 A.D.a2 A.D.a3 A.D.a4 A.D.a5 A.D.a6
  rw [Dims.eqB_same] at q4
  simp only [Wo.v] at kD2
  have q1 := nev X X
  rw [eqW_same] at q1
  have hS := LiesC.new w #[.int .i64 s0.n, .int .i64 s0.d, .int .i64 s0.t, .int .i64 s0.D.a0, .int .i64 s0.D.a1, .int .i64 s0.D.a2, .int .i64 s0.D.a3, .int .i64 s0.D.a4, .int .i64 s0.D.a5, .int .i64 s0.D.a6, .int .i64 s0.g, .int .i64 s1.n, .int .i64 s1.d, .int .i64 s1.t, .int .i64 s1.D.a0, .int .i64 s1.D.a1, .int .i64 s1.D.a2, .int .i64 s1.D.a3, .int .i64 s1.D.a4, .int .i64 s1.D.a5, .int .i64 s1.D.a6, .int .i64 s1.g] 36
  have hB : Below w.heap.size w (w.alloc (.cells #[.int .i64 s0.n, .int .i64 s0.d, .int .i64 s0.t, .int .i64 s0.D.a0, .int .i64 s0.D.a1, .int .i64 s0.D.a2, .int .i64 s0.D.a3, .int .i64 s0.D.a4, .int .i64 s0.D.a5, .int .i64 s0.D.a6, .int .i64 s0.g, .int .i64 s1.n, .int .i64 s1.d, .int .i64 s1.t, .int .i64 s1.D.a0, .int .i64 s1.D.a1, .int .i64 s1.D.a2, .int .i64 s1.D.a3, .int .i64 s1.D.a4, .int .i64 s1.D.a5, .int .i64 s1.D.a6, .int .i64 s1.g] 36)) := by go_grown
  clear mA mB f0 f1 i0 i1
  simp only [Wo.v, Wo.plain, wZero, dZero, Bool.not_true] at kS0 kS1 kM1 kM2 kD1 q1
  go_enter Tryd.func4, Tryd.ntmps4
  go_wp2_with fail
  generalize (w.alloc (.cells #[.int .i64 s0.n, .int .i64 s0.d, .int .i64 s0.t, .int .i64 s0.D.a0, .int .i64 s0.D.a1, .int .i64 s0.D.a2, .int .i64 s0.D.a3, .int .i64 s0.D.a4, .int .i64 s0.D.a5, .int .i64 s0.D.a6, .int .i64 s0.g, .int .i64 s1.n, .int .i64 s1.d, .int .i64 s1.t, .int .i64 s1.D.a0, .int .i64 s1.D.a1, .int .i64 s1.D.a2, .int .i64 s1.D.a3, .int .i64 s1.D.a4, .int .i64 s1.D.a5, .int .i64 s1.D.a6, .int .i64 s1.g] 36)) = V0 at *
  refine (awake_yes _ (hE.below hB)).mono ?_
  rintro e w1 ⟨rfl, hb⟩
  replace hB := Dims.Below.goB hB hB.size hb
  replace hS := hS.go hb
  clear hb
  have x10 := hS.1 10 (by simp)
  have xf := hS.2.1
  simp only [List.getElem?_toArray, List.getElem?_cons_zero, List.getElem?_cons_succ] at x10
  replace hS := hS.set 10 (by simp) (.int .i64 0)
  replace hB := hB.setCell (p := ⟨w.heap.size, 10, none⟩) (Nat.le_refl _) (.int .i64 0)
  go_upto_region 3 with fail
  clear x10 xf
  generalize w1.setCell ⟨w.heap.size, 10, none⟩ (.int .i64 0) = U1 at *
  simp only [List.setIfInBounds_toArray, List.set_cons_succ, List.set_cons_zero] at hS
  have x21 := hS.1 21 (by simp)
  have xf := hS.2.1
  simp only [List.getElem?_toArray, List.getElem?_cons_zero, List.getElem?_cons_succ] at x21
  replace hS := hS.set 21 (by simp) (.int .i64 0)
  replace hB := hB.setCell (p := ⟨w.heap.size, 21, none⟩) (Nat.le_refl _) (.int .i64 0)
  go_upto_region 4 with fail
  clear x21 xf
  generalize U1.setCell ⟨w.heap.size, 21, none⟩ (.int .i64 0) = U2 at *
  simp only [List.setIfInBounds_toArray, List.set_cons_succ, List.set_cons_zero] at hS
  have x0 := hS.1 0 (by simp)
  have x1 := hS.1 1 (by simp)
  have x2 := hS.1 2 (by simp)
  have x3 := hS.1 3 (by simp)
  have x4 := hS.1 4 (by simp)
  have x5 := hS.1 5 (by simp)
  have x6 := hS.1 6 (by simp)
  have x7 := hS.1 7 (by simp)
  have x8 := hS.1 8 (by simp)
  have x9 := hS.1 9 (by simp)
  have x10 := hS.1 10 (by simp)
  simp only [List.getElem?_toArray, List.getElem?_cons_zero, List.getElem?_cons_succ] at x0 x1 x2 x3 x4 x5 x6 x7 x8 x9 x10
  go_wp2_with fail
  refine (kS0 _).mono ?_
  rintro e w2 ⟨rfl, hb⟩
  replace hB := Dims.Below.goB hB hB.size hb
  replace hS := hS.go hb
  clear hb
  clear x0 x1 x2 x3 x4 x5 x6 x7 x8 x9 x10
  have hA := LiesW.new w2 A
  simp only [Wo.cs, wZero, dZero] at hA
  have z_hA := hB.size
  have lt_hS_hA := hS.2.2
  have hu : Below w2.heap.size w2 (w2.alloc (.cells #[.int .i64 A.n, .int .i64 A.d, .int .i64 A.t, .int .i64 A.D.a0, .int .i64 A.D.a1, .int .i64 A.D.a2, .int .i64 A.D.a3, .int .i64 A.D.a4, .int .i64 A.D.a5, .int .i64 A.D.a6, .int .i64 A.g] 40)) := by go_grown
  replace hB := Dims.Below.goB hB hB.size hu
  replace hS := hS.go hu
  clear hu
  have x11 := hS.1 11 (by simp)
  have x12 := hS.1 12 (by simp)
  have x13 := hS.1 13 (by simp)
  have x14 := hS.1 14 (by simp)
  have x15 := hS.1 15 (by simp)
  have x16 := hS.1 16 (by simp)
  have x17 := hS.1 17 (by simp)
  have x18 := hS.1 18 (by simp)
  have x19 := hS.1 19 (by simp)
  have x20 := hS.1 20 (by simp)
  have x21 := hS.1 21 (by simp)
  simp only [List.getElem?_toArray, List.getElem?_cons_zero, List.getElem?_cons_succ] at x11 x12 x13 x14 x15 x16 x17 x18 x19 x20 x21
  go_wp2_with fail
  generalize (w2.alloc (.cells #[.int .i64 A.n, .int .i64 A.d, .int .i64 A.t, .int .i64 A.D.a0, .int .i64 A.D.a1, .int .i64 A.D.a2, .int .i64 A.D.a3, .int .i64 A.D.a4, .int .i64 A.D.a5, .int .i64 A.D.a6, .int .i64 A.g] 40)) = V1 at *
  refine (kS1 _).mono ?_
  rintro e w3 ⟨rfl, hb⟩
  replace hB := Dims.Below.goB hB hB.size hb
  replace hS := hS.go hb
  replace hA := hA.go hb
  clear hb
  clear x11 x12 x13 x14 x15 x16 x17 x18 x19 x20 x21
  have hBb := LiesW.new w3 B
  simp only [Wo.cs, wZero, dZero] at hBb
  have z_hBb := hB.size
  have lt_hS_hBb := hS.2.2
  have lt_hA_hBb := hA.2.2
  have hu : Below w3.heap.size w3 (w3.alloc (.cells #[.int .i64 B.n, .int .i64 B.d, .int .i64 B.t, .int .i64 B.D.a0, .int .i64 B.D.a1, .int .i64 B.D.a2, .int .i64 B.D.a3, .int .i64 B.D.a4, .int .i64 B.D.a5, .int .i64 B.D.a6, .int .i64 B.g] 40)) := by go_grown
  replace hB := Dims.Below.goB hB hB.size hu
  replace hS := hS.go hu
  replace hA := hA.go hu
  clear hu
  clear hS
  obtain ⟨a0, a1, a2, a3, a4, a5, a6, a7, a8, a9, a10⟩ := hA.cells
  obtain ⟨b0, b1, b2, b3, b4, b5, b6, b7, b8, b9, b10⟩ := hBb.cells
  go_wp2_with fail
  generalize (w3.alloc (.cells #[.int .i64 B.n, .int .i64 B.d, .int .i64 B.t, .int .i64 B.D.a0, .int .i64 B.D.a1, .int .i64 B.D.a2, .int .i64 B.D.a3, .int .i64 B.D.a4, .int .i64 B.D.a5, .int .i64 B.D.a6, .int .i64 B.g] 40)) = V2 at *
  refine (kM1 _ (hE.below hB).1).mono ?_
  rintro e w4 ⟨rfl, hb⟩
  replace hB := Dims.Below.goB hB hB.size hb
  replace hA := hA.go hb
  replace hBb := hBb.go hb
  clear hb
  clear a0 a1 a2 a3 a4 a5 a6 a7 a8 a9 a10 b0 b1 b2 b3 b4 b5 b6 b7 b8 b9 b10
  have hX := LiesW.new w4 X
  simp only [Wo.cs, wZero, dZero] at hX
  have z_hX := hB.size
  have lt_hA_hX := hA.2.2
  have lt_hBb_hX := hBb.2.2
  have hu : Below w4.heap.size w4 (w4.alloc (.cells #[.int .i64 X.n, .int .i64 X.d, .int .i64 X.t, .int .i64 X.D.a0, .int .i64 X.D.a1, .int .i64 X.D.a2, .int .i64 X.D.a3, .int .i64 X.D.a4, .int .i64 X.D.a5, .int .i64 X.D.a6, .int .i64 X.g] 40)) := by go_grown
  replace hB := Dims.Below.goB hB hB.size hu
  replace hA := hA.go hu
  replace hBb := hBb.go hu
  clear hu
  obtain ⟨a0, a1, a2, a3, a4, a5, a6, a7, a8, a9, a10⟩ := hA.cells
  obtain ⟨b0, b1, b2, b3, b4, b5, b6, b7, b8, b9, b10⟩ := hBb.cells
  go_wp2_with fail
  generalize (w4.alloc (.cells #[.int .i64 X.n, .int .i64 X.d, .int .i64 X.t, .int .i64 X.D.a0, .int .i64 X.D.a1, .int .i64 X.D.a2, .int .i64 X.D.a3, .int .i64 X.D.a4, .int .i64 X.D.a5, .int .i64 X.D.a6, .int .i64 X.g] 40)) = V3 at *
  refine (kM2 _ (hE.below hB).1).mono ?_
  rintro e w5 ⟨rfl, hb⟩
  replace hB := Dims.Below.goB hB hB.size hb
  replace hA := hA.go hb
  replace hBb := hBb.go hb
  replace hX := hX.go hb
  clear hb
  clear a0 a1 a2 a3 a4 a5 a6 a7 a8 a9 a10 b0 b1 b2 b3 b4 b5 b6 b7 b8 b9 b10
  have hY := LiesW.new w5 X
  simp only [Wo.cs, wZero, dZero] at hY
  have z_hY := hB.size
  have lt_hA_hY := hA.2.2
  have lt_hBb_hY := hBb.2.2
  have lt_hX_hY := hX.2.2
  have hu : Below w5.heap.size w5 (w5.alloc (.cells #[.int .i64 X.n, .int .i64 X.d, .int .i64 X.t, .int .i64 X.D.a0, .int .i64 X.D.a1, .int .i64 X.D.a2, .int .i64 X.D.a3, .int .i64 X.D.a4, .int .i64 X.D.a5, .int .i64 X.D.a6, .int .i64 X.g] 40)) := by go_grown
  replace hB := Dims.Below.goB hB hB.size hu
  replace hA := hA.go hu
  replace hBb := hBb.go hu
  replace hX := hX.go hu
  clear hu
  obtain ⟨b0, b1, b2, b3, b4, b5, b6, b7, b8, b9, b10⟩ := hBb.cells
  go_wp2_with fail
  generalize (w5.alloc (.cells #[.int .i64 X.n, .int .i64 X.d, .int .i64 X.t, .int .i64 X.D.a0, .int .i64 X.D.a1, .int .i64 X.D.a2, .int .i64 X.D.a3, .int .i64 X.D.a4, .int .i64 X.D.a5, .int .i64 X.D.a6, .int .i64 X.g] 40)) = V4 at *
  refine (kD1 _ (hE.below hB).1).mono ?_
  rintro e w6 ⟨rfl, hb⟩
  replace hB := Dims.Below.goB hB hB.size hb
  replace hA := hA.go hb
  replace hBb := hBb.go hb
  replace hX := hX.go hb
  replace hY := hY.go hb
  clear hb
  clear b0 b1 b2 b3 b4 b5 b6 b7 b8 b9 b10
  have hZ1 := LiesW.new w6 (⟨1, 1, 0, dZero, 0⟩ : Wo)
  simp only [Wo.cs, dZero] at hZ1
  have hu : Below w6.heap.size w6 (w6.alloc (.cells #[.int .i64 1, .int .i64 1, .int .i64 0, .int .i64 0, .int .i64 0, .int .i64 0, .int .i64 0, .int .i64 0, .int .i64 0, .int .i64 0, .int .i64 0] 40)) := by go_grown
  replace hB := Dims.Below.goB hB hB.size hu
  replace hA := hA.go hu
  replace hBb := hBb.go hu
  replace hX := hX.go hu
  replace hY := hY.go hu
  clear hu
  go_upto_region 9 with fail
  generalize (w6.alloc (.cells #[.int .i64 1, .int .i64 1, .int .i64 0, .int .i64 0, .int .i64 0, .int .i64 0, .int .i64 0, .int .i64 0, .int .i64 0, .int .i64 0, .int .i64 0] 40)) = V5 at *
  obtain ⟨x0, x1, x2, x3, x4, x5, x6, x7, x8, x9, x10⟩ := hX.cells
  obtain ⟨y0, y1, y2, y3, y4, y5, y6, y7, y8, y9, y10⟩ := hY.cells
  obtain ⟨b0, b1, b2, b3, b4, b5, b6, b7, b8, b9, b10⟩ := hBb.cells
  have zb : (B.n == 0) = false := by simpa using hz
  have HZ := Lib.hid hz
  clear hz
  go_wp2_with fail
  refine (kO _ (hE.below hB).1).mono ?_
  rintro e w7 ⟨rfl, hb⟩
  replace hB := Dims.Below.goB hB hB.size hb
  replace hA := hA.go hb
  replace hBb := hBb.go hb
  replace hX := hX.go hb
  replace hY := hY.go hb
  replace hZ1 := hZ1.go hb
  clear hb
  clear x0 x1 x2 x3 x4 x5 x6 x7 x8 x9 x10 y0 y1 y2 y3 y4 y5 y6 y7 y8 y9 y10 b0 b1 b2 b3 b4 b5 b6 b7 b8 b9 b10
  have hO := LiesW.new w7 (⟨1, 1, 0, dZero, 0⟩ : Wo)
  simp only [Wo.cs, dZero] at hO
  have hu : Below w7.heap.size w7 (w7.alloc (.cells #[.int .i64 1, .int .i64 1, .int .i64 0, .int .i64 0, .int .i64 0, .int .i64 0, .int .i64 0, .int .i64 0, .int .i64 0, .int .i64 0, .int .i64 0] 40)) := by go_grown
  replace hB := Dims.Below.goB hB hB.size hu
  replace hA := hA.go hu
  replace hBb := hBb.go hu
  replace hX := hX.go hu
  replace hY := hY.go hu
  replace hZ1 := hZ1.go hu
  clear hu
  go_upto_region 14 with fail
  generalize (w7.alloc (.cells #[.int .i64 1, .int .i64 1, .int .i64 0, .int .i64 0, .int .i64 0, .int .i64 0, .int .i64 0, .int .i64 0, .int .i64 0, .int .i64 0, .int .i64 0] 40)) = V6 at *
  obtain ⟨z0, z1, z2, z3, z4, z5, z6, z7, z8, z9, z10⟩ := hZ1.cells
  obtain ⟨o0, o1, o2, o3, o4, o5, o6, o7, o8, o9, o10⟩ := hO.cells
  simp only [dZero] at z3 o3 z4 o4 z5 o5 z6 o6 z7 o7 z8 o8 z9 o9
  obtain ⟨x0, x1, x2, x3, x4, x5, x6, x7, x8, x9, x10⟩ := hX.cells
  obtain ⟨b0, b1, b2, b3, b4, b5, b6, b7, b8, b9, b10⟩ := hBb.cells
  go_wp2_with fail
  refine (kD2 _ (hE.below hB).1).mono ?_
  rintro e w8 ⟨rfl, hb⟩
  replace hB := Dims.Below.goB hB hB.size hb
  replace hA := hA.go hb
  replace hBb := hBb.go hb
  replace hX := hX.go hb
  replace hY := hY.go hb
  replace hZ1 := hZ1.go hb
  replace hO := hO.go hb
  clear hb
  clear z0 z1 z2 z3 z4 z5 z6 z7 z8 z9 z10 o0 o1 o2 o3 o4 o5 o6 o7 o8 o9 o10 x0 x1 x2 x3 x4 x5 x6 x7 x8 x9 x10 b0 b1 b2 b3 b4 b5 b6 b7 b8 b9 b10
  have hW := LiesW.new w8 A
  simp only [Wo.cs, wZero, dZero] at hW
  have z_hW := hB.size
  have lt_hA_hW := hA.2.2
  have lt_hBb_hW := hBb.2.2
  have lt_hX_hW := hX.2.2
  have lt_hY_hW := hY.2.2
  have lt_hZ1_hW := hZ1.2.2
  have lt_hO_hW := hO.2.2
  have hu : Below w8.heap.size w8 (w8.alloc (.cells #[.int .i64 A.n, .int .i64 A.d, .int .i64 A.t, .int .i64 A.D.a0, .int .i64 A.D.a1, .int .i64 A.D.a2, .int .i64 A.D.a3, .int .i64 A.D.a4, .int .i64 A.D.a5, .int .i64 A.D.a6, .int .i64 A.g] 40)) := by go_grown
  replace hB := Dims.Below.goB hB hB.size hu
  replace hA := hA.go hu
  replace hBb := hBb.go hu
  replace hX := hX.go hu
  replace hY := hY.go hu
  replace hZ1 := hZ1.go hu
  replace hO := hO.go hu
  clear hu
  go_upto_region 19 with fail
  generalize (w8.alloc (.cells #[.int .i64 A.n, .int .i64 A.d, .int .i64 A.t, .int .i64 A.D.a0, .int .i64 A.D.a1, .int .i64 A.D.a2, .int .i64 A.D.a3, .int .i64 A.D.a4, .int .i64 A.D.a5, .int .i64 A.D.a6, .int .i64 A.g] 40)) = V7 at *
  obtain ⟨v0, v1, v2, v3, v4, v5, v6, v7, v8, v9, v10⟩ := hW.cells
  obtain ⟨a0, a1, a2, a3, a4, a5, a6, a7, a8, a9, a10⟩ := hA.cells
  go_wp2
  go_ret
  exact ⟨rfl, hB⟩

theorem back_walk (s0 s1 : Wo) (w : World) (hE : EnvW w) (f0 : s0.Fine) (f1 : s1.Fine) (i0 : -9223372036854775808 ≤ s0.t ∧ s0.t ≤ 9223372036854775807) (i1 : -9223372036854775808 ≤ s1.t ∧ s1.t ≤ 9223372036854775807) :
    Calls Tryd.prog 4 #[.agg #[.int .i64 s0.n, .int .i64 s0.d, .int .i64 s0.t, .int .i64 s0.D.a0, .int .i64 s0.D.a1, .int .i64 s0.D.a2, .int .i64 s0.D.a3, .int .i64 s0.D.a4, .int .i64 s0.D.a5, .int .i64 s0.D.a6, .int .i64 s0.g, .int .i64 s1.n, .int .i64 s1.d, .int .i64 s1.t, .int .i64 s1.D.a0, .int .i64 s1.D.a1, .int .i64 s1.D.a2, .int .i64 s1.D.a3, .int .i64 s1.D.a4, .int .i64 s1.D.a5, .int .i64 s1.D.a6, .int .i64 s1.g]] w fun e w' => e = .returned (.bool true) ∧ Below w.heap.size w w' := by
  by_cases hz : (specW s1.plain).n = 0
  · exact back_zero s0 s1 w hE f0 f1 i0 i1 hz
  · by_cases he : (mulW (specW s0.plain) (specW s1.plain)).2 = 0
    · exact back_yes s0 s1 w hE f0 f1 i0 i1 hz he
    · exact back_over s0 s1 w hE f0 f1 i0 i1 hz he

theorem back_law (a0 a1 a2 a3 a4 a5 a6 a7 a8 a9 a10 a11 a12 a13 a14 a15 a16 a17 a18 a19 a20 a21 : Int) (w : World) (hE : EnvW w) (b_a0 : -9223372036854775808 ≤ a0 ∧ a0 ≤ 9223372036854775807) (b_a1 : -9223372036854775808 ≤ a1 ∧ a1 ≤ 9223372036854775807) (b_a2 : -9223372036854775808 ≤ a2 ∧ a2 ≤ 9223372036854775807) (b_a3 : -9223372036854775808 ≤ a3 ∧ a3 ≤ 9223372036854775807) (b_a4 : -9223372036854775808 ≤ a4 ∧ a4 ≤ 9223372036854775807) (b_a5 : -9223372036854775808 ≤ a5 ∧ a5 ≤ 9223372036854775807) (b_a6 : -9223372036854775808 ≤ a6 ∧ a6 ≤ 9223372036854775807) (b_a7 : -9223372036854775808 ≤ a7 ∧ a7 ≤ 9223372036854775807) (b_a8 : -9223372036854775808 ≤ a8 ∧ a8 ≤ 9223372036854775807) (b_a9 : -9223372036854775808 ≤ a9 ∧ a9 ≤ 9223372036854775807) (b_a10 : -9223372036854775808 ≤ a10 ∧ a10 ≤ 9223372036854775807) (b_a11 : -9223372036854775808 ≤ a11 ∧ a11 ≤ 9223372036854775807) (b_a12 : -9223372036854775808 ≤ a12 ∧ a12 ≤ 9223372036854775807) (b_a13 : -9223372036854775808 ≤ a13 ∧ a13 ≤ 9223372036854775807) (b_a14 : -9223372036854775808 ≤ a14 ∧ a14 ≤ 9223372036854775807) (b_a15 : -9223372036854775808 ≤ a15 ∧ a15 ≤ 9223372036854775807) (b_a16 : -9223372036854775808 ≤ a16 ∧ a16 ≤ 9223372036854775807) (b_a17 : -9223372036854775808 ≤ a17 ∧ a17 ≤ 9223372036854775807) (b_a18 : -9223372036854775808 ≤ a18 ∧ a18 ≤ 9223372036854775807) (b_a19 : -9223372036854775808 ≤ a19 ∧ a19 ≤ 9223372036854775807) (b_a20 : -9223372036854775808 ≤ a20 ∧ a20 ≤ 9223372036854775807) (b_a21 : -9223372036854775808 ≤ a21 ∧ a21 ≤ 9223372036854775807) :
    Calls Tryd.prog 4 #[.agg #[.int .i64 a0, .int .i64 a1, .int .i64 a2, .int .i64 a3, .int .i64 a4, .int .i64 a5, .int .i64 a6, .int .i64 a7, .int .i64 a8, .int .i64 a9, .int .i64 a10, .int .i64 a11, .int .i64 a12, .int .i64 a13, .int .i64 a14, .int .i64 a15, .int .i64 a16, .int .i64 a17, .int .i64 a18, .int .i64 a19, .int .i64 a20, .int .i64 a21]] w fun e w' => e = .returned (.bool true) ∧ Below w.heap.size w w' :=
  back_walk ⟨a0, a1, a2, ⟨a3, a4, a5, a6, a7, a8, a9⟩, a10⟩ ⟨a11, a12, a13, ⟨a14, a15, a16, a17, a18, a19, a20⟩, a21⟩  w hE ⟨b_a0.2, b_a1.2, Dims.seven (p := fun i => -9223372036854775808 ≤ D7.get ⟨a3, a4, a5, a6, a7, a8, a9⟩ i ∧ D7.get ⟨a3, a4, a5, a6, a7, a8, a9⟩ i ≤ 9223372036854775807) b_a3 b_a4 b_a5 b_a6 b_a7 b_a8 b_a9, b_a10.1, b_a10.2⟩ ⟨b_a11.2, b_a12.2, Dims.seven (p := fun i => -9223372036854775808 ≤ D7.get ⟨a14, a15, a16, a17, a18, a19, a20⟩ i ∧ D7.get ⟨a14, a15, a16, a17, a18, a19, a20⟩ i ≤ 9223372036854775807) b_a14 b_a15 b_a16 b_a17 b_a18 b_a19 b_a20, b_a21.1, b_a21.2⟩ b_a2 b_a13 

end Go.Proofs.YtndinbefljajcaaDoor.Worth

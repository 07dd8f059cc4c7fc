/-
  The walk of the law WorthTexts: it returns true, for every argument of its kind; old memory stays.
-/
import Derived.Test.YtndinbefljajcaaDoorVN
import Derived.Deep.RegionHeld3
import Derived.Deep.Cut
namespace Go.Proofs.YtndinbefljajcaaDoor.Worth
open Go.RowKit Go.Shelf
open Go.Proofs.YtndinbefljajcaaDoor.Frac (Got OfTen Room specG)
open Go.Proofs.YtndinbefljajcaaDoor.Dims (D7 dZero dOf Lies7 get_of)
open Go.Proofs.YtndinbefljajcaaDoor.Texts (bs bs_app bs_size bs_extract)
set_option linter.unusedVariables false
set_option linter.unusedSimpArgs false

/-- How the world stands at the end of WorthTexts. -/
def TxAt (w v : World) (A B : Wo) (ba bb : Nat) : Prop := Below w.heap.size w v ∧ LiesW v ba A ∧ LiesW v bb B
theorem TxAt.go {w v v' : World} {A B : Wo} {ba bb : Nat} (h : TxAt w v A B ba bb) (hb : Below v.heap.size v v') : TxAt w v' A B ba bb := ⟨Dims.Below.goB h.1 h.1.size hb, h.2.1.go hb, h.2.2.go hb⟩
theorem TxAt.drew {w v : World} {A B : Wo} {ba bb : Nat} (h : TxAt w v A B ba bb) : TxAt w v.drew A B ba bb := h.go (by go_grown)
theorem TxAt.cells {w v : World} {A B : Wo} {ba bb : Nat} (h : TxAt w v A B ba bb) : v.cell? ⟨ba, 0, none⟩ = some (.int .i64 A.n) ∧ v.cell? ⟨ba, 1, none⟩ = some (.int .i64 A.d) ∧ v.cell? ⟨ba, 2, none⟩ = some (.int .i64 A.t) ∧ v.cell? ⟨ba, 3, none⟩ = some (.int .i64 A.D.a0) ∧ v.cell? ⟨ba, 4, none⟩ = some (.int .i64 A.D.a1) ∧ v.cell? ⟨ba, 5, none⟩ = some (.int .i64 A.D.a2) ∧ v.cell? ⟨ba, 6, none⟩ = some (.int .i64 A.D.a3) ∧ v.cell? ⟨ba, 7, none⟩ = some (.int .i64 A.D.a4) ∧ v.cell? ⟨ba, 8, none⟩ = some (.int .i64 A.D.a5) ∧ v.cell? ⟨ba, 9, none⟩ = some (.int .i64 A.D.a6) ∧ v.cell? ⟨ba, 10, none⟩ = some (.int .i64 A.g) ∧ v.cell? ⟨bb, 0, none⟩ = some (.int .i64 B.n) ∧ v.cell? ⟨bb, 1, none⟩ = some (.int .i64 B.d) ∧ v.cell? ⟨bb, 2, none⟩ = some (.int .i64 B.t) ∧ v.cell? ⟨bb, 3, none⟩ = some (.int .i64 B.D.a0) ∧ v.cell? ⟨bb, 4, none⟩ = some (.int .i64 B.D.a1) ∧ v.cell? ⟨bb, 5, none⟩ = some (.int .i64 B.D.a2) ∧ v.cell? ⟨bb, 6, none⟩ = some (.int .i64 B.D.a3) ∧ v.cell? ⟨bb, 7, none⟩ = some (.int .i64 B.D.a4) ∧ v.cell? ⟨bb, 8, none⟩ = some (.int .i64 B.D.a5) ∧ v.cell? ⟨bb, 9, none⟩ = some (.int .i64 B.D.a6) ∧ v.cell? ⟨bb, 10, none⟩ = some (.int .i64 B.g) := by
  obtain ⟨_, h1, h2⟩ := h
  obtain ⟨a0, a1, a2, a3, a4, a5, a6, a7, a8, a9, a10⟩ := h1.cells
  obtain ⟨b0, b1, b2, b3, b4, b5, b6, b7, b8, b9, b10⟩ := h2.cells
  exact ⟨a0, a1, a2, a3, a4, a5, a6, a7, a8, a9, a10, b0, b1, b2, b3, b4, b5, b6, b7, b8, b9, b10⟩
theorem bs_list (a : List UInt8) : (bs a).toList = a := by rw [ByteArray.toList_eq]; rfl

set_option maxRecDepth 100000 in
set_option maxHeartbeats 8000000 in
theorem texts_walk (s0 s1 : Wo) (w : World) (hE : EnvW w) (f0 : s0.Fine) (f1 : s1.Fine) (i0 : -9223372036854775808 ≤ s0.t ∧ s0.t ≤ 9223372036854775807) (i1 : -9223372036854775808 ≤ s1.t ∧ s1.t ≤ 9223372036854775807) :
    Calls Tryd.prog 7 #[.agg #[.int .i64 s0.n, .int .i64 s0.d, .int .i64 s0.t, .int .i64 s0.D.a0, .int .i64 s0.D.a1, .int .i64 s0.D.a2, .int .i64 s0.D.a3, .int .i64 s0.D.a4, .int .i64 s0.D.a5, .int .i64 s0.D.a6, .int .i64 s0.g, .int .i64 s1.n, .int .i64 s1.d, .int .i64 s1.t, .int .i64 s1.D.a0, .int .i64 s1.D.a1, .int .i64 s1.D.a2, .int .i64 s1.D.a3, .int .i64 s1.D.a4, .int .i64 s1.D.a5, .int .i64 s1.D.a6, .int .i64 s1.g]] w fun e w' => e = .returned (.bool true) ∧ Below w.heap.size w w' := by
  have kS0 := fun V => spec_any s0 V f0 i0.1 i0.2
  have kS1 := fun V => spec_any s1 V f1 i1.1 i1.2
  have fA := spec_fine s0 f0
  have fB := spec_fine s1 f1
  have rA := spec_right s0 f0
  have rB := spec_right s1 f1
  generalize specW s0 = A at *
  generalize specW s1 = B at *
  have kT1 := fun V hV => text_any A V hV fA
  have kT2 := fun V hV => text_any B V hV fB
  have kF := fun V => Texts.rtext_any A.n A.d A.t V fA.n fA.d
  have lA := text_len A fA rA
  have lB := text_len B fB rB
  have HQ : Hid (decide (textW A = textW B) = eqW A B) := by
    show _ = _
    rw [Bool.eq_iff_iff, decide_eq_true_iff, eqW_iff]
    exact ⟨text_inj fA fB rA rB, fun h => by rw [h]⟩
  have hP : Texts.textF A.n A.d A.t ++ (dimL (Dims.textL A.D) ++ tagL A.g) = textW A := by
    unfold textW Texts.textF
    rw [if_pos rA, if_pos ((rightW_iff A).1 rA).1]
    rfl
  have q1 := eqv A B
  generalize textW A = TA at *
  generalize textW B = TB at *
  generalize Texts.textF A.n A.d A.t = TF at *
  have lF : TF.length ≤ TA.length := by rw [← hP, List.length_append]; omega
  have hT : TA.take TF.length = TF := by rw [← hP, List.take_left']; rfl
  have z1 : (bs TA).size = TA.length := bs_size TA
  have z2 : (bs TF).size = TF.length := bs_size TF
  have z3 : (bs TB).size = TB.length := bs_size TB
  have ex : (bs TA).extract 0 TF.length = bs TF := by rw [bs_extract, hT]; simp
  have y1 : ¬ (TA.length : Int) < (TF.length : Int) := by omega
  have y2 : (TF.length : Int) ≤ (TA.length : Int) := by omega
  have y3 : ¬ (TF.length : Int) < 0 := by omega
  have y4 : ((bs TF).toList == (bs TF).toList) = true := by simp
  have e1 : ((bs TA).toList == (bs TB).toList) = eqW A B := by
    rw [← HQ.out, bs_list, bs_list, Bool.eq_iff_iff, beq_iff_eq, decide_eq_true_iff]
  have e2 : (eqW A B == eqW A B) = true := by simp
  have hS := LiesC.new w #[.int .i64 s0.n, .int .i64 s0.d, .int .i64 s0.t, .int .i64 s0.D.a0, .int .i64 s0.D.a1, .int .i64 s0.D.a2, .int .i64 s0.D.a3, .int .i64 s0.D.a4, .int .i64 s0.D.a5, .int .i64 s0.D.a6, .int .i64 s0.g, .int .i64 s1.n, .int .i64 s1.d, .int .i64 s1.t, .int .i64 s1.D.a0, .int .i64 s1.D.a1, .int .i64 s1.D.a2, .int .i64 s1.D.a3, .int .i64 s1.D.a4, .int .i64 s1.D.a5, .int .i64 s1.D.a6, .int .i64 s1.g] 36
  have hB : Below w.heap.size w (w.alloc (.cells #[.int .i64 s0.n, .int .i64 s0.d, .int .i64 s0.t, .int .i64 s0.D.a0, .int .i64 s0.D.a1, .int .i64 s0.D.a2, .int .i64 s0.D.a3, .int .i64 s0.D.a4, .int .i64 s0.D.a5, .int .i64 s0.D.a6, .int .i64 s0.g, .int .i64 s1.n, .int .i64 s1.d, .int .i64 s1.t, .int .i64 s1.D.a0, .int .i64 s1.D.a1, .int .i64 s1.D.a2, .int .i64 s1.D.a3, .int .i64 s1.D.a4, .int .i64 s1.D.a5, .int .i64 s1.D.a6, .int .i64 s1.g] 36)) := by go_grown
  clear fA fB rA rB f0 f1 i0 i1 hP hT HQ
  generalize eqW A B = q at *
  simp only [Wo.v] at kS0 kS1 kT1 kT2 q1
  go_enter Tryd.func7, Tryd.ntmps7
  go_wp2_with fail
  generalize (w.alloc (.cells #[.int .i64 s0.n, .int .i64 s0.d, .int .i64 s0.t, .int .i64 s0.D.a0, .int .i64 s0.D.a1, .int .i64 s0.D.a2, .int .i64 s0.D.a3, .int .i64 s0.D.a4, .int .i64 s0.D.a5, .int .i64 s0.D.a6, .int .i64 s0.g, .int .i64 s1.n, .int .i64 s1.d, .int .i64 s1.t, .int .i64 s1.D.a0, .int .i64 s1.D.a1, .int .i64 s1.D.a2, .int .i64 s1.D.a3, .int .i64 s1.D.a4, .int .i64 s1.D.a5, .int .i64 s1.D.a6, .int .i64 s1.g] 36)) = V0 at *
  refine (awake_yes _ (hE.below hB)).mono ?_
  rintro e w1 ⟨rfl, hb⟩
  replace hB := Dims.Below.goB hB hB.size hb
  replace hS := hS.go hb
  clear hb
  have x0 := hS.1 0 (by simp)
  have x1 := hS.1 1 (by simp)
  have x2 := hS.1 2 (by simp)
  have x3 := hS.1 3 (by simp)
  have x4 := hS.1 4 (by simp)
  have x5 := hS.1 5 (by simp)
  have x6 := hS.1 6 (by simp)
  have x7 := hS.1 7 (by simp)
  have x8 := hS.1 8 (by simp)
  have x9 := hS.1 9 (by simp)
  have x10 := hS.1 10 (by simp)
  simp only [List.getElem?_toArray, List.getElem?_cons_zero, List.getElem?_cons_succ] at x0 x1 x2 x3 x4 x5 x6 x7 x8 x9 x10
  go_wp2_with fail
  refine (kS0 _).mono ?_
  rintro e w2 ⟨rfl, hb⟩
  replace hB := Dims.Below.goB hB hB.size hb
  replace hS := hS.go hb
  clear hb
  clear x0 x1 x2 x3 x4 x5 x6 x7 x8 x9 x10
  have hA := LiesW.new w2 A
  simp only [Wo.cs, wZero, dZero] at hA
  have z_hA := hB.size
  have lt_hS_hA := hS.2.2
  have hu : Below w2.heap.size w2 (w2.alloc (.cells #[.int .i64 A.n, .int .i64 A.d, .int .i64 A.t, .int .i64 A.D.a0, .int .i64 A.D.a1, .int .i64 A.D.a2, .int .i64 A.D.a3, .int .i64 A.D.a4, .int .i64 A.D.a5, .int .i64 A.D.a6, .int .i64 A.g] 40)) := by go_grown
  replace hB := Dims.Below.goB hB hB.size hu
  replace hS := hS.go hu
  clear hu
  have x11 := hS.1 11 (by simp)
  have x12 := hS.1 12 (by simp)
  have x13 := hS.1 13 (by simp)
  have x14 := hS.1 14 (by simp)
  have x15 := hS.1 15 (by simp)
  have x16 := hS.1 16 (by simp)
  have x17 := hS.1 17 (by simp)
  have x18 := hS.1 18 (by simp)
  have x19 := hS.1 19 (by simp)
  have x20 := hS.1 20 (by simp)
  have x21 := hS.1 21 (by simp)
  simp only [List.getElem?_toArray, List.getElem?_cons_zero, List.getElem?_cons_succ] at x11 x12 x13 x14 x15 x16 x17 x18 x19 x20 x21
  go_wp2_with fail
  generalize (w2.alloc (.cells #[.int .i64 A.n, .int .i64 A.d, .int .i64 A.t, .int .i64 A.D.a0, .int .i64 A.D.a1, .int .i64 A.D.a2, .int .i64 A.D.a3, .int .i64 A.D.a4, .int .i64 A.D.a5, .int .i64 A.D.a6, .int .i64 A.g] 40)) = V1 at *
  refine (kS1 _).mono ?_
  rintro e w3 ⟨rfl, hb⟩
  replace hB := Dims.Below.goB hB hB.size hb
  replace hS := hS.go hb
  replace hA := hA.go hb
  clear hb
  clear x11 x12 x13 x14 x15 x16 x17 x18 x19 x20 x21
  have hBb := LiesW.new w3 B
  simp only [Wo.cs, wZero, dZero] at hBb
  have z_hBb := hB.size
  have lt_hS_hBb := hS.2.2
  have lt_hA_hBb := hA.2.2
  have hu : Below w3.heap.size w3 (w3.alloc (.cells #[.int .i64 B.n, .int .i64 B.d, .int .i64 B.t, .int .i64 B.D.a0, .int .i64 B.D.a1, .int .i64 B.D.a2, .int .i64 B.D.a3, .int .i64 B.D.a4, .int .i64 B.D.a5, .int .i64 B.D.a6, .int .i64 B.g] 40)) := by go_grown
  replace hB := Dims.Below.goB hB hB.size hu
  replace hS := hS.go hu
  replace hA := hA.go hu
  clear hu
  clear hS
  obtain ⟨a0, a1, a2, a3, a4, a5, a6, a7, a8, a9, a10⟩ := hA.cells
  go_wp2_with fail
  generalize (w3.alloc (.cells #[.int .i64 B.n, .int .i64 B.d, .int .i64 B.t, .int .i64 B.D.a0, .int .i64 B.D.a1, .int .i64 B.D.a2, .int .i64 B.D.a3, .int .i64 B.D.a4, .int .i64 B.D.a5, .int .i64 B.D.a6, .int .i64 B.g] 40)) = V2 at *
  refine (kT1 _ (hE.below hB)).mono ?_
  rintro e w4 ⟨rfl, hb⟩
  replace hB := Dims.Below.goB hB hB.size hb
  replace hA := hA.go hb
  replace hBb := hBb.go hb
  clear hb
  clear a0 a1 a2 a3 a4 a5 a6 a7 a8 a9 a10
  obtain ⟨a0, a1, a2, a3, a4, a5, a6, a7, a8, a9, a10⟩ := hA.cells
  go_wp2_with fail
  refine (kF _).mono ?_
  rintro e w5 ⟨rfl, hb⟩
  replace hB := Dims.Below.goB hB hB.size hb
  replace hA := hA.go hb
  replace hBb := hBb.go hb
  clear hb
  clear a0 a1 a2 a3 a4 a5 a6 a7 a8 a9 a10
  have hX : TxAt w w5 A B w2.heap.size w3.heap.size := ⟨hB, hA, hBb⟩
  clear hB hA hBb kS0 kS1 kT1 kF
  generalize w2.heap.size = ba at *
  generalize w3.heap.size = bb at *
  go_upto_region 6 with fail
  go_region_held3 (fun v => v.cell? ⟨ba, 0, none⟩ = some (.int .i64 A.n) ∧ v.cell? ⟨ba, 1, none⟩ = some (.int .i64 A.d) ∧ v.cell? ⟨ba, 2, none⟩ = some (.int .i64 A.t) ∧ v.cell? ⟨ba, 3, none⟩ = some (.int .i64 A.D.a0) ∧ v.cell? ⟨ba, 4, none⟩ = some (.int .i64 A.D.a1) ∧ v.cell? ⟨ba, 5, none⟩ = some (.int .i64 A.D.a2) ∧ v.cell? ⟨ba, 6, none⟩ = some (.int .i64 A.D.a3) ∧ v.cell? ⟨ba, 7, none⟩ = some (.int .i64 A.D.a4) ∧ v.cell? ⟨ba, 8, none⟩ = some (.int .i64 A.D.a5) ∧ v.cell? ⟨ba, 9, none⟩ = some (.int .i64 A.D.a6) ∧ v.cell? ⟨ba, 10, none⟩ = some (.int .i64 A.g) ∧ v.cell? ⟨bb, 0, none⟩ = some (.int .i64 B.n) ∧ v.cell? ⟨bb, 1, none⟩ = some (.int .i64 B.d) ∧ v.cell? ⟨bb, 2, none⟩ = some (.int .i64 B.t) ∧ v.cell? ⟨bb, 3, none⟩ = some (.int .i64 B.D.a0) ∧ v.cell? ⟨bb, 4, none⟩ = some (.int .i64 B.D.a1) ∧ v.cell? ⟨bb, 5, none⟩ = some (.int .i64 B.D.a2) ∧ v.cell? ⟨bb, 6, none⟩ = some (.int .i64 B.D.a3) ∧ v.cell? ⟨bb, 7, none⟩ = some (.int .i64 B.D.a4) ∧ v.cell? ⟨bb, 8, none⟩ = some (.int .i64 B.D.a5) ∧ v.cell? ⟨bb, 9, none⟩ = some (.int .i64 B.D.a6) ∧ v.cell? ⟨bb, 10, none⟩ = some (.int .i64 B.g))
    (first | exact hX.drew.cells | exact hX.cells | go_keep)
    (first
      | (go_at_call 21; (first | refine (kT2 _ (hE.below hX.1)).mono ?_ | refine (kT2 _ (hE.below hX.drew.1)).mono ?_); rintro e u ⟨rfl, hb⟩; (first | (replace hX := hX.go hb) | (replace hX := hX.drew.go hb)); clear hb))
  all_goals go_wp2
  all_goals go_ret
  all_goals exact ⟨by simp, hX.1⟩

theorem texts_law (a0 a1 a2 a3 a4 a5 a6 a7 a8 a9 a10 a11 a12 a13 a14 a15 a16 a17 a18 a19 a20 a21 : Int) (w : World) (hE : EnvW w) (b_a0 : -9223372036854775808 ≤ a0 ∧ a0 ≤ 9223372036854775807) (b_a1 : -9223372036854775808 ≤ a1 ∧ a1 ≤ 9223372036854775807) (b_a2 : -9223372036854775808 ≤ a2 ∧ a2 ≤ 9223372036854775807) (b_a3 : -9223372036854775808 ≤ a3 ∧ a3 ≤ 9223372036854775807) (b_a4 : -9223372036854775808 ≤ a4 ∧ a4 ≤ 9223372036854775807) (b_a5 : -9223372036854775808 ≤ a5 ∧ a5 ≤ 9223372036854775807) (b_a6 : -9223372036854775808 ≤ a6 ∧ a6 ≤ 9223372036854775807) (b_a7 : -9223372036854775808 ≤ a7 ∧ a7 ≤ 9223372036854775807) (b_a8 : -9223372036854775808 ≤ a8 ∧ a8 ≤ 9223372036854775807) (b_a9 : -9223372036854775808 ≤ a9 ∧ a9 ≤ 9223372036854775807) (b_a10 : -9223372036854775808 ≤ a10 ∧ a10 ≤ 9223372036854775807) (b_a11 : -9223372036854775808 ≤ a11 ∧ a11 ≤ 9223372036854775807) (b_a12 : -9223372036854775808 ≤ a12 ∧ a12 ≤ 9223372036854775807) (b_a13 : -9223372036854775808 ≤ a13 ∧ a13 ≤ 9223372036854775807) (b_a14 : -9223372036854775808 ≤ a14 ∧ a14 ≤ 9223372036854775807) (b_a15 : -9223372036854775808 ≤ a15 ∧ a15 ≤ 9223372036854775807) (b_a16 : -9223372036854775808 ≤ a16 ∧ a16 ≤ 9223372036854775807) (b_a17 : -9223372036854775808 ≤ a17 ∧ a17 ≤ 9223372036854775807) (b_a18 : -9223372036854775808 ≤ a18 ∧ a18 ≤ 9223372036854775807) (b_a19 : -9223372036854775808 ≤ a19 ∧ a19 ≤ 9223372036854775807) (b_a20 : -9223372036854775808 ≤ a20 ∧ a20 ≤ 9223372036854775807) (b_a21 : -9223372036854775808 ≤ a21 ∧ a21 ≤ 9223372036854775807) :
    Calls Tryd.prog 7 #[.agg #[.int .i64 a0, .int .i64 a1, .int .i64 a2, .int .i64 a3, .int .i64 a4, .int .i64 a5, .int .i64 a6, .int .i64 a7, .int .i64 a8, .int .i64 a9, .int .i64 a10, .int .i64 a11, .int .i64 a12, .int .i64 a13, .int .i64 a14, .int .i64 a15, .int .i64 a16, .int .i64 a17, .int .i64 a18, .int .i64 a19, .int .i64 a20, .int .i64 a21]] w fun e w' => e = .returned (.bool true) ∧ Below w.heap.size w w' :=
  texts_walk ⟨a0, a1, a2, ⟨a3, a4, a5, a6, a7, a8, a9⟩, a10⟩ ⟨a11, a12, a13, ⟨a14, a15, a16, a17, a18, a19, a20⟩, a21⟩  w hE ⟨b_a0.2, b_a1.2, Dims.seven (p := fun i => -9223372036854775808 ≤ D7.get ⟨a3, a4, a5, a6, a7, a8, a9⟩ i ∧ D7.get ⟨a3, a4, a5, a6, a7, a8, a9⟩ i ≤ 9223372036854775807) b_a3 b_a4 b_a5 b_a6 b_a7 b_a8 b_a9, b_a10.1, b_a10.2⟩ ⟨b_a11.2, b_a12.2, Dims.seven (p := fun i => -9223372036854775808 ≤ D7.get ⟨a14, a15, a16, a17, a18, a19, a20⟩ i ∧ D7.get ⟨a14, a15, a16, a17, a18, a19, a20⟩ i ≤ 9223372036854775807) b_a14 b_a15 b_a16 b_a17 b_a18 b_a19 b_a20, b_a21.1, b_a21.2⟩ b_a2 b_a13 

end Go.Proofs.YtndinbefljajcaaDoor.Worth

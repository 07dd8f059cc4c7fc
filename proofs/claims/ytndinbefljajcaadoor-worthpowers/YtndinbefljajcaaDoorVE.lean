/-
  The walk of the law WorthPowers: it returns true, for every argument of its kind; old memory stays.
-/
import Derived.Test.YtndinbefljajcaaDoorVL
namespace Go.Proofs.YtndinbefljajcaaDoor.Worth
open Go.RowKit Go.Shelf
open Go.Proofs.YtndinbefljajcaaDoor.Frac (Got OfTen Room specG)
open Go.Proofs.YtndinbefljajcaaDoor.Dims (D7 dZero dOf Lies7 get_of)
set_option linter.unusedVariables false
set_option linter.unusedSimpArgs false

/-- A worth stored cell by cell. -/
theorem LiesC.ofW {v : World} {b : Nat} {a : Wo} (h : LiesW v b a) : LiesC v b a.cs := ⟨fun j hj => h.1 j hj, h.2.1, h.2.2⟩
theorem LiesW.ofC {v : World} {b : Nat} {a : Wo} (h : LiesC v b a.cs) : LiesW v b a := ⟨fun j hj => h.1 j hj, h.2.1, h.2.2⟩
def setW (v : World) (b : Nat) (r : Wo) : World := (((((((((((v.setCell ⟨b, 0, none⟩ (.int .i64 r.n)).setCell ⟨b, 1, none⟩ (.int .i64 r.d)).setCell ⟨b, 2, none⟩ (.int .i64 r.t)).setCell ⟨b, 3, none⟩ (.int .i64 r.D.a0)).setCell ⟨b, 4, none⟩ (.int .i64 r.D.a1)).setCell ⟨b, 5, none⟩ (.int .i64 r.D.a2)).setCell ⟨b, 6, none⟩ (.int .i64 r.D.a3)).setCell ⟨b, 7, none⟩ (.int .i64 r.D.a4)).setCell ⟨b, 8, none⟩ (.int .i64 r.D.a5)).setCell ⟨b, 9, none⟩ (.int .i64 r.D.a6)).setCell ⟨b, 10, none⟩ (.int .i64 r.g))
theorem LiesW.setW {v : World} {b : Nat} {a : Wo} (h : LiesW v b a) (r : Wo) : LiesW (Worth.setW v b r) b r := by
  have h0 := LiesC.ofW h
  unfold Wo.cs at h0
  replace h0 := h0.set 0 (by simp) (.int .i64 r.n)
  replace h0 := h0.set 1 (by simp) (.int .i64 r.d)
  replace h0 := h0.set 2 (by simp) (.int .i64 r.t)
  replace h0 := h0.set 3 (by simp) (.int .i64 r.D.a0)
  replace h0 := h0.set 4 (by simp) (.int .i64 r.D.a1)
  replace h0 := h0.set 5 (by simp) (.int .i64 r.D.a2)
  replace h0 := h0.set 6 (by simp) (.int .i64 r.D.a3)
  replace h0 := h0.set 7 (by simp) (.int .i64 r.D.a4)
  replace h0 := h0.set 8 (by simp) (.int .i64 r.D.a5)
  replace h0 := h0.set 9 (by simp) (.int .i64 r.D.a6)
  replace h0 := h0.set 10 (by simp) (.int .i64 r.g)
  simp only [List.setIfInBounds_toArray, List.set_cons_succ, List.set_cons_zero] at h0
  exact LiesW.ofC h0
theorem LiesW.otherW {v : World} {c b : Nat} {a : Wo} (h : LiesW v c a) (r : Wo) (hn : b ≠ c) : LiesW (Worth.setW v b r) c a := ((((((((((h.other b 0 _ hn).other b 1 _ hn).other b 2 _ hn).other b 3 _ hn).other b 4 _ hn).other b 5 _ hn).other b 6 _ hn).other b 7 _ hn).other b 8 _ hn).other b 9 _ hn).other b 10 _ hn
theorem below_setW {B : Nat} {w v : World} {b : Nat} (h : Below B w v) (r : Wo) (hb : B ≤ b) : Below B w (setW v b r) := ((((((((((h.setCell (p := ⟨b, 0, none⟩) hb _).setCell (p := ⟨b, 1, none⟩) hb _).setCell (p := ⟨b, 2, none⟩) hb _).setCell (p := ⟨b, 3, none⟩) hb _).setCell (p := ⟨b, 4, none⟩) hb _).setCell (p := ⟨b, 5, none⟩) hb _).setCell (p := ⟨b, 6, none⟩) hb _).setCell (p := ⟨b, 7, none⟩) hb _).setCell (p := ⟨b, 8, none⟩) hb _).setCell (p := ⟨b, 9, none⟩) hb _).setCell (p := ⟨b, 10, none⟩) hb _

theorem mulW_fine {a b : Wo} (fa : a.Fine) (fb : b.Fine) : (mulW a b).1.Fine := by
  have hz : wZero.Fine := ⟨by decide, by decide, Dims.zero_right.fine, by decide, by decide⟩
  unfold mulW putW
  split
  · exact hz
  · rename_i h1
    split
    · exact hz
    · split
      · exact hz
      · rename_i h2 h3
        split
        · exact hz
        · rename_i h4
          have ra : rightW a = true := by cases h : rightW a <;> simp_all
          have rb : rightW b = true := by cases h : rightW b <;> simp_all
          have hE : (Frac.mulG a.n a.d a.t b.n b.d b.t).e = 0 := by
            by_cases h : (Frac.mulG a.n a.d a.t b.n b.d b.t).e = 0
            · exact h
            · exact absurd h h3
          have hf := Frac.mulG_fine a.n a.d a.t b.n b.d b.t fa.n fa.d fb.n fb.d ((rightW_iff a).1 ra).1 ((rightW_iff b).1 rb).1 hE
          refine ⟨by show (Frac.mulG a.n a.d a.t b.n b.d b.t).n ≤ _; omega, by show (Frac.mulG a.n a.d a.t b.n b.d b.t).d ≤ _; omega, ?_, by show _ ≤ (0 : Int); omega, by show (0 : Int) ≤ _; omega⟩
          show Dims.Fine (Dims.addG a.D b.D).1
          unfold Dims.addG Dims.reckonG
          split
          · rename_i h5; exact h5.2.2.fine
          · exact Dims.zero_right.fine
theorem prod_fine {x : Wo} (hx : x.Fine) : ∀ j, (prodW x j).1.Fine
  | 0 => ⟨by show (1 : Int) ≤ _; omega, by show (1 : Int) ≤ _; omega, Dims.zero_right.fine, by show _ ≤ (0 : Int); omega, by show (0 : Int) ≤ _; omega⟩
  | j + 1 => by
    unfold prodW
    split
    · exact mulW_fine (prod_fine hx j) hx
    · exact prod_fine hx j
theorem prod_stays (x : Wo) (j : Nat) (h : (prodW x j).2 ≠ 0) : ∀ k, j ≤ k → prodW x k = prodW x j
  | 0, hk => by rw [show j = 0 from by omega]
  | k + 1, hk => by
    by_cases e : j = k + 1
    · rw [e]
    · have ih := prod_stays x j h k (by omega)
      conv => lhs; unfold prodW
      rw [ih, if_neg h]
theorem Mild.more {a : Wo} {m k : Int} (h : Mild a m) (hk : m ≤ k) (h9 : k ≤ 99) : Mild a k := ⟨h.fine, h.frac, fun i hi => by have := h.up i hi; omega, h.g, by have := h.m; omega, h9⟩

/-- How the world stands within the loop. -/
def PowsAt (w v : World) (X Y Z P : Wo) (bx bY bz bp : Nat) : Prop := Below w.heap.size w v ∧ LiesW v bx X ∧ LiesW v bY Y ∧ LiesW v bz Z ∧ LiesW v bp P
theorem PowsAt.go {w v v' : World} {X Y Z P : Wo} {bx bY bz bp : Nat} (h : PowsAt w v X Y Z P bx bY bz bp) (hb : Below v.heap.size v v') : PowsAt w v' X Y Z P bx bY bz bp :=
  ⟨Dims.Below.goB h.1 h.1.size hb, h.2.1.go hb, h.2.2.1.go hb, h.2.2.2.1.go hb, h.2.2.2.2.go hb⟩
theorem PowsAt.set {w v : World} {X Y Z P : Wo} {bx bY bz bp : Nat} (h : PowsAt w v X Y Z P bx bY bz bp) (r : Wo) (h0 : w.heap.size ≤ bp) (h1 : bp ≠ bx) (h2 : bp ≠ bY) (h3 : bp ≠ bz) : PowsAt w (setW v bp r) X Y Z r bx bY bz bp :=
  ⟨below_setW h.1 r h0, h.2.1.otherW r h1, h.2.2.1.otherW r h2, h.2.2.2.1.otherW r h3, h.2.2.2.2.setW r⟩

set_option maxRecDepth 100000 in
set_option maxHeartbeats 8000000 in
theorem pows_over (s : Wo) (m n : Int) (i k : Nat) (w : World) (hE : EnvW w) (f0 : s.Fine) (i0 : -9223372036854775808 ≤ s.t ∧ s.t ≤ 9223372036854775807) (bm : -9223372036854775808 ≤ m ∧ m ≤ 9223372036854775807) (bn : -9223372036854775808 ≤ n ∧ n ≤ 9223372036854775807) (HI : Hid ((m.tmod 4 + 4) % 4 = (i : Int))) (HK : Hid ((n.tmod 4 + 4) % 4 = (k : Int))) (hi : i ≤ 3) (hk : k ≤ 3) (he : (powW (specW s.plain) i).2 ≠ 0) :
    Calls Tryd.prog 5 #[.agg #[.int .i64 s.n, .int .i64 s.d, .int .i64 s.t, .int .i64 s.D.a0, .int .i64 s.D.a1, .int .i64 s.D.a2, .int .i64 s.D.a3, .int .i64 s.D.a4, .int .i64 s.D.a5, .int .i64 s.D.a6, .int .i64 s.g], .int .i64 m, .int .i64 n] w fun e w' => e = .returned (.bool true) ∧ Below w.heap.size w w' := by
  obtain ⟨bm0, bm1⟩ := bm
  obtain ⟨bn0, bn1⟩ := bn
  obtain ⟨m0a, m0b⟩ := Frac.tmod_in m 4 (by omega)
  obtain ⟨n0a, n0b⟩ := Frac.tmod_in n 4 (by omega)
  have kS0 := fun V => spec_any s.plain V (plain_fine f0) i0.1 i0.2
  have mA := spec_mild s f0
  generalize specW s.plain = A at *
  have fA := mA.fine
  have hik : i * k ≤ 9 := by have := Nat.mul_le_mul hi hk; omega
  have eik : (i : Int) * (k : Int) = ((i * k : Nat) : Int) := (Int.natCast_mul i k).symm
  have kP1 := fun V hT => pow_any A i V hT fA (by omega) (by omega)
  obtain ⟨X, hX0⟩ : ∃ X, X = wZero := ⟨_, rfl⟩
  rw [show powW A i = (X, 10) from by rw [hX0]; exact (pow_over mA (by omega) (by omega)).resolve_left he] at kP1
  have fX : X.Fine := by rw [hX0]; exact ⟨by decide, by decide, Dims.zero_right.fine, by decide, by decide⟩
  clear hX0 he
  obtain ⟨Y, f, hY⟩ : ∃ Y f, powW X k = (Y, f) := ⟨_, _, rfl⟩
  obtain ⟨Z, g, hZ⟩ : ∃ Y f, powW A ((i * k : Nat) : Int) = (Y, f) := ⟨_, _, rfl⟩
  have kP2 := fun V hT => pow_any X k V hT fX (by omega) (by omega)
  have kP3 := fun V hT => pow_any A ((i * k : Nat) : Int) V hT fA (by omega) (by omega)
  rw [hY] at kP2
  rw [hZ] at kP3
  have kO := fun V hT => of_any 1 V hT (by omega)
  rw [show ofW 1 = (⟨1, 1, 0, dZero, 0⟩, 0) from by have h : Frac.makeG 1 1 0 = ⟨1, 1, 0, 0⟩ := by kernel_rfl
                                                    unfold ofW; rw [h]] at kO
  have kM := fun (j : Nat) V hT => mul_any (prodW X j).1 X V hT (prod_fine fX j) fX
  have HM : Hid (∀ j, (prodW X j).2 = 0 → mulW (prodW X j).1 X = prodW X (j + 1)) := fun j h => by
    conv => rhs; unfold prodW
    rw [if_pos h]
  have HS := Lib.hid (prod_stays X)
  have P0 : prodW X 0 = (⟨1, 1, 0, dZero, 0⟩, 0) := rfl
  generalize prodW X = Pf at *
  have hS := LiesW.newS w s
  have hB : Below w.heap.size w (w.alloc (.cells s.cs 35)) := by go_grown
  have b1 : i * k < 100 := by omega
  have b2 : (i : Int) * (k : Int) ≤ 9 := by rw [eik]; omega
  have b3 : 0 ≤ (i : Int) * (k : Int) := by rw [eik]; omega
  have HEQ := Lib.hid eik
  clear mA f0 i0 fA fX eik
  simp only [Wo.v, Wo.cs, Wo.plain, dZero] at kS0 kP1 kP2 kP3 kO kM hS hB
  go_enter Tryd.func5, Tryd.ntmps5
  go_wp2_with fail
  generalize (w.alloc (.cells #[.int .i64 s.n, .int .i64 s.d, .int .i64 s.t, .int .i64 s.D.a0, .int .i64 s.D.a1, .int .i64 s.D.a2, .int .i64 s.D.a3, .int .i64 s.D.a4, .int .i64 s.D.a5, .int .i64 s.D.a6, .int .i64 s.g] 35)) = V0 at *
  refine (awake_yes _ (hE.below hB)).mono ?_
  rintro e w1 ⟨rfl, hb⟩
  replace hB := Dims.Below.goB hB hB.size hb
  replace hS := hS.go hb
  clear hb
  have x10 := hS.cells.2.2.2.2.2.2.2.2.2.2
  have xf := hS.2.1
  replace hS := hS.setG 0
  replace hB := hB.setCell (p := ⟨w.heap.size, 10, none⟩) (Nat.le_refl _) (.int .i64 0)
  go_upto_region 3 with fail
  clear x10 xf
  generalize w1.setCell ⟨w.heap.size, 10, none⟩ (.int .i64 0) = U1 at *
  simp only [Wo.setG] at hS
  obtain ⟨x0, x1, x2, x3, x4, x5, x6, x7, x8, x9, x10⟩ := hS.cells
  go_wp2_with fail
  refine (kS0 _).mono ?_
  rintro e w2 ⟨rfl, hb⟩
  replace hB := Dims.Below.goB hB hB.size hb
  replace hS := hS.go hb
  clear hb
  clear x0 x1 x2 x3 x4 x5 x6 x7 x8 x9 x10
  have hA := LiesW.new w2 A
  simp only [Wo.cs, wZero, dZero] at hA
  have z_hA := hB.size
  have lt_hS_hA := hS.2.2
  have hu : Below w2.heap.size w2 (w2.alloc (.cells #[.int .i64 A.n, .int .i64 A.d, .int .i64 A.t, .int .i64 A.D.a0, .int .i64 A.D.a1, .int .i64 A.D.a2, .int .i64 A.D.a3, .int .i64 A.D.a4, .int .i64 A.D.a5, .int .i64 A.D.a6, .int .i64 A.g] 40)) := by go_grown
  replace hB := Dims.Below.goB hB hB.size hu
  replace hS := hS.go hu
  clear hu
  clear hS
  go_upto_region 6 with fail
  generalize (w2.alloc (.cells #[.int .i64 A.n, .int .i64 A.d, .int .i64 A.t, .int .i64 A.D.a0, .int .i64 A.D.a1, .int .i64 A.D.a2, .int .i64 A.D.a3, .int .i64 A.D.a4, .int .i64 A.D.a5, .int .i64 A.D.a6, .int .i64 A.g] 40)) = V1 at *
  rw [show (m.tmod 4 + 4) % 4 = (i : Int) from HI.out, show (n.tmod 4 + 4) % 4 = (k : Int) from HK.out]
  clear HI HK m0a m0b n0a n0b bm0 bm1 bn0 bn1
  obtain ⟨a0, a1, a2, a3, a4, a5, a6, a7, a8, a9, a10⟩ := hA.cells
  go_wp2_with fail
  refine (kP1 _ (hE.below hB).1).mono ?_
  rintro e w3 ⟨rfl, hb⟩
  replace hB := Dims.Below.goB hB hB.size hb
  replace hA := hA.go hb
  clear hb
  clear a0 a1 a2 a3 a4 a5 a6 a7 a8 a9 a10
  have hX := LiesW.new w3 X
  simp only [Wo.cs, wZero, dZero] at hX
  have z_hX := hB.size
  have lt_hA_hX := hA.2.2
  have hu : Below w3.heap.size w3 (w3.alloc (.cells #[.int .i64 X.n, .int .i64 X.d, .int .i64 X.t, .int .i64 X.D.a0, .int .i64 X.D.a1, .int .i64 X.D.a2, .int .i64 X.D.a3, .int .i64 X.D.a4, .int .i64 X.D.a5, .int .i64 X.D.a6, .int .i64 X.g] 40)) := by go_grown
  replace hB := Dims.Below.goB hB hB.size hu
  replace hA := hA.go hu
  clear hu
  obtain ⟨x0, x1, x2, x3, x4, x5, x6, x7, x8, x9, x10⟩ := hX.cells
  go_wp2_with fail
  generalize (w3.alloc (.cells #[.int .i64 X.n, .int .i64 X.d, .int .i64 X.t, .int .i64 X.D.a0, .int .i64 X.D.a1, .int .i64 X.D.a2, .int .i64 X.D.a3, .int .i64 X.D.a4, .int .i64 X.D.a5, .int .i64 X.D.a6, .int .i64 X.g] 40)) = V2 at *
  refine (kP2 _ (hE.below hB).1).mono ?_
  rintro e w4 ⟨rfl, hb⟩
  replace hB := Dims.Below.goB hB hB.size hb
  replace hA := hA.go hb
  replace hX := hX.go hb
  clear hb
  clear x0 x1 x2 x3 x4 x5 x6 x7 x8 x9 x10
  have hYb := LiesW.new w4 Y
  simp only [Wo.cs, wZero, dZero] at hYb
  have z_hYb := hB.size
  have lt_hA_hYb := hA.2.2
  have lt_hX_hYb := hX.2.2
  have hu : Below w4.heap.size w4 (w4.alloc (.cells #[.int .i64 Y.n, .int .i64 Y.d, .int .i64 Y.t, .int .i64 Y.D.a0, .int .i64 Y.D.a1, .int .i64 Y.D.a2, .int .i64 Y.D.a3, .int .i64 Y.D.a4, .int .i64 Y.D.a5, .int .i64 Y.D.a6, .int .i64 Y.g] 40)) := by go_grown
  replace hB := Dims.Below.goB hB hB.size hu
  replace hA := hA.go hu
  replace hX := hX.go hu
  clear hu
  obtain ⟨a0, a1, a2, a3, a4, a5, a6, a7, a8, a9, a10⟩ := hA.cells
  go_wp2_with fail
  generalize (w4.alloc (.cells #[.int .i64 Y.n, .int .i64 Y.d, .int .i64 Y.t, .int .i64 Y.D.a0, .int .i64 Y.D.a1, .int .i64 Y.D.a2, .int .i64 Y.D.a3, .int .i64 Y.D.a4, .int .i64 Y.D.a5, .int .i64 Y.D.a6, .int .i64 Y.g] 40)) = V3 at *
  rw [show (i : Int) * (k : Int) = ((i * k : Nat) : Int) from HEQ.out]
  refine (kP3 _ (hE.below hB).1).mono ?_
  rintro e w5 ⟨rfl, hb⟩
  replace hB := Dims.Below.goB hB hB.size hb
  replace hA := hA.go hb
  replace hX := hX.go hb
  replace hYb := hYb.go hb
  clear hb
  clear a0 a1 a2 a3 a4 a5 a6 a7 a8 a9 a10
  have hZb := LiesW.new w5 Z
  simp only [Wo.cs, wZero, dZero] at hZb
  have z_hZb := hB.size
  have lt_hA_hZb := hA.2.2
  have lt_hX_hZb := hX.2.2
  have lt_hYb_hZb := hYb.2.2
  have hu : Below w5.heap.size w5 (w5.alloc (.cells #[.int .i64 Z.n, .int .i64 Z.d, .int .i64 Z.t, .int .i64 Z.D.a0, .int .i64 Z.D.a1, .int .i64 Z.D.a2, .int .i64 Z.D.a3, .int .i64 Z.D.a4, .int .i64 Z.D.a5, .int .i64 Z.D.a6, .int .i64 Z.g] 40)) := by go_grown
  replace hB := Dims.Below.goB hB hB.size hu
  replace hA := hA.go hu
  replace hX := hX.go hu
  replace hYb := hYb.go hu
  clear hu
  go_wp2_with fail
  generalize (w5.alloc (.cells #[.int .i64 Z.n, .int .i64 Z.d, .int .i64 Z.t, .int .i64 Z.D.a0, .int .i64 Z.D.a1, .int .i64 Z.D.a2, .int .i64 Z.D.a3, .int .i64 Z.D.a4, .int .i64 Z.D.a5, .int .i64 Z.D.a6, .int .i64 Z.g] 40)) = V4 at *
  refine (kO _ (hE.below hB).1).mono ?_
  rintro e w6 ⟨rfl, hb⟩
  replace hB := Dims.Below.goB hB hB.size hb
  replace hA := hA.go hb
  replace hX := hX.go hb
  replace hYb := hYb.go hb
  replace hZb := hZb.go hb
  clear hb
  have hO := LiesW.new w6 (⟨1, 1, 0, dZero, 0⟩ : Wo)
  simp only [Wo.cs, dZero] at hO
  have z0 := hB.size
  have z1 := hX.2.2
  have z2 := hYb.2.2
  have z3 := hZb.2.2
  have hu : Below w6.heap.size w6 (w6.alloc (.cells #[.int .i64 1, .int .i64 1, .int .i64 0, .int .i64 0, .int .i64 0, .int .i64 0, .int .i64 0, .int .i64 0, .int .i64 0, .int .i64 0, .int .i64 0] 40)) := by go_grown
  replace hB := Dims.Below.goB hB hB.size hu
  replace hA := hA.go hu
  replace hX := hX.go hu
  replace hYb := hYb.go hu
  replace hZb := hZb.go hu
  clear hu
  go_wp2
  generalize (w6.alloc (.cells #[.int .i64 1, .int .i64 1, .int .i64 0, .int .i64 0, .int .i64 0, .int .i64 0, .int .i64 0, .int .i64 0, .int .i64 0, .int .i64 0, .int .i64 0] 40)) = V9 at *
  have hL : PowsAt w V9 X Y Z (Pf 0).1 w3.heap.size w4.heap.size w5.heap.size w6.heap.size := ⟨hB, hX, hYb, hZb, by rw [P0]; exact hO⟩
  clear hB hX hYb hZb hO hA kS0 kP1 kP2 kP3 kO
  generalize w3.heap.size = bx at *
  generalize w4.heap.size = bY at *
  generalize w5.heap.size = bz at *
  generalize w6.heap.size = bp at *
  go_loopw [19, 20] (fun h j wr => ∃ jj : Nat, h = .int .i64 (Pf jj).2 ∧ j = .int .i64 jj ∧ jj ≤ k ∧ PowsAt w wr X Y Z (Pf jj).1 bx bY bz bp) (fun _ j _ => k - (intOf j).toNat)
  case atStart => exact ⟨0, by rw [P0], rfl, by omega, hL⟩
  case round =>
    clear hL
    obtain ⟨j, rfl, rfl, hj, hL⟩ := hrel
    by_cases hc : j < k ∧ (Pf j).2 = 0
    · obtain ⟨hc1, hc2⟩ := hc
      have c1 : (j : Int) < (k : Int) := by omega
      have c2 : ((Pf j).2 == 0) = true := by simp [hc2]
      have kMj := kM j
      rw [HM.out j hc2] at kMj
      clear hc2
      obtain ⟨hB, hX, _, _, hP⟩ := id hL
      obtain ⟨x0, x1, x2, x3, x4, x5, x6, x7, x8, x9, x10⟩ := hX.cells
      obtain ⟨p0, p1, p2, p3, p4, p5, p6, p7, p8, p9, p10⟩ := hP.cells
      go_wp2_with fail
      refine (kMj _ (hE.below hB).1).mono ?_
      rintro e u ⟨rfl, hb⟩
      replace hL := hL.go hb
      clear hb hB hX hP x0 p0 x1 p1 x2 p2 x3 p3 x4 p4 x5 p5 x6 p6 x7 p7 x8 p8 x9 p9 x10 p10
      obtain ⟨p0, p1, p2, p3, p4, p5, p6, p7, p8, p9, p10⟩ := hL.2.2.2.2.cells
      have pf := hL.2.2.2.2.2.1
      have hL2 := hL.set (Pf (j + 1)).1 z0 (by omega) (by omega) (by omega)
      unfold setW at hL2
      go_wp2
      go_roundw
      case rel => exact ⟨j + 1, rfl, rfl, by omega, hL2⟩
      case measure => simp only [intOf]; omega
    · have hE2 : Pf j = Pf k := by
        by_cases h1 : j < k
        · exact (HS.out j (fun h => hc ⟨h1, h⟩) k (by omega)).symm
        · rw [show j = k from by omega]
      have hc' : ¬ (j : Int) < (k : Int) ∨ ((j : Int) < (k : Int) ∧ ((Pf j).2 == 0) = false) := by
        by_cases h1 : j < k
        · exact .inr ⟨by omega, by simpa using fun h => hc ⟨h1, h⟩⟩
        · exact .inl (by omega)
      rw [hE2] at hL hc' ⊢
      clear hc
      obtain ⟨hB, _, hYb, hZb, hP⟩ := id hL
      obtain ⟨y0, y1, y2, y3, y4, y5, y6, y7, y8, y9, y10⟩ := hYb.cells
      obtain ⟨z_0, z_1, z_2, z_3, z_4, z_5, z_6, z_7, z_8, z_9, z_10⟩ := hZb.cells
      obtain ⟨p0, p1, p2, p3, p4, p5, p6, p7, p8, p9, p10⟩ := hP.cells
      clear y0 z_0 p0 y1 z_1 p1 y2 z_2 p2 y3 z_3 p3 y4 z_4 p4 y5 z_5 p5 y6 z_6 p6 y7 z_7 p7 y8 z_8 p8 y9 z_9 p9 y10 z_10 p10
      rcases hc' with hc' | ⟨hc1, hc2⟩
      all_goals
        go_wp2
        go_ret
        exact ⟨rfl, hB⟩

set_option maxRecDepth 100000 in
set_option maxHeartbeats 8000000 in
theorem pows_yes (s : Wo) (m n : Int) (i k : Nat) (w : World) (hE : EnvW w) (f0 : s.Fine) (i0 : -9223372036854775808 ≤ s.t ∧ s.t ≤ 9223372036854775807) (bm : -9223372036854775808 ≤ m ∧ m ≤ 9223372036854775807) (bn : -9223372036854775808 ≤ n ∧ n ≤ 9223372036854775807) (HI : Hid ((m.tmod 4 + 4) % 4 = (i : Int))) (HK : Hid ((n.tmod 4 + 4) % 4 = (k : Int))) (hi : i ≤ 3) (hk : k ≤ 3) (he : (powW (specW s.plain) i).2 = 0) :
    Calls Tryd.prog 5 #[.agg #[.int .i64 s.n, .int .i64 s.d, .int .i64 s.t, .int .i64 s.D.a0, .int .i64 s.D.a1, .int .i64 s.D.a2, .int .i64 s.D.a3, .int .i64 s.D.a4, .int .i64 s.D.a5, .int .i64 s.D.a6, .int .i64 s.g], .int .i64 m, .int .i64 n] w fun e w' => e = .returned (.bool true) ∧ Below w.heap.size w w' := by
  obtain ⟨bm0, bm1⟩ := bm
  obtain ⟨bn0, bn1⟩ := bn
  obtain ⟨m0a, m0b⟩ := Frac.tmod_in m 4 (by omega)
  obtain ⟨n0a, n0b⟩ := Frac.tmod_in n 4 (by omega)
  have kS0 := fun V => spec_any s.plain V (plain_fine f0) i0.1 i0.2
  have mA := spec_mild s f0
  generalize specW s.plain = A at *
  have fA := mA.fine
  have hik : i * k ≤ 9 := by have := Nat.mul_le_mul hi hk; omega
  have eik : (i : Int) * (k : Int) = ((i * k : Nat) : Int) := (Int.natCast_mul i k).symm
  have kP1 := fun V hT => pow_any A i V hT fA (by omega) (by omega)
  have hpp := powW_pow mA hi hk he
  have mX := pow_mild mA (by omega) (by omega) he
  replace mX := mX.more (k := 27) (by omega) (by omega)
  have hpr := prod_pow mX k hk
  obtain ⟨X, e, hX0⟩ : ∃ Y f, powW A i = (Y, f) := ⟨_, _, rfl⟩
  rw [hX0] at he hpp mX hpr kP1
  simp only at he hpp mX hpr
  subst he
  have fX := mX.fine
  obtain ⟨Y, f, hY⟩ : ∃ Y f, powW X k = (Y, f) := ⟨_, _, rfl⟩
  rw [hY] at hpp hpr
  have hZ := hpp.symm
  obtain ⟨Z, hZY⟩ : ∃ Z, Z = Y := ⟨_, rfl⟩
  rw [← hZY] at hZ
  obtain ⟨g, hgf⟩ : ∃ g, g = f := ⟨_, rfl⟩
  rw [← hgf] at hZ
  have HPk : Hid (prodW X k = (Y, f)) := hpr
  have HZY := Lib.hid hZY
  have HGF := Lib.hid hgf
  clear hpp hpr mX hX0 hZY hgf
  have q1 := eqv Y Y
  rw [eqW_same] at q1
  simp only [Wo.v] at q1
  have kP2 := fun V hT => pow_any X k V hT fX (by omega) (by omega)
  have kP3 := fun V hT => pow_any A ((i * k : Nat) : Int) V hT fA (by omega) (by omega)
  rw [hY] at kP2
  rw [hZ] at kP3
  have kO := fun V hT => of_any 1 V hT (by omega)
  rw [show ofW 1 = (⟨1, 1, 0, dZero, 0⟩, 0) from by have h : Frac.makeG 1 1 0 = ⟨1, 1, 0, 0⟩ := by kernel_rfl
                                                    unfold ofW; rw [h]] at kO
  have kM := fun (j : Nat) V hT => mul_any (prodW X j).1 X V hT (prod_fine fX j) fX
  have HM : Hid (∀ j, (prodW X j).2 = 0 → mulW (prodW X j).1 X = prodW X (j + 1)) := fun j h => by
    conv => rhs; unfold prodW
    rw [if_pos h]
  have HS := Lib.hid (prod_stays X)
  have P0 : prodW X 0 = (⟨1, 1, 0, dZero, 0⟩, 0) := rfl
  generalize prodW X = Pf at *
  have hS := LiesW.newS w s
  have hB : Below w.heap.size w (w.alloc (.cells s.cs 35)) := by go_grown
  have b1 : i * k < 100 := by omega
  have b2 : (i : Int) * (k : Int) ≤ 9 := by rw [eik]; omega
  have b3 : 0 ≤ (i : Int) * (k : Int) := by rw [eik]; omega
  have HEQ := Lib.hid eik
  clear mA f0 i0 fA fX eik
  simp only [Wo.v, Wo.cs, Wo.plain, dZero] at kS0 kP1 kP2 kP3 kO kM hS hB
  go_enter Tryd.func5, Tryd.ntmps5
  go_wp2_with fail
  generalize (w.alloc (.cells #[.int .i64 s.n, .int .i64 s.d, .int .i64 s.t, .int .i64 s.D.a0, .int .i64 s.D.a1, .int .i64 s.D.a2, .int .i64 s.D.a3, .int .i64 s.D.a4, .int .i64 s.D.a5, .int .i64 s.D.a6, .int .i64 s.g] 35)) = V0 at *
  refine (awake_yes _ (hE.below hB)).mono ?_
  rintro e w1 ⟨rfl, hb⟩
  replace hB := Dims.Below.goB hB hB.size hb
  replace hS := hS.go hb
  clear hb
  have x10 := hS.cells.2.2.2.2.2.2.2.2.2.2
  have xf := hS.2.1
  replace hS := hS.setG 0
  replace hB := hB.setCell (p := ⟨w.heap.size, 10, none⟩) (Nat.le_refl _) (.int .i64 0)
  go_upto_region 3 with fail
  clear x10 xf
  generalize w1.setCell ⟨w.heap.size, 10, none⟩ (.int .i64 0) = U1 at *
  simp only [Wo.setG] at hS
  obtain ⟨x0, x1, x2, x3, x4, x5, x6, x7, x8, x9, x10⟩ := hS.cells
  go_wp2_with fail
  refine (kS0 _).mono ?_
  rintro e w2 ⟨rfl, hb⟩
  replace hB := Dims.Below.goB hB hB.size hb
  replace hS := hS.go hb
  clear hb
  clear x0 x1 x2 x3 x4 x5 x6 x7 x8 x9 x10
  have hA := LiesW.new w2 A
  simp only [Wo.cs, wZero, dZero] at hA
  have z_hA := hB.size
  have lt_hS_hA := hS.2.2
  have hu : Below w2.heap.size w2 (w2.alloc (.cells #[.int .i64 A.n, .int .i64 A.d, .int .i64 A.t, .int .i64 A.D.a0, .int .i64 A.D.a1, .int .i64 A.D.a2, .int .i64 A.D.a3, .int .i64 A.D.a4, .int .i64 A.D.a5, .int .i64 A.D.a6, .int .i64 A.g] 40)) := by go_grown
  replace hB := Dims.Below.goB hB hB.size hu
  replace hS := hS.go hu
  clear hu
  clear hS
  go_upto_region 6 with fail
  generalize (w2.alloc (.cells #[.int .i64 A.n, .int .i64 A.d, .int .i64 A.t, .int .i64 A.D.a0, .int .i64 A.D.a1, .int .i64 A.D.a2, .int .i64 A.D.a3, .int .i64 A.D.a4, .int .i64 A.D.a5, .int .i64 A.D.a6, .int .i64 A.g] 40)) = V1 at *
  rw [show (m.tmod 4 + 4) % 4 = (i : Int) from HI.out, show (n.tmod 4 + 4) % 4 = (k : Int) from HK.out]
  clear HI HK m0a m0b n0a n0b bm0 bm1 bn0 bn1
  obtain ⟨a0, a1, a2, a3, a4, a5, a6, a7, a8, a9, a10⟩ := hA.cells
  go_wp2_with fail
  refine (kP1 _ (hE.below hB).1).mono ?_
  rintro e w3 ⟨rfl, hb⟩
  replace hB := Dims.Below.goB hB hB.size hb
  replace hA := hA.go hb
  clear hb
  clear a0 a1 a2 a3 a4 a5 a6 a7 a8 a9 a10
  have hX := LiesW.new w3 X
  simp only [Wo.cs, wZero, dZero] at hX
  have z_hX := hB.size
  have lt_hA_hX := hA.2.2
  have hu : Below w3.heap.size w3 (w3.alloc (.cells #[.int .i64 X.n, .int .i64 X.d, .int .i64 X.t, .int .i64 X.D.a0, .int .i64 X.D.a1, .int .i64 X.D.a2, .int .i64 X.D.a3, .int .i64 X.D.a4, .int .i64 X.D.a5, .int .i64 X.D.a6, .int .i64 X.g] 40)) := by go_grown
  replace hB := Dims.Below.goB hB hB.size hu
  replace hA := hA.go hu
  clear hu
  obtain ⟨x0, x1, x2, x3, x4, x5, x6, x7, x8, x9, x10⟩ := hX.cells
  go_wp2_with fail
  generalize (w3.alloc (.cells #[.int .i64 X.n, .int .i64 X.d, .int .i64 X.t, .int .i64 X.D.a0, .int .i64 X.D.a1, .int .i64 X.D.a2, .int .i64 X.D.a3, .int .i64 X.D.a4, .int .i64 X.D.a5, .int .i64 X.D.a6, .int .i64 X.g] 40)) = V2 at *
  refine (kP2 _ (hE.below hB).1).mono ?_
  rintro e w4 ⟨rfl, hb⟩
  replace hB := Dims.Below.goB hB hB.size hb
  replace hA := hA.go hb
  replace hX := hX.go hb
  clear hb
  clear x0 x1 x2 x3 x4 x5 x6 x7 x8 x9 x10
  have hYb := LiesW.new w4 Y
  simp only [Wo.cs, wZero, dZero] at hYb
  have z_hYb := hB.size
  have lt_hA_hYb := hA.2.2
  have lt_hX_hYb := hX.2.2
  have hu : Below w4.heap.size w4 (w4.alloc (.cells #[.int .i64 Y.n, .int .i64 Y.d, .int .i64 Y.t, .int .i64 Y.D.a0, .int .i64 Y.D.a1, .int .i64 Y.D.a2, .int .i64 Y.D.a3, .int .i64 Y.D.a4, .int .i64 Y.D.a5, .int .i64 Y.D.a6, .int .i64 Y.g] 40)) := by go_grown
  replace hB := Dims.Below.goB hB hB.size hu
  replace hA := hA.go hu
  replace hX := hX.go hu
  clear hu
  obtain ⟨a0, a1, a2, a3, a4, a5, a6, a7, a8, a9, a10⟩ := hA.cells
  go_wp2_with fail
  generalize (w4.alloc (.cells #[.int .i64 Y.n, .int .i64 Y.d, .int .i64 Y.t, .int .i64 Y.D.a0, .int .i64 Y.D.a1, .int .i64 Y.D.a2, .int .i64 Y.D.a3, .int .i64 Y.D.a4, .int .i64 Y.D.a5, .int .i64 Y.D.a6, .int .i64 Y.g] 40)) = V3 at *
  rw [show (i : Int) * (k : Int) = ((i * k : Nat) : Int) from HEQ.out]
  refine (kP3 _ (hE.below hB).1).mono ?_
  rintro e w5 ⟨rfl, hb⟩
  replace hB := Dims.Below.goB hB hB.size hb
  replace hA := hA.go hb
  replace hX := hX.go hb
  replace hYb := hYb.go hb
  clear hb
  clear a0 a1 a2 a3 a4 a5 a6 a7 a8 a9 a10
  have hZb := LiesW.new w5 Z
  simp only [Wo.cs, wZero, dZero] at hZb
  have z_hZb := hB.size
  have lt_hA_hZb := hA.2.2
  have lt_hX_hZb := hX.2.2
  have lt_hYb_hZb := hYb.2.2
  have hu : Below w5.heap.size w5 (w5.alloc (.cells #[.int .i64 Z.n, .int .i64 Z.d, .int .i64 Z.t, .int .i64 Z.D.a0, .int .i64 Z.D.a1, .int .i64 Z.D.a2, .int .i64 Z.D.a3, .int .i64 Z.D.a4, .int .i64 Z.D.a5, .int .i64 Z.D.a6, .int .i64 Z.g] 40)) := by go_grown
  replace hB := Dims.Below.goB hB hB.size hu
  replace hA := hA.go hu
  replace hX := hX.go hu
  replace hYb := hYb.go hu
  clear hu
  go_wp2_with fail
  generalize (w5.alloc (.cells #[.int .i64 Z.n, .int .i64 Z.d, .int .i64 Z.t, .int .i64 Z.D.a0, .int .i64 Z.D.a1, .int .i64 Z.D.a2, .int .i64 Z.D.a3, .int .i64 Z.D.a4, .int .i64 Z.D.a5, .int .i64 Z.D.a6, .int .i64 Z.g] 40)) = V4 at *
  refine (kO _ (hE.below hB).1).mono ?_
  rintro e w6 ⟨rfl, hb⟩
  replace hB := Dims.Below.goB hB hB.size hb
  replace hA := hA.go hb
  replace hX := hX.go hb
  replace hYb := hYb.go hb
  replace hZb := hZb.go hb
  clear hb
  have hO := LiesW.new w6 (⟨1, 1, 0, dZero, 0⟩ : Wo)
  simp only [Wo.cs, dZero] at hO
  have z0 := hB.size
  have z1 := hX.2.2
  have z2 := hYb.2.2
  have z3 := hZb.2.2
  have hu : Below w6.heap.size w6 (w6.alloc (.cells #[.int .i64 1, .int .i64 1, .int .i64 0, .int .i64 0, .int .i64 0, .int .i64 0, .int .i64 0, .int .i64 0, .int .i64 0, .int .i64 0, .int .i64 0] 40)) := by go_grown
  replace hB := Dims.Below.goB hB hB.size hu
  replace hA := hA.go hu
  replace hX := hX.go hu
  replace hYb := hYb.go hu
  replace hZb := hZb.go hu
  clear hu
  go_wp2
  generalize (w6.alloc (.cells #[.int .i64 1, .int .i64 1, .int .i64 0, .int .i64 0, .int .i64 0, .int .i64 0, .int .i64 0, .int .i64 0, .int .i64 0, .int .i64 0, .int .i64 0] 40)) = V9 at *
  have hL : PowsAt w V9 X Y Z (Pf 0).1 w3.heap.size w4.heap.size w5.heap.size w6.heap.size := ⟨hB, hX, hYb, hZb, by rw [P0]; exact hO⟩
  clear hB hX hYb hZb hO hA kS0 kP1 kP2 kP3 kO
  generalize w3.heap.size = bx at *
  generalize w4.heap.size = bY at *
  generalize w5.heap.size = bz at *
  generalize w6.heap.size = bp at *
  go_loopw [19, 20] (fun h j wr => ∃ jj : Nat, h = .int .i64 (Pf jj).2 ∧ j = .int .i64 jj ∧ jj ≤ k ∧ PowsAt w wr X Y Z (Pf jj).1 bx bY bz bp) (fun _ j _ => k - (intOf j).toNat)
  case atStart => exact ⟨0, by rw [P0], rfl, by omega, hL⟩
  case round =>
    clear hL
    obtain ⟨j, rfl, rfl, hj, hL⟩ := hrel
    by_cases hc : j < k ∧ (Pf j).2 = 0
    · obtain ⟨hc1, hc2⟩ := hc
      have c1 : (j : Int) < (k : Int) := by omega
      have c2 : ((Pf j).2 == 0) = true := by simp [hc2]
      have kMj := kM j
      rw [HM.out j hc2] at kMj
      clear hc2
      obtain ⟨hB, hX, _, _, hP⟩ := id hL
      obtain ⟨x0, x1, x2, x3, x4, x5, x6, x7, x8, x9, x10⟩ := hX.cells
      obtain ⟨p0, p1, p2, p3, p4, p5, p6, p7, p8, p9, p10⟩ := hP.cells
      go_wp2_with fail
      refine (kMj _ (hE.below hB).1).mono ?_
      rintro e u ⟨rfl, hb⟩
      replace hL := hL.go hb
      clear hb hB hX hP x0 p0 x1 p1 x2 p2 x3 p3 x4 p4 x5 p5 x6 p6 x7 p7 x8 p8 x9 p9 x10 p10
      obtain ⟨p0, p1, p2, p3, p4, p5, p6, p7, p8, p9, p10⟩ := hL.2.2.2.2.cells
      have pf := hL.2.2.2.2.2.1
      have hL2 := hL.set (Pf (j + 1)).1 z0 (by omega) (by omega) (by omega)
      unfold setW at hL2
      go_wp2
      go_roundw
      case rel => exact ⟨j + 1, rfl, rfl, by omega, hL2⟩
      case measure => simp only [intOf]; omega
    · have hE2 : Pf j = Pf k := by
        by_cases h1 : j < k
        · exact (HS.out j (fun h => hc ⟨h1, h⟩) k (by omega)).symm
        · rw [show j = k from by omega]
      have hc' : ¬ (j : Int) < (k : Int) ∨ ((j : Int) < (k : Int) ∧ ((Pf j).2 == 0) = false) := by
        by_cases h1 : j < k
        · exact .inr ⟨by omega, by simpa using fun h => hc ⟨h1, h⟩⟩
        · exact .inl (by omega)
      rw [hE2] at hL hc' ⊢
      clear hc
      obtain ⟨hB, _, hYb, hZb, hP⟩ := id hL
      obtain ⟨y0, y1, y2, y3, y4, y5, y6, y7, y8, y9, y10⟩ := hYb.cells
      obtain ⟨z_0, z_1, z_2, z_3, z_4, z_5, z_6, z_7, z_8, z_9, z_10⟩ := hZb.cells
      obtain ⟨p0, p1, p2, p3, p4, p5, p6, p7, p8, p9, p10⟩ := hP.cells
      rw [show Pf k = (Y, f) from HPk.out] at hc' ⊢
      rw [show Pf k = (Y, f) from HPk.out] at p0 p1 p2 p3 p4 p5 p6 p7 p8 p9 p10
      have hZY : Z = Y := HZY.out
      have hgf : g = f := HGF.out
      clear HZY HGF
      subst hZY hgf
      have e1 : (g == g) = true := by simp
      by_cases hf : g = 0
      · subst hf
        rcases hc' with hc' | ⟨hc1, hc2⟩
        · go_wp2
          go_ret
          exact ⟨rfl, hB⟩
        · exact absurd hc2 (by simp)
      · have hf1 : (g != 0) = true := by simpa using hf
        have hf2 : (g == 0) = false := by simpa using hf
        clear hf
        rcases hc' with hc' | ⟨hc1, hc2⟩
        all_goals
          go_wp2
          go_ret
          exact ⟨by simp, hB⟩

theorem pows_walk (s : Wo) (m n : Int) (w : World) (hE : EnvW w) (f0 : s.Fine) (i0 : -9223372036854775808 ≤ s.t ∧ s.t ≤ 9223372036854775807) (bm : -9223372036854775808 ≤ m ∧ m ≤ 9223372036854775807) (bn : -9223372036854775808 ≤ n ∧ n ≤ 9223372036854775807) :
    Calls Tryd.prog 5 #[.agg #[.int .i64 s.n, .int .i64 s.d, .int .i64 s.t, .int .i64 s.D.a0, .int .i64 s.D.a1, .int .i64 s.D.a2, .int .i64 s.D.a3, .int .i64 s.D.a4, .int .i64 s.D.a5, .int .i64 s.D.a6, .int .i64 s.g], .int .i64 m, .int .i64 n] w fun e w' => e = .returned (.bool true) ∧ Below w.heap.size w w' := by
  obtain ⟨i, hi⟩ : ∃ i : Nat, (m.tmod 4 + 4) % 4 = (i : Int) := ⟨((m.tmod 4 + 4) % 4).toNat, by omega⟩
  obtain ⟨k, hk⟩ : ∃ k : Nat, (n.tmod 4 + 4) % 4 = (k : Int) := ⟨((n.tmod 4 + 4) % 4).toNat, by omega⟩
  by_cases he : (powW (specW s.plain) i).2 = 0
  · exact pows_yes s m n i k w hE f0 i0 bm bn hi hk (by omega) (by omega) he
  · exact pows_over s m n i k w hE f0 i0 bm bn hi hk (by omega) (by omega) he

theorem pows_law (a0 a1 a2 a3 a4 a5 a6 a7 a8 a9 a10 m n : Int) (w : World) (hE : EnvW w) (b_a0 : -9223372036854775808 ≤ a0 ∧ a0 ≤ 9223372036854775807) (b_a1 : -9223372036854775808 ≤ a1 ∧ a1 ≤ 9223372036854775807) (b_a2 : -9223372036854775808 ≤ a2 ∧ a2 ≤ 9223372036854775807) (b_a3 : -9223372036854775808 ≤ a3 ∧ a3 ≤ 9223372036854775807) (b_a4 : -9223372036854775808 ≤ a4 ∧ a4 ≤ 9223372036854775807) (b_a5 : -9223372036854775808 ≤ a5 ∧ a5 ≤ 9223372036854775807) (b_a6 : -9223372036854775808 ≤ a6 ∧ a6 ≤ 9223372036854775807) (b_a7 : -9223372036854775808 ≤ a7 ∧ a7 ≤ 9223372036854775807) (b_a8 : -9223372036854775808 ≤ a8 ∧ a8 ≤ 9223372036854775807) (b_a9 : -9223372036854775808 ≤ a9 ∧ a9 ≤ 9223372036854775807) (b_a10 : -9223372036854775808 ≤ a10 ∧ a10 ≤ 9223372036854775807) (b_m : -9223372036854775808 ≤ m ∧ m ≤ 9223372036854775807) (b_n : -9223372036854775808 ≤ n ∧ n ≤ 9223372036854775807) :
    Calls Tryd.prog 5 #[.agg #[.int .i64 a0, .int .i64 a1, .int .i64 a2, .int .i64 a3, .int .i64 a4, .int .i64 a5, .int .i64 a6, .int .i64 a7, .int .i64 a8, .int .i64 a9, .int .i64 a10], .int .i64 m, .int .i64 n] w fun e w' => e = .returned (.bool true) ∧ Below w.heap.size w w' :=
  pows_walk ⟨a0, a1, a2, ⟨a3, a4, a5, a6, a7, a8, a9⟩, a10⟩ m n w hE ⟨b_a0.2, b_a1.2, Dims.seven (p := fun i => -9223372036854775808 ≤ D7.get ⟨a3, a4, a5, a6, a7, a8, a9⟩ i ∧ D7.get ⟨a3, a4, a5, a6, a7, a8, a9⟩ i ≤ 9223372036854775807) b_a3 b_a4 b_a5 b_a6 b_a7 b_a8 b_a9, b_a10.1, b_a10.2⟩ b_a2 b_m b_n

end Go.Proofs.YtndinbefljajcaaDoor.Worth

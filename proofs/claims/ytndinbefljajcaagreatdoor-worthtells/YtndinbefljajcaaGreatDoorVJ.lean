/-
  The walk of drachmlaw04.tells: the program's worths answer as the document's; old memory stays.
-/
import Derived.Test.YtndinbefljajcaaGreatDoorVH
import Derived.Test.YtndinbefljajcaaGreatDoorVI
import Derived.Deep.RegionHeld3
namespace Go.Proofs.YtndinbefljajcaaGreatDoor.Worth
open Go.RowKit Go.Shelf
open Go.Proofs.YtndinbefljajcaaGreatDoor.Frac (Got OfTen Room specG)
open Go.Proofs.YtndinbefljajcaaGreatDoor.Dims (D7 dZero dOf Lies7 get_of)
open Go.Proofs.YtndinbefljajcaaGreatDoor.Texts (bs bs_app bs_size)
set_option linter.unusedVariables false
set_option linter.unusedSimpArgs false

/-- The cells of the document's answer. -/
def r12 (r : Wo × Int) : Array Value := #[.int .i64 r.1.n, .int .i64 r.1.d, .int .i64 r.1.t, .int .i64 r.1.D.a0, .int .i64 r.1.D.a1, .int .i64 r.1.D.a2, .int .i64 r.1.D.a3, .int .i64 r.1.D.a4, .int .i64 r.1.D.a5, .int .i64 r.1.D.a6, .int .i64 r.1.g, .int .i64 r.2]
theorem LiesC.got {v : World} {b : Nat} {r : Wo × Int} (h : LiesC v b (r12 r)) : v.cell? ⟨b, 0, none⟩ = some (.int .i64 r.1.n) ∧ v.cell? ⟨b, 1, none⟩ = some (.int .i64 r.1.d) ∧ v.cell? ⟨b, 2, none⟩ = some (.int .i64 r.1.t) ∧ v.cell? ⟨b, 3, none⟩ = some (.int .i64 r.1.D.a0) ∧ v.cell? ⟨b, 4, none⟩ = some (.int .i64 r.1.D.a1) ∧ v.cell? ⟨b, 5, none⟩ = some (.int .i64 r.1.D.a2) ∧ v.cell? ⟨b, 6, none⟩ = some (.int .i64 r.1.D.a3) ∧ v.cell? ⟨b, 7, none⟩ = some (.int .i64 r.1.D.a4) ∧ v.cell? ⟨b, 8, none⟩ = some (.int .i64 r.1.D.a5) ∧ v.cell? ⟨b, 9, none⟩ = some (.int .i64 r.1.D.a6) ∧ v.cell? ⟨b, 10, none⟩ = some (.int .i64 r.1.g) ∧ v.cell? ⟨b, 11, none⟩ = some (.int .i64 r.2) :=
  ⟨h.1 0 (by simp [r12]), h.1 1 (by simp [r12]), h.1 2 (by simp [r12]), h.1 3 (by simp [r12]), h.1 4 (by simp [r12]), h.1 5 (by simp [r12]), h.1 6 (by simp [r12]), h.1 7 (by simp [r12]), h.1 8 (by simp [r12]), h.1 9 (by simp [r12]), h.1 10 (by simp [r12]), h.1 11 (by simp [r12])⟩

/-- How the world stands at the end of tells: all boxes. -/
def TellW (w v : World) (a : Wo) (X Y Z : Wo × Int) (bx bY bz bp bq br : Nat) : Prop := Below w.heap.size w v ∧ LiesW v w.heap.size a ∧ LiesW v bx X.1 ∧ LiesW v bY Y.1 ∧ LiesW v bz Z.1 ∧ LiesC v bp (r12 X) ∧ LiesC v bq (r12 Y) ∧ LiesC v br (r12 Z)
theorem TellW.go {w v : World} {a : Wo} {X Y Z : Wo × Int} {bx bY bz bp bq br : Nat} {v' : World} (h : TellW w v a X Y Z bx bY bz bp bq br) (hb : Below v.heap.size v v') : TellW w v' a X Y Z bx bY bz bp bq br :=
  ⟨Dims.Below.goB h.1 h.1.size hb, h.2.1.go hb, h.2.2.1.go hb, h.2.2.2.1.go hb, h.2.2.2.2.1.go hb, h.2.2.2.2.2.1.go hb, h.2.2.2.2.2.2.1.go hb, h.2.2.2.2.2.2.2.go hb⟩
theorem TellW.drew {w v : World} {a : Wo} {X Y Z : Wo × Int} {bx bY bz bp bq br : Nat} (h : TellW w v a X Y Z bx bY bz bp bq br) : TellW w v.drew a X Y Z bx bY bz bp bq br := h.go (by go_grown)
theorem TellW.cells {w v : World} {a : Wo} {X Y Z : Wo × Int} {bx bY bz bp bq br : Nat} (h : TellW w v a X Y Z bx bY bz bp bq br) : v.cell? ⟨w.heap.size, 0, none⟩ = some (.int .i64 a.n) ∧ v.cell? ⟨w.heap.size, 1, none⟩ = some (.int .i64 a.d) ∧ v.cell? ⟨w.heap.size, 2, none⟩ = some (.int .i64 a.t) ∧ v.cell? ⟨w.heap.size, 3, none⟩ = some (.int .i64 a.D.a0) ∧ v.cell? ⟨w.heap.size, 4, none⟩ = some (.int .i64 a.D.a1) ∧ v.cell? ⟨w.heap.size, 5, none⟩ = some (.int .i64 a.D.a2) ∧ v.cell? ⟨w.heap.size, 6, none⟩ = some (.int .i64 a.D.a3) ∧ v.cell? ⟨w.heap.size, 7, none⟩ = some (.int .i64 a.D.a4) ∧ v.cell? ⟨w.heap.size, 8, none⟩ = some (.int .i64 a.D.a5) ∧ v.cell? ⟨w.heap.size, 9, none⟩ = some (.int .i64 a.D.a6) ∧ v.cell? ⟨w.heap.size, 10, none⟩ = some (.int .i64 a.g) ∧ v.cell? ⟨bx, 0, none⟩ = some (.int .i64 X.1.n) ∧ v.cell? ⟨bx, 1, none⟩ = some (.int .i64 X.1.d) ∧ v.cell? ⟨bx, 2, none⟩ = some (.int .i64 X.1.t) ∧ v.cell? ⟨bx, 3, none⟩ = some (.int .i64 X.1.D.a0) ∧ v.cell? ⟨bx, 4, none⟩ = some (.int .i64 X.1.D.a1) ∧ v.cell? ⟨bx, 5, none⟩ = some (.int .i64 X.1.D.a2) ∧ v.cell? ⟨bx, 6, none⟩ = some (.int .i64 X.1.D.a3) ∧ v.cell? ⟨bx, 7, none⟩ = some (.int .i64 X.1.D.a4) ∧ v.cell? ⟨bx, 8, none⟩ = some (.int .i64 X.1.D.a5) ∧ v.cell? ⟨bx, 9, none⟩ = some (.int .i64 X.1.D.a6) ∧ v.cell? ⟨bx, 10, none⟩ = some (.int .i64 X.1.g) ∧ v.cell? ⟨bY, 0, none⟩ = some (.int .i64 Y.1.n) ∧ v.cell? ⟨bY, 1, none⟩ = some (.int .i64 Y.1.d) ∧ v.cell? ⟨bY, 2, none⟩ = some (.int .i64 Y.1.t) ∧ v.cell? ⟨bY, 3, none⟩ = some (.int .i64 Y.1.D.a0) ∧ v.cell? ⟨bY, 4, none⟩ = some (.int .i64 Y.1.D.a1) ∧ v.cell? ⟨bY, 5, none⟩ = some (.int .i64 Y.1.D.a2) ∧ v.cell? ⟨bY, 6, none⟩ = some (.int .i64 Y.1.D.a3) ∧ v.cell? ⟨bY, 7, none⟩ = some (.int .i64 Y.1.D.a4) ∧ v.cell? ⟨bY, 8, none⟩ = some (.int .i64 Y.1.D.a5) ∧ v.cell? ⟨bY, 9, none⟩ = some (.int .i64 Y.1.D.a6) ∧ v.cell? ⟨bY, 10, none⟩ = some (.int .i64 Y.1.g) ∧ v.cell? ⟨bz, 0, none⟩ = some (.int .i64 Z.1.n) ∧ v.cell? ⟨bz, 1, none⟩ = some (.int .i64 Z.1.d) ∧ v.cell? ⟨bz, 2, none⟩ = some (.int .i64 Z.1.t) ∧ v.cell? ⟨bz, 3, none⟩ = some (.int .i64 Z.1.D.a0) ∧ v.cell? ⟨bz, 4, none⟩ = some (.int .i64 Z.1.D.a1) ∧ v.cell? ⟨bz, 5, none⟩ = some (.int .i64 Z.1.D.a2) ∧ v.cell? ⟨bz, 6, none⟩ = some (.int .i64 Z.1.D.a3) ∧ v.cell? ⟨bz, 7, none⟩ = some (.int .i64 Z.1.D.a4) ∧ v.cell? ⟨bz, 8, none⟩ = some (.int .i64 Z.1.D.a5) ∧ v.cell? ⟨bz, 9, none⟩ = some (.int .i64 Z.1.D.a6) ∧ v.cell? ⟨bz, 10, none⟩ = some (.int .i64 Z.1.g) ∧ v.cell? ⟨bp, 0, none⟩ = some (.int .i64 X.1.n) ∧ v.cell? ⟨bp, 1, none⟩ = some (.int .i64 X.1.d) ∧ v.cell? ⟨bp, 2, none⟩ = some (.int .i64 X.1.t) ∧ v.cell? ⟨bp, 3, none⟩ = some (.int .i64 X.1.D.a0) ∧ v.cell? ⟨bp, 4, none⟩ = some (.int .i64 X.1.D.a1) ∧ v.cell? ⟨bp, 5, none⟩ = some (.int .i64 X.1.D.a2) ∧ v.cell? ⟨bp, 6, none⟩ = some (.int .i64 X.1.D.a3) ∧ v.cell? ⟨bp, 7, none⟩ = some (.int .i64 X.1.D.a4) ∧ v.cell? ⟨bp, 8, none⟩ = some (.int .i64 X.1.D.a5) ∧ v.cell? ⟨bp, 9, none⟩ = some (.int .i64 X.1.D.a6) ∧ v.cell? ⟨bp, 10, none⟩ = some (.int .i64 X.1.g) ∧ v.cell? ⟨bp, 11, none⟩ = some (.int .i64 X.2) ∧ v.cell? ⟨bq, 0, none⟩ = some (.int .i64 Y.1.n) ∧ v.cell? ⟨bq, 1, none⟩ = some (.int .i64 Y.1.d) ∧ v.cell? ⟨bq, 2, none⟩ = some (.int .i64 Y.1.t) ∧ v.cell? ⟨bq, 3, none⟩ = some (.int .i64 Y.1.D.a0) ∧ v.cell? ⟨bq, 4, none⟩ = some (.int .i64 Y.1.D.a1) ∧ v.cell? ⟨bq, 5, none⟩ = some (.int .i64 Y.1.D.a2) ∧ v.cell? ⟨bq, 6, none⟩ = some (.int .i64 Y.1.D.a3) ∧ v.cell? ⟨bq, 7, none⟩ = some (.int .i64 Y.1.D.a4) ∧ v.cell? ⟨bq, 8, none⟩ = some (.int .i64 Y.1.D.a5) ∧ v.cell? ⟨bq, 9, none⟩ = some (.int .i64 Y.1.D.a6) ∧ v.cell? ⟨bq, 10, none⟩ = some (.int .i64 Y.1.g) ∧ v.cell? ⟨bq, 11, none⟩ = some (.int .i64 Y.2) ∧ v.cell? ⟨br, 0, none⟩ = some (.int .i64 Z.1.n) ∧ v.cell? ⟨br, 1, none⟩ = some (.int .i64 Z.1.d) ∧ v.cell? ⟨br, 2, none⟩ = some (.int .i64 Z.1.t) ∧ v.cell? ⟨br, 3, none⟩ = some (.int .i64 Z.1.D.a0) ∧ v.cell? ⟨br, 4, none⟩ = some (.int .i64 Z.1.D.a1) ∧ v.cell? ⟨br, 5, none⟩ = some (.int .i64 Z.1.D.a2) ∧ v.cell? ⟨br, 6, none⟩ = some (.int .i64 Z.1.D.a3) ∧ v.cell? ⟨br, 7, none⟩ = some (.int .i64 Z.1.D.a4) ∧ v.cell? ⟨br, 8, none⟩ = some (.int .i64 Z.1.D.a5) ∧ v.cell? ⟨br, 9, none⟩ = some (.int .i64 Z.1.D.a6) ∧ v.cell? ⟨br, 10, none⟩ = some (.int .i64 Z.1.g) ∧ v.cell? ⟨br, 11, none⟩ = some (.int .i64 Z.2) := by
  obtain ⟨_, h1, h2, h3, h4, h5, h6, h7⟩ := h
  obtain ⟨a0, a1, a2, a3, a4, a5, a6, a7, a8, a9, a10⟩ := h1.cells
  obtain ⟨b0, b1, b2, b3, b4, b5, b6, b7, b8, b9, b10⟩ := h2.cells
  obtain ⟨c0, c1, c2, c3, c4, c5, c6, c7, c8, c9, c10⟩ := h3.cells
  obtain ⟨d0, d1, d2, d3, d4, d5, d6, d7, d8, d9, d10⟩ := h4.cells
  obtain ⟨e0, e1, e2, e3, e4, e5, e6, e7, e8, e9, e10, e11⟩ := LiesC.got h5
  obtain ⟨f0, f1, f2, f3, f4, f5, f6, f7, f8, f9, f10, f11⟩ := LiesC.got h6
  obtain ⟨g0, g1, g2, g3, g4, g5, g6, g7, g8, g9, g10, g11⟩ := LiesC.got h7
  exact ⟨a0, a1, a2, a3, a4, a5, a6, a7, a8, a9, a10, b0, b1, b2, b3, b4, b5, b6, b7, b8, b9, b10, c0, c1, c2, c3, c4, c5, c6, c7, c8, c9, c10, d0, d1, d2, d3, d4, d5, d6, d7, d8, d9, d10, e0, e1, e2, e3, e4, e5, e6, e7, e8, e9, e10, e11, f0, f1, f2, f3, f4, f5, f6, f7, f8, f9, f10, f11, g0, g1, g2, g3, g4, g5, g6, g7, g8, g9, g10, g11⟩

set_option maxRecDepth 100000 in
set_option maxHeartbeats 16000000 in
theorem tells_any (a b : Wo) (n : Int) (w : World) (hE : EnvW w) (fa : a.Fine) (fb : b.Fine) (n0 : -9223372036854775808 ≤ n) (n1 : n ≤ 9223372036854775807) :
    Calls Tryz.prog 7 #[a.v, b.v, .int .i64 n] w fun e w' => e = .returned (.bool true) ∧ Below w.heap.size w w' := by
  have kA := fun V hV => mul_any a b V hV fa fb
  have kS := fun V hV => div_any a b V hV fa fb
  have kT := fun V hV => pow_any a n V hV fa n0 n1
  have rA := fun V => rmul_any a b V fa fb
  have rS := fun V => rdiv_any a b V fa fb
  have rT := fun V => rpow_any a n V fa n0 n1
  have kR := fun V hV => right_any a V hV fa
  have rR := fun V => rright_any a V fa
  have kX := fun V hV => text_any a V hV fa
  have rX := fun V => rtext_any a V fa
  generalize mulW a b = X at *
  generalize divW a b = Y at *
  generalize powW a n = Z at *
  generalize rightW a = rb at *
  generalize textW a = tx at *
  have lA := (LiesW.new w a).alloc (.cells b.cs 30)
  have lB := LiesW.new (w.alloc (.cells a.cs 30)) b
  simp only [World.size_alloc] at lB
  have hB : Below w.heap.size w ((w.alloc (.cells a.cs 30)).alloc (.cells b.cs 30)) := by go_grown
  simp only [Wo.v, Wo.cs, gotW] at kA kS kT rA rS rT kR rR kX rX lA lB hB ⊢
  go_enter Tryz.func7, Tryz.ntmps7
  obtain ⟨c0, c1, c2, c3, c4, c5, c6, c7, c8, c9, c10⟩ := lA.cells
  obtain ⟨d0, d1, d2, d3, d4, d5, d6, d7, d8, d9, d10⟩ := lB.cells
  go_wp2_with fail
  generalize ((w.alloc (.cells #[.int .i64 a.n, .int .i64 a.d, .int .i64 a.t, .int .i64 a.D.a0, .int .i64 a.D.a1, .int .i64 a.D.a2, .int .i64 a.D.a3, .int .i64 a.D.a4, .int .i64 a.D.a5, .int .i64 a.D.a6, .int .i64 a.g] 30)).alloc (.cells #[.int .i64 b.n, .int .i64 b.d, .int .i64 b.t, .int .i64 b.D.a0, .int .i64 b.D.a1, .int .i64 b.D.a2, .int .i64 b.D.a3, .int .i64 b.D.a4, .int .i64 b.D.a5, .int .i64 b.D.a6, .int .i64 b.g] 30)) = V0 at *
  refine (kA _ (hE.below hB).1).mono ?_
  rintro e w1 ⟨rfl, hb⟩
  replace hB := Dims.Below.goB hB hB.size hb
  replace lA := lA.go hb
  replace lB := lB.go hb
  clear hb c0 c1 c2 c3 c4 c5 c6 c7 c8 c9 c10 d0 d1 d2 d3 d4 d5 d6 d7 d8 d9 d10
  have lX := LiesW.new w1 X.1
  simp only [Wo.cs] at lX
  have hu : Below w1.heap.size w1 (w1.alloc (.cells #[.int .i64 X.1.n, .int .i64 X.1.d, .int .i64 X.1.t, .int .i64 X.1.D.a0, .int .i64 X.1.D.a1, .int .i64 X.1.D.a2, .int .i64 X.1.D.a3, .int .i64 X.1.D.a4, .int .i64 X.1.D.a5, .int .i64 X.1.D.a6, .int .i64 X.1.g] 30)) := by go_grown
  replace hB := Dims.Below.goB hB hB.size hu
  replace lA := lA.go hu
  replace lB := lB.go hu
  clear hu
  obtain ⟨c0, c1, c2, c3, c4, c5, c6, c7, c8, c9, c10⟩ := lA.cells
  obtain ⟨d0, d1, d2, d3, d4, d5, d6, d7, d8, d9, d10⟩ := lB.cells
  go_wp2_with fail
  generalize (w1.alloc (.cells #[.int .i64 X.1.n, .int .i64 X.1.d, .int .i64 X.1.t, .int .i64 X.1.D.a0, .int .i64 X.1.D.a1, .int .i64 X.1.D.a2, .int .i64 X.1.D.a3, .int .i64 X.1.D.a4, .int .i64 X.1.D.a5, .int .i64 X.1.D.a6, .int .i64 X.1.g] 30)) = V1 at *
  refine (kS _ (hE.below hB).1).mono ?_
  rintro e w2 ⟨rfl, hb⟩
  replace hB := Dims.Below.goB hB hB.size hb
  replace lA := lA.go hb
  replace lB := lB.go hb
  replace lX := lX.go hb
  clear hb c0 c1 c2 c3 c4 c5 c6 c7 c8 c9 c10 d0 d1 d2 d3 d4 d5 d6 d7 d8 d9 d10
  have lY := LiesW.new w2 Y.1
  simp only [Wo.cs] at lY
  have hu : Below w2.heap.size w2 (w2.alloc (.cells #[.int .i64 Y.1.n, .int .i64 Y.1.d, .int .i64 Y.1.t, .int .i64 Y.1.D.a0, .int .i64 Y.1.D.a1, .int .i64 Y.1.D.a2, .int .i64 Y.1.D.a3, .int .i64 Y.1.D.a4, .int .i64 Y.1.D.a5, .int .i64 Y.1.D.a6, .int .i64 Y.1.g] 30)) := by go_grown
  replace hB := Dims.Below.goB hB hB.size hu
  replace lA := lA.go hu
  replace lB := lB.go hu
  replace lX := lX.go hu
  clear hu
  obtain ⟨c0, c1, c2, c3, c4, c5, c6, c7, c8, c9, c10⟩ := lA.cells
  obtain ⟨d0, d1, d2, d3, d4, d5, d6, d7, d8, d9, d10⟩ := lB.cells
  go_wp2_with fail
  generalize (w2.alloc (.cells #[.int .i64 Y.1.n, .int .i64 Y.1.d, .int .i64 Y.1.t, .int .i64 Y.1.D.a0, .int .i64 Y.1.D.a1, .int .i64 Y.1.D.a2, .int .i64 Y.1.D.a3, .int .i64 Y.1.D.a4, .int .i64 Y.1.D.a5, .int .i64 Y.1.D.a6, .int .i64 Y.1.g] 30)) = V2 at *
  refine (kT _ (hE.below hB).1).mono ?_
  rintro e w3 ⟨rfl, hb⟩
  replace hB := Dims.Below.goB hB hB.size hb
  replace lA := lA.go hb
  replace lB := lB.go hb
  replace lX := lX.go hb
  replace lY := lY.go hb
  clear hb c0 c1 c2 c3 c4 c5 c6 c7 c8 c9 c10 d0 d1 d2 d3 d4 d5 d6 d7 d8 d9 d10
  have lZ := LiesW.new w3 Z.1
  simp only [Wo.cs] at lZ
  have hu : Below w3.heap.size w3 (w3.alloc (.cells #[.int .i64 Z.1.n, .int .i64 Z.1.d, .int .i64 Z.1.t, .int .i64 Z.1.D.a0, .int .i64 Z.1.D.a1, .int .i64 Z.1.D.a2, .int .i64 Z.1.D.a3, .int .i64 Z.1.D.a4, .int .i64 Z.1.D.a5, .int .i64 Z.1.D.a6, .int .i64 Z.1.g] 30)) := by go_grown
  replace hB := Dims.Below.goB hB hB.size hu
  replace lA := lA.go hu
  replace lB := lB.go hu
  replace lX := lX.go hu
  replace lY := lY.go hu
  clear hu
  obtain ⟨c0, c1, c2, c3, c4, c5, c6, c7, c8, c9, c10⟩ := lA.cells
  obtain ⟨d0, d1, d2, d3, d4, d5, d6, d7, d8, d9, d10⟩ := lB.cells
  go_wp2_with fail
  generalize (w3.alloc (.cells #[.int .i64 Z.1.n, .int .i64 Z.1.d, .int .i64 Z.1.t, .int .i64 Z.1.D.a0, .int .i64 Z.1.D.a1, .int .i64 Z.1.D.a2, .int .i64 Z.1.D.a3, .int .i64 Z.1.D.a4, .int .i64 Z.1.D.a5, .int .i64 Z.1.D.a6, .int .i64 Z.1.g] 30)) = V3 at *
  refine (rA _).mono ?_
  rintro e w4 ⟨rfl, hb⟩
  replace hB := Dims.Below.goB hB hB.size hb
  replace lA := lA.go hb
  replace lB := lB.go hb
  replace lX := lX.go hb
  replace lY := lY.go hb
  replace lZ := lZ.go hb
  clear hb c0 c1 c2 c3 c4 c5 c6 c7 c8 c9 c10 d0 d1 d2 d3 d4 d5 d6 d7 d8 d9 d10
  have lP := LiesC.new w4 #[.int .i64 X.1.n, .int .i64 X.1.d, .int .i64 X.1.t, .int .i64 X.1.D.a0, .int .i64 X.1.D.a1, .int .i64 X.1.D.a2, .int .i64 X.1.D.a3, .int .i64 X.1.D.a4, .int .i64 X.1.D.a5, .int .i64 X.1.D.a6, .int .i64 X.1.g, .int .i64 X.2] 38
  have hu : Below w4.heap.size w4 (w4.alloc (.cells #[.int .i64 X.1.n, .int .i64 X.1.d, .int .i64 X.1.t, .int .i64 X.1.D.a0, .int .i64 X.1.D.a1, .int .i64 X.1.D.a2, .int .i64 X.1.D.a3, .int .i64 X.1.D.a4, .int .i64 X.1.D.a5, .int .i64 X.1.D.a6, .int .i64 X.1.g, .int .i64 X.2] 38)) := by go_grown
  replace hB := Dims.Below.goB hB hB.size hu
  replace lA := lA.go hu
  replace lB := lB.go hu
  replace lX := lX.go hu
  replace lY := lY.go hu
  replace lZ := lZ.go hu
  clear hu
  obtain ⟨c0, c1, c2, c3, c4, c5, c6, c7, c8, c9, c10⟩ := lA.cells
  obtain ⟨d0, d1, d2, d3, d4, d5, d6, d7, d8, d9, d10⟩ := lB.cells
  go_wp2_with fail
  generalize (w4.alloc (.cells #[.int .i64 X.1.n, .int .i64 X.1.d, .int .i64 X.1.t, .int .i64 X.1.D.a0, .int .i64 X.1.D.a1, .int .i64 X.1.D.a2, .int .i64 X.1.D.a3, .int .i64 X.1.D.a4, .int .i64 X.1.D.a5, .int .i64 X.1.D.a6, .int .i64 X.1.g, .int .i64 X.2] 38)) = V4 at *
  refine (rS _).mono ?_
  rintro e w5 ⟨rfl, hb⟩
  replace hB := Dims.Below.goB hB hB.size hb
  replace lA := lA.go hb
  replace lB := lB.go hb
  replace lX := lX.go hb
  replace lY := lY.go hb
  replace lZ := lZ.go hb
  replace lP := lP.go hb
  clear hb c0 c1 c2 c3 c4 c5 c6 c7 c8 c9 c10 d0 d1 d2 d3 d4 d5 d6 d7 d8 d9 d10
  have lQ := LiesC.new w5 #[.int .i64 Y.1.n, .int .i64 Y.1.d, .int .i64 Y.1.t, .int .i64 Y.1.D.a0, .int .i64 Y.1.D.a1, .int .i64 Y.1.D.a2, .int .i64 Y.1.D.a3, .int .i64 Y.1.D.a4, .int .i64 Y.1.D.a5, .int .i64 Y.1.D.a6, .int .i64 Y.1.g, .int .i64 Y.2] 38
  have hu : Below w5.heap.size w5 (w5.alloc (.cells #[.int .i64 Y.1.n, .int .i64 Y.1.d, .int .i64 Y.1.t, .int .i64 Y.1.D.a0, .int .i64 Y.1.D.a1, .int .i64 Y.1.D.a2, .int .i64 Y.1.D.a3, .int .i64 Y.1.D.a4, .int .i64 Y.1.D.a5, .int .i64 Y.1.D.a6, .int .i64 Y.1.g, .int .i64 Y.2] 38)) := by go_grown
  replace hB := Dims.Below.goB hB hB.size hu
  replace lA := lA.go hu
  replace lB := lB.go hu
  replace lX := lX.go hu
  replace lY := lY.go hu
  replace lZ := lZ.go hu
  replace lP := lP.go hu
  clear hu
  obtain ⟨c0, c1, c2, c3, c4, c5, c6, c7, c8, c9, c10⟩ := lA.cells
  obtain ⟨d0, d1, d2, d3, d4, d5, d6, d7, d8, d9, d10⟩ := lB.cells
  go_wp2_with fail
  generalize (w5.alloc (.cells #[.int .i64 Y.1.n, .int .i64 Y.1.d, .int .i64 Y.1.t, .int .i64 Y.1.D.a0, .int .i64 Y.1.D.a1, .int .i64 Y.1.D.a2, .int .i64 Y.1.D.a3, .int .i64 Y.1.D.a4, .int .i64 Y.1.D.a5, .int .i64 Y.1.D.a6, .int .i64 Y.1.g, .int .i64 Y.2] 38)) = V5 at *
  refine (rT _).mono ?_
  rintro e w6 ⟨rfl, hb⟩
  replace hB := Dims.Below.goB hB hB.size hb
  replace lA := lA.go hb
  replace lB := lB.go hb
  replace lX := lX.go hb
  replace lY := lY.go hb
  replace lZ := lZ.go hb
  replace lP := lP.go hb
  replace lQ := lQ.go hb
  clear hb c0 c1 c2 c3 c4 c5 c6 c7 c8 c9 c10 d0 d1 d2 d3 d4 d5 d6 d7 d8 d9 d10
  have lR := LiesC.new w6 #[.int .i64 Z.1.n, .int .i64 Z.1.d, .int .i64 Z.1.t, .int .i64 Z.1.D.a0, .int .i64 Z.1.D.a1, .int .i64 Z.1.D.a2, .int .i64 Z.1.D.a3, .int .i64 Z.1.D.a4, .int .i64 Z.1.D.a5, .int .i64 Z.1.D.a6, .int .i64 Z.1.g, .int .i64 Z.2] 38
  have hu : Below w6.heap.size w6 (w6.alloc (.cells #[.int .i64 Z.1.n, .int .i64 Z.1.d, .int .i64 Z.1.t, .int .i64 Z.1.D.a0, .int .i64 Z.1.D.a1, .int .i64 Z.1.D.a2, .int .i64 Z.1.D.a3, .int .i64 Z.1.D.a4, .int .i64 Z.1.D.a5, .int .i64 Z.1.D.a6, .int .i64 Z.1.g, .int .i64 Z.2] 38)) := by go_grown
  replace hB := Dims.Below.goB hB hB.size hu
  replace lA := lA.go hu
  replace lB := lB.go hu
  replace lX := lX.go hu
  replace lY := lY.go hu
  replace lZ := lZ.go hu
  replace lP := lP.go hu
  replace lQ := lQ.go hu
  clear hu
  go_upto_region 7 with fail
  generalize (w6.alloc (.cells #[.int .i64 Z.1.n, .int .i64 Z.1.d, .int .i64 Z.1.t, .int .i64 Z.1.D.a0, .int .i64 Z.1.D.a1, .int .i64 Z.1.D.a2, .int .i64 Z.1.D.a3, .int .i64 Z.1.D.a4, .int .i64 Z.1.D.a5, .int .i64 Z.1.D.a6, .int .i64 Z.1.g, .int .i64 Z.2] 38)) = V6 at *
  have hA : TellW w V6 a X Y Z w1.heap.size w2.heap.size w3.heap.size w4.heap.size w5.heap.size w6.heap.size := ⟨hB, lA, lX, lY, lZ, lP, lQ, lR⟩
  have q1 := eqv X.1 X.1
  have q2 := eqv Y.1 Y.1
  have q3 := eqv Z.1 Z.1
  rw [eqW_same] at q1 q2 q3
  simp only [Wo.v] at q1 q2 q3
  have e1 : (X.2 == X.2) = true := by simp
  have e2 : (Y.2 == Y.2) = true := by simp
  have e3 : (Z.2 == Z.2) = true := by simp
  have e4 : (rb == rb) = true := by simp
  have e5 : ((bs tx).toList == (bs tx).toList) = true := by simp
  clear lA lB lX lY lZ lP lQ lR hB kA kS kT rA rS rT
  generalize w1.heap.size = bx at *
  generalize w2.heap.size = bY at *
  generalize w3.heap.size = bz at *
  generalize w4.heap.size = bp at *
  generalize w5.heap.size = bq at *
  generalize w6.heap.size = br at *
  go_region_held3 (fun v => v.cell? ⟨w.heap.size, 0, none⟩ = some (.int .i64 a.n) ∧ v.cell? ⟨w.heap.size, 1, none⟩ = some (.int .i64 a.d) ∧ v.cell? ⟨w.heap.size, 2, none⟩ = some (.int .i64 a.t) ∧ v.cell? ⟨w.heap.size, 3, none⟩ = some (.int .i64 a.D.a0) ∧ v.cell? ⟨w.heap.size, 4, none⟩ = some (.int .i64 a.D.a1) ∧ v.cell? ⟨w.heap.size, 5, none⟩ = some (.int .i64 a.D.a2) ∧ v.cell? ⟨w.heap.size, 6, none⟩ = some (.int .i64 a.D.a3) ∧ v.cell? ⟨w.heap.size, 7, none⟩ = some (.int .i64 a.D.a4) ∧ v.cell? ⟨w.heap.size, 8, none⟩ = some (.int .i64 a.D.a5) ∧ v.cell? ⟨w.heap.size, 9, none⟩ = some (.int .i64 a.D.a6) ∧ v.cell? ⟨w.heap.size, 10, none⟩ = some (.int .i64 a.g) ∧ v.cell? ⟨bx, 0, none⟩ = some (.int .i64 X.1.n) ∧ v.cell? ⟨bx, 1, none⟩ = some (.int .i64 X.1.d) ∧ v.cell? ⟨bx, 2, none⟩ = some (.int .i64 X.1.t) ∧ v.cell? ⟨bx, 3, none⟩ = some (.int .i64 X.1.D.a0) ∧ v.cell? ⟨bx, 4, none⟩ = some (.int .i64 X.1.D.a1) ∧ v.cell? ⟨bx, 5, none⟩ = some (.int .i64 X.1.D.a2) ∧ v.cell? ⟨bx, 6, none⟩ = some (.int .i64 X.1.D.a3) ∧ v.cell? ⟨bx, 7, none⟩ = some (.int .i64 X.1.D.a4) ∧ v.cell? ⟨bx, 8, none⟩ = some (.int .i64 X.1.D.a5) ∧ v.cell? ⟨bx, 9, none⟩ = some (.int .i64 X.1.D.a6) ∧ v.cell? ⟨bx, 10, none⟩ = some (.int .i64 X.1.g) ∧ v.cell? ⟨bY, 0, none⟩ = some (.int .i64 Y.1.n) ∧ v.cell? ⟨bY, 1, none⟩ = some (.int .i64 Y.1.d) ∧ v.cell? ⟨bY, 2, none⟩ = some (.int .i64 Y.1.t) ∧ v.cell? ⟨bY, 3, none⟩ = some (.int .i64 Y.1.D.a0) ∧ v.cell? ⟨bY, 4, none⟩ = some (.int .i64 Y.1.D.a1) ∧ v.cell? ⟨bY, 5, none⟩ = some (.int .i64 Y.1.D.a2) ∧ v.cell? ⟨bY, 6, none⟩ = some (.int .i64 Y.1.D.a3) ∧ v.cell? ⟨bY, 7, none⟩ = some (.int .i64 Y.1.D.a4) ∧ v.cell? ⟨bY, 8, none⟩ = some (.int .i64 Y.1.D.a5) ∧ v.cell? ⟨bY, 9, none⟩ = some (.int .i64 Y.1.D.a6) ∧ v.cell? ⟨bY, 10, none⟩ = some (.int .i64 Y.1.g) ∧ v.cell? ⟨bz, 0, none⟩ = some (.int .i64 Z.1.n) ∧ v.cell? ⟨bz, 1, none⟩ = some (.int .i64 Z.1.d) ∧ v.cell? ⟨bz, 2, none⟩ = some (.int .i64 Z.1.t) ∧ v.cell? ⟨bz, 3, none⟩ = some (.int .i64 Z.1.D.a0) ∧ v.cell? ⟨bz, 4, none⟩ = some (.int .i64 Z.1.D.a1) ∧ v.cell? ⟨bz, 5, none⟩ = some (.int .i64 Z.1.D.a2) ∧ v.cell? ⟨bz, 6, none⟩ = some (.int .i64 Z.1.D.a3) ∧ v.cell? ⟨bz, 7, none⟩ = some (.int .i64 Z.1.D.a4) ∧ v.cell? ⟨bz, 8, none⟩ = some (.int .i64 Z.1.D.a5) ∧ v.cell? ⟨bz, 9, none⟩ = some (.int .i64 Z.1.D.a6) ∧ v.cell? ⟨bz, 10, none⟩ = some (.int .i64 Z.1.g) ∧ v.cell? ⟨bp, 0, none⟩ = some (.int .i64 X.1.n) ∧ v.cell? ⟨bp, 1, none⟩ = some (.int .i64 X.1.d) ∧ v.cell? ⟨bp, 2, none⟩ = some (.int .i64 X.1.t) ∧ v.cell? ⟨bp, 3, none⟩ = some (.int .i64 X.1.D.a0) ∧ v.cell? ⟨bp, 4, none⟩ = some (.int .i64 X.1.D.a1) ∧ v.cell? ⟨bp, 5, none⟩ = some (.int .i64 X.1.D.a2) ∧ v.cell? ⟨bp, 6, none⟩ = some (.int .i64 X.1.D.a3) ∧ v.cell? ⟨bp, 7, none⟩ = some (.int .i64 X.1.D.a4) ∧ v.cell? ⟨bp, 8, none⟩ = some (.int .i64 X.1.D.a5) ∧ v.cell? ⟨bp, 9, none⟩ = some (.int .i64 X.1.D.a6) ∧ v.cell? ⟨bp, 10, none⟩ = some (.int .i64 X.1.g) ∧ v.cell? ⟨bp, 11, none⟩ = some (.int .i64 X.2) ∧ v.cell? ⟨bq, 0, none⟩ = some (.int .i64 Y.1.n) ∧ v.cell? ⟨bq, 1, none⟩ = some (.int .i64 Y.1.d) ∧ v.cell? ⟨bq, 2, none⟩ = some (.int .i64 Y.1.t) ∧ v.cell? ⟨bq, 3, none⟩ = some (.int .i64 Y.1.D.a0) ∧ v.cell? ⟨bq, 4, none⟩ = some (.int .i64 Y.1.D.a1) ∧ v.cell? ⟨bq, 5, none⟩ = some (.int .i64 Y.1.D.a2) ∧ v.cell? ⟨bq, 6, none⟩ = some (.int .i64 Y.1.D.a3) ∧ v.cell? ⟨bq, 7, none⟩ = some (.int .i64 Y.1.D.a4) ∧ v.cell? ⟨bq, 8, none⟩ = some (.int .i64 Y.1.D.a5) ∧ v.cell? ⟨bq, 9, none⟩ = some (.int .i64 Y.1.D.a6) ∧ v.cell? ⟨bq, 10, none⟩ = some (.int .i64 Y.1.g) ∧ v.cell? ⟨bq, 11, none⟩ = some (.int .i64 Y.2) ∧ v.cell? ⟨br, 0, none⟩ = some (.int .i64 Z.1.n) ∧ v.cell? ⟨br, 1, none⟩ = some (.int .i64 Z.1.d) ∧ v.cell? ⟨br, 2, none⟩ = some (.int .i64 Z.1.t) ∧ v.cell? ⟨br, 3, none⟩ = some (.int .i64 Z.1.D.a0) ∧ v.cell? ⟨br, 4, none⟩ = some (.int .i64 Z.1.D.a1) ∧ v.cell? ⟨br, 5, none⟩ = some (.int .i64 Z.1.D.a2) ∧ v.cell? ⟨br, 6, none⟩ = some (.int .i64 Z.1.D.a3) ∧ v.cell? ⟨br, 7, none⟩ = some (.int .i64 Z.1.D.a4) ∧ v.cell? ⟨br, 8, none⟩ = some (.int .i64 Z.1.D.a5) ∧ v.cell? ⟨br, 9, none⟩ = some (.int .i64 Z.1.D.a6) ∧ v.cell? ⟨br, 10, none⟩ = some (.int .i64 Z.1.g) ∧ v.cell? ⟨br, 11, none⟩ = some (.int .i64 Z.2))
    (first | with_reducible exact hA.cells | with_reducible exact hA.drew.cells | go_keep)
    (first
      | (go_at_call 19; (first | refine (kR _ (hE.below hA.1).1).mono ?_ | refine (kR _ (hE.below hA.drew.1).1).mono ?_); rintro e u ⟨rfl, hb⟩; (first | (replace hA := hA.go hb) | (replace hA := hA.drew.go hb)); clear hb)
      | (go_at_call 20; refine (rR _).mono ?_; rintro e u ⟨rfl, hb⟩; (first | (replace hA := hA.go hb) | (replace hA := hA.drew.go hb)); clear hb)
      | (go_at_call 10; (first | refine (kX _ (hE.below hA.1)).mono ?_ | refine (kX _ (hE.below hA.drew.1)).mono ?_); rintro e u ⟨rfl, hb⟩; (first | (replace hA := hA.go hb) | (replace hA := hA.drew.go hb)); clear hb)
      | (go_at_call 21; refine (rX _).mono ?_; rintro e u ⟨rfl, hb⟩; (first | (replace hA := hA.go hb) | (replace hA := hA.drew.go hb)); clear hb))
  all_goals go_wp2
  all_goals go_ret
  all_goals exact ⟨by simp, hA.1⟩

end Go.Proofs.YtndinbefljajcaaGreatDoor.Worth

/-
  The walk of drachmlaw03.tells: the program's dims answer as the document's; old memory stays.
-/
import Derived.Test.YtndinbefljajcaaDoorQ2
import Derived.Test.YtndinbefljajcaaDoorQ4
import Derived.Deep.Cut
import Derived.Deep.RegionHeld3
namespace Go.Proofs.YtndinbefljajcaaDoor.Dims
open Go.RowKit Go.Shelf
set_option linter.unusedVariables false
set_option linter.unusedSimpArgs false

/-- In the world v the block b holds the document's answer g. -/
def LiesG8 (v : World) (b : Nat) (g : D7 × Bool) : Prop := (∀ j, j < 7 → v.cell? ⟨b, j, none⟩ = some (.int .i64 (g.1.get j))) ∧ v.cell? ⟨b, 7, none⟩ = some (.bool g.2) ∧ b < v.heap.size
theorem LiesG8.go {v v' : World} {b : Nat} {g : D7 × Bool} (h : LiesG8 v b g) (hb : Below v.heap.size v v') : LiesG8 v' b g :=
  ⟨fun j hj => (hb.cell (p := ⟨b, j, none⟩) h.2.2).trans (h.1 j hj), (hb.cell (p := ⟨b, 7, none⟩) h.2.2).trans h.2.1, by have := hb.size; have := h.2.2; omega⟩
theorem LiesG8.new (v : World) (g : D7 × Bool) : LiesG8 (v.alloc (.cells #[.int .i64 g.1.a0, .int .i64 g.1.a1, .int .i64 g.1.a2, .int .i64 g.1.a3, .int .i64 g.1.a4, .int .i64 g.1.a5, .int .i64 g.1.a6, .bool g.2] 29)) v.heap.size g := by
  refine ⟨fun j hj => ?_, ?_, ?_⟩
  · match j, hj with
    | 0, _ => simp [go_sem, D7.get]
    | 1, _ => simp [go_sem, D7.get]
    | 2, _ => simp [go_sem, D7.get]
    | 3, _ => simp [go_sem, D7.get]
    | 4, _ => simp [go_sem, D7.get]
    | 5, _ => simp [go_sem, D7.get]
    | 6, _ => simp [go_sem, D7.get]
  all_goals simp [go_sem]
theorem LiesG8.cells {v : World} {b : Nat} {g : D7 × Bool} (h : LiesG8 v b g) : v.cell? ⟨b, 0, none⟩ = some (.int .i64 g.1.a0) ∧ v.cell? ⟨b, 1, none⟩ = some (.int .i64 g.1.a1) ∧ v.cell? ⟨b, 2, none⟩ = some (.int .i64 g.1.a2) ∧ v.cell? ⟨b, 3, none⟩ = some (.int .i64 g.1.a3) ∧ v.cell? ⟨b, 4, none⟩ = some (.int .i64 g.1.a4) ∧ v.cell? ⟨b, 5, none⟩ = some (.int .i64 g.1.a5) ∧ v.cell? ⟨b, 6, none⟩ = some (.int .i64 g.1.a6) ∧ v.cell? ⟨b, 7, none⟩ = some (.bool g.2) :=
  ⟨h.1 0 (by omega), h.1 1 (by omega), h.1 2 (by omega), h.1 3 (by omega), h.1 4 (by omega), h.1 5 (by omega), h.1 6 (by omega), h.2.1⟩

/-- How the world stands at the end of tells: all boxes. -/
def TellAt (w v : World) (a : D7) (X Y Z : D7 × Bool) (bx bY bz bp bq br : Nat) : Prop := Below w.heap.size w v ∧ Lies7 v w.heap.size a.get ∧ Lies7 v bx X.1.get ∧ Lies7 v bY Y.1.get ∧ Lies7 v bz Z.1.get ∧ LiesG8 v bp X ∧ LiesG8 v bq Y ∧ LiesG8 v br Z
theorem TellAt.go {w v v' : World} {a : D7} {X Y Z : D7 × Bool} {bx bY bz bp bq br : Nat} (h : TellAt w v a X Y Z bx bY bz bp bq br) (hb : Below v.heap.size v v') : TellAt w v' a X Y Z bx bY bz bp bq br :=
  ⟨Below.goB h.1 h.1.size hb, h.2.1.below hb h.2.1.2.2, h.2.2.1.below hb h.2.2.1.2.2, h.2.2.2.1.below hb h.2.2.2.1.2.2, h.2.2.2.2.1.below hb h.2.2.2.2.1.2.2, h.2.2.2.2.2.1.go hb, h.2.2.2.2.2.2.1.go hb, h.2.2.2.2.2.2.2.go hb⟩
theorem TellAt.drew {w v : World} {a : D7} {X Y Z : D7 × Bool} {bx bY bz bp bq br : Nat} (h : TellAt w v a X Y Z bx bY bz bp bq br) : TellAt w v.drew a X Y Z bx bY bz bp bq br := h.go (by go_grown)

def TellCells (w v : World) (a : D7) (X Y Z : D7 × Bool) (bx bY bz bp bq br : Nat) : Prop := v.cell? ⟨w.heap.size, 0, none⟩ = some (.int .i64 a.a0) ∧ v.cell? ⟨w.heap.size, 1, none⟩ = some (.int .i64 a.a1) ∧ v.cell? ⟨w.heap.size, 2, none⟩ = some (.int .i64 a.a2) ∧ v.cell? ⟨w.heap.size, 3, none⟩ = some (.int .i64 a.a3) ∧ v.cell? ⟨w.heap.size, 4, none⟩ = some (.int .i64 a.a4) ∧ v.cell? ⟨w.heap.size, 5, none⟩ = some (.int .i64 a.a5) ∧ v.cell? ⟨w.heap.size, 6, none⟩ = some (.int .i64 a.a6) ∧ v.cell? ⟨bx, 0, none⟩ = some (.int .i64 X.1.a0) ∧ v.cell? ⟨bx, 1, none⟩ = some (.int .i64 X.1.a1) ∧ v.cell? ⟨bx, 2, none⟩ = some (.int .i64 X.1.a2) ∧ v.cell? ⟨bx, 3, none⟩ = some (.int .i64 X.1.a3) ∧ v.cell? ⟨bx, 4, none⟩ = some (.int .i64 X.1.a4) ∧ v.cell? ⟨bx, 5, none⟩ = some (.int .i64 X.1.a5) ∧ v.cell? ⟨bx, 6, none⟩ = some (.int .i64 X.1.a6) ∧ v.cell? ⟨bY, 0, none⟩ = some (.int .i64 Y.1.a0) ∧ v.cell? ⟨bY, 1, none⟩ = some (.int .i64 Y.1.a1) ∧ v.cell? ⟨bY, 2, none⟩ = some (.int .i64 Y.1.a2) ∧ v.cell? ⟨bY, 3, none⟩ = some (.int .i64 Y.1.a3) ∧ v.cell? ⟨bY, 4, none⟩ = some (.int .i64 Y.1.a4) ∧ v.cell? ⟨bY, 5, none⟩ = some (.int .i64 Y.1.a5) ∧ v.cell? ⟨bY, 6, none⟩ = some (.int .i64 Y.1.a6) ∧ v.cell? ⟨bz, 0, none⟩ = some (.int .i64 Z.1.a0) ∧ v.cell? ⟨bz, 1, none⟩ = some (.int .i64 Z.1.a1) ∧ v.cell? ⟨bz, 2, none⟩ = some (.int .i64 Z.1.a2) ∧ v.cell? ⟨bz, 3, none⟩ = some (.int .i64 Z.1.a3) ∧ v.cell? ⟨bz, 4, none⟩ = some (.int .i64 Z.1.a4) ∧ v.cell? ⟨bz, 5, none⟩ = some (.int .i64 Z.1.a5) ∧ v.cell? ⟨bz, 6, none⟩ = some (.int .i64 Z.1.a6) ∧ v.cell? ⟨bp, 0, none⟩ = some (.int .i64 X.1.a0) ∧ v.cell? ⟨bp, 1, none⟩ = some (.int .i64 X.1.a1) ∧ v.cell? ⟨bp, 2, none⟩ = some (.int .i64 X.1.a2) ∧ v.cell? ⟨bp, 3, none⟩ = some (.int .i64 X.1.a3) ∧ v.cell? ⟨bp, 4, none⟩ = some (.int .i64 X.1.a4) ∧ v.cell? ⟨bp, 5, none⟩ = some (.int .i64 X.1.a5) ∧ v.cell? ⟨bp, 6, none⟩ = some (.int .i64 X.1.a6) ∧ v.cell? ⟨bp, 7, none⟩ = some (.bool X.2) ∧ v.cell? ⟨bq, 0, none⟩ = some (.int .i64 Y.1.a0) ∧ v.cell? ⟨bq, 1, none⟩ = some (.int .i64 Y.1.a1) ∧ v.cell? ⟨bq, 2, none⟩ = some (.int .i64 Y.1.a2) ∧ v.cell? ⟨bq, 3, none⟩ = some (.int .i64 Y.1.a3) ∧ v.cell? ⟨bq, 4, none⟩ = some (.int .i64 Y.1.a4) ∧ v.cell? ⟨bq, 5, none⟩ = some (.int .i64 Y.1.a5) ∧ v.cell? ⟨bq, 6, none⟩ = some (.int .i64 Y.1.a6) ∧ v.cell? ⟨bq, 7, none⟩ = some (.bool Y.2) ∧ v.cell? ⟨br, 0, none⟩ = some (.int .i64 Z.1.a0) ∧ v.cell? ⟨br, 1, none⟩ = some (.int .i64 Z.1.a1) ∧ v.cell? ⟨br, 2, none⟩ = some (.int .i64 Z.1.a2) ∧ v.cell? ⟨br, 3, none⟩ = some (.int .i64 Z.1.a3) ∧ v.cell? ⟨br, 4, none⟩ = some (.int .i64 Z.1.a4) ∧ v.cell? ⟨br, 5, none⟩ = some (.int .i64 Z.1.a5) ∧ v.cell? ⟨br, 6, none⟩ = some (.int .i64 Z.1.a6) ∧ v.cell? ⟨br, 7, none⟩ = some (.bool Z.2)
theorem TellAt.cells {w v : World} {a : D7} {X Y Z : D7 × Bool} {bx bY bz bp bq br : Nat} (h : TellAt w v a X Y Z bx bY bz bp bq br) : v.cell? ⟨w.heap.size, 0, none⟩ = some (.int .i64 a.a0) ∧ v.cell? ⟨w.heap.size, 1, none⟩ = some (.int .i64 a.a1) ∧ v.cell? ⟨w.heap.size, 2, none⟩ = some (.int .i64 a.a2) ∧ v.cell? ⟨w.heap.size, 3, none⟩ = some (.int .i64 a.a3) ∧ v.cell? ⟨w.heap.size, 4, none⟩ = some (.int .i64 a.a4) ∧ v.cell? ⟨w.heap.size, 5, none⟩ = some (.int .i64 a.a5) ∧ v.cell? ⟨w.heap.size, 6, none⟩ = some (.int .i64 a.a6) ∧ v.cell? ⟨bx, 0, none⟩ = some (.int .i64 X.1.a0) ∧ v.cell? ⟨bx, 1, none⟩ = some (.int .i64 X.1.a1) ∧ v.cell? ⟨bx, 2, none⟩ = some (.int .i64 X.1.a2) ∧ v.cell? ⟨bx, 3, none⟩ = some (.int .i64 X.1.a3) ∧ v.cell? ⟨bx, 4, none⟩ = some (.int .i64 X.1.a4) ∧ v.cell? ⟨bx, 5, none⟩ = some (.int .i64 X.1.a5) ∧ v.cell? ⟨bx, 6, none⟩ = some (.int .i64 X.1.a6) ∧ v.cell? ⟨bY, 0, none⟩ = some (.int .i64 Y.1.a0) ∧ v.cell? ⟨bY, 1, none⟩ = some (.int .i64 Y.1.a1) ∧ v.cell? ⟨bY, 2, none⟩ = some (.int .i64 Y.1.a2) ∧ v.cell? ⟨bY, 3, none⟩ = some (.int .i64 Y.1.a3) ∧ v.cell? ⟨bY, 4, none⟩ = some (.int .i64 Y.1.a4) ∧ v.cell? ⟨bY, 5, none⟩ = some (.int .i64 Y.1.a5) ∧ v.cell? ⟨bY, 6, none⟩ = some (.int .i64 Y.1.a6) ∧ v.cell? ⟨bz, 0, none⟩ = some (.int .i64 Z.1.a0) ∧ v.cell? ⟨bz, 1, none⟩ = some (.int .i64 Z.1.a1) ∧ v.cell? ⟨bz, 2, none⟩ = some (.int .i64 Z.1.a2) ∧ v.cell? ⟨bz, 3, none⟩ = some (.int .i64 Z.1.a3) ∧ v.cell? ⟨bz, 4, none⟩ = some (.int .i64 Z.1.a4) ∧ v.cell? ⟨bz, 5, none⟩ = some (.int .i64 Z.1.a5) ∧ v.cell? ⟨bz, 6, none⟩ = some (.int .i64 Z.1.a6) ∧ v.cell? ⟨bp, 0, none⟩ = some (.int .i64 X.1.a0) ∧ v.cell? ⟨bp, 1, none⟩ = some (.int .i64 X.1.a1) ∧ v.cell? ⟨bp, 2, none⟩ = some (.int .i64 X.1.a2) ∧ v.cell? ⟨bp, 3, none⟩ = some (.int .i64 X.1.a3) ∧ v.cell? ⟨bp, 4, none⟩ = some (.int .i64 X.1.a4) ∧ v.cell? ⟨bp, 5, none⟩ = some (.int .i64 X.1.a5) ∧ v.cell? ⟨bp, 6, none⟩ = some (.int .i64 X.1.a6) ∧ v.cell? ⟨bp, 7, none⟩ = some (.bool X.2) ∧ v.cell? ⟨bq, 0, none⟩ = some (.int .i64 Y.1.a0) ∧ v.cell? ⟨bq, 1, none⟩ = some (.int .i64 Y.1.a1) ∧ v.cell? ⟨bq, 2, none⟩ = some (.int .i64 Y.1.a2) ∧ v.cell? ⟨bq, 3, none⟩ = some (.int .i64 Y.1.a3) ∧ v.cell? ⟨bq, 4, none⟩ = some (.int .i64 Y.1.a4) ∧ v.cell? ⟨bq, 5, none⟩ = some (.int .i64 Y.1.a5) ∧ v.cell? ⟨bq, 6, none⟩ = some (.int .i64 Y.1.a6) ∧ v.cell? ⟨bq, 7, none⟩ = some (.bool Y.2) ∧ v.cell? ⟨br, 0, none⟩ = some (.int .i64 Z.1.a0) ∧ v.cell? ⟨br, 1, none⟩ = some (.int .i64 Z.1.a1) ∧ v.cell? ⟨br, 2, none⟩ = some (.int .i64 Z.1.a2) ∧ v.cell? ⟨br, 3, none⟩ = some (.int .i64 Z.1.a3) ∧ v.cell? ⟨br, 4, none⟩ = some (.int .i64 Z.1.a4) ∧ v.cell? ⟨br, 5, none⟩ = some (.int .i64 Z.1.a5) ∧ v.cell? ⟨br, 6, none⟩ = some (.int .i64 Z.1.a6) ∧ v.cell? ⟨br, 7, none⟩ = some (.bool Z.2) := by
  obtain ⟨_, h1, h2, h3, h4, h5, h6, h7⟩ := h
  obtain ⟨a0, a1, a2, a3, a4, a5, a6⟩ := h1.cells
  obtain ⟨b0, b1, b2, b3, b4, b5, b6⟩ := h2.cells
  obtain ⟨c0, c1, c2, c3, c4, c5, c6⟩ := h3.cells
  obtain ⟨d0, d1, d2, d3, d4, d5, d6⟩ := h4.cells
  obtain ⟨e0, e1, e2, e3, e4, e5, e6, e7⟩ := h5.cells
  obtain ⟨f0, f1, f2, f3, f4, f5, f6, f7⟩ := h6.cells
  obtain ⟨g0, g1, g2, g3, g4, g5, g6, g7⟩ := h7.cells
  exact ⟨a0, a1, a2, a3, a4, a5, a6, b0, b1, b2, b3, b4, b5, b6, c0, c1, c2, c3, c4, c5, c6, d0, d1, d2, d3, d4, d5, d6, e0, e1, e2, e3, e4, e5, e6, e7, f0, f1, f2, f3, f4, f5, f6, f7, g0, g1, g2, g3, g4, g5, g6, g7⟩

set_option maxRecDepth 100000 in
set_option maxHeartbeats 8000000 in
theorem tells_any (a b : D7) (n : Int) (w : World) (hE : Env w) (fa : Fine a) (fb : Fine b) (n0 : -9223372036854775808 ≤ n) (n1 : n ≤ 9223372036854775807) :
    Calls Tryd.prog 12 #[a.v, b.v, .int .i64 n] w fun e w' => e = .returned (.bool true) ∧ Below w.heap.size w w' := by
  have kA := fun V => add_any a b V fa fb
  have kS := fun V => sub_any a b V fa fb
  have kT := fun V => times_any a n V fa n0 n1
  have rA := fun V => radd_any a b V fa fb
  have rS := fun V => rsub_any a b V fa fb
  have rT := fun V => rtimes_any a n V fa n0 n1
  have kR := fun V => right_any a V fa
  have rR := fun V => rright_any a V fa
  have kX := fun V hV => text_any a V hV fa
  have rX := fun V => rtext_any a V fa
  generalize addG a b = X at *
  generalize subG a b = Y at *
  generalize timesG a n = Z at *
  generalize rightB a = rb at *
  generalize textD a = tx at *
  have lA := (Lies7.new w a).alloc (.cells #[.int .i64 b.a0, .int .i64 b.a1, .int .i64 b.a2, .int .i64 b.a3, .int .i64 b.a4, .int .i64 b.a5, .int .i64 b.a6] 23)
  have lB := Lies7.new (w.alloc (.cells #[.int .i64 a.a0, .int .i64 a.a1, .int .i64 a.a2, .int .i64 a.a3, .int .i64 a.a4, .int .i64 a.a5, .int .i64 a.a6] 23)) b
  simp only [World.size_alloc] at lB
  have hB : Below w.heap.size w ((w.alloc (.cells #[.int .i64 a.a0, .int .i64 a.a1, .int .i64 a.a2, .int .i64 a.a3, .int .i64 a.a4, .int .i64 a.a5, .int .i64 a.a6] 23)).alloc (.cells #[.int .i64 b.a0, .int .i64 b.a1, .int .i64 b.a2, .int .i64 b.a3, .int .i64 b.a4, .int .i64 b.a5, .int .i64 b.a6] 23)) := by go_grown
  simp only [D7.v, gotV] at kA kS kT rA rS rT kR rR kX rX ⊢
  go_enter Tryd.func12, Tryd.ntmps12
  obtain ⟨c0, c1, c2, c3, c4, c5, c6⟩ := lA.cells
  obtain ⟨d0, d1, d2, d3, d4, d5, d6⟩ := lB.cells
  simp only [D7.get] at c0 c1 c2 c3 c4 c5 c6 d0 d1 d2 d3 d4 d5 d6
  go_wp2_with fail
  generalize ((w.alloc (.cells #[.int .i64 a.a0, .int .i64 a.a1, .int .i64 a.a2, .int .i64 a.a3, .int .i64 a.a4, .int .i64 a.a5, .int .i64 a.a6] 23)).alloc (.cells #[.int .i64 b.a0, .int .i64 b.a1, .int .i64 b.a2, .int .i64 b.a3, .int .i64 b.a4, .int .i64 b.a5, .int .i64 b.a6] 23)) = V0 at *
  refine (kA _).mono ?_
  rintro e w1 ⟨rfl, hb⟩
  replace hB := Below.goB hB hB.size hb
  replace lA := lA.below hb lA.2.2
  replace lB := lB.below hb lB.2.2
  clear hb
  clear c0 c1 c2 c3 c4 c5 c6 d0 d1 d2 d3 d4 d5 d6
  have lX := Lies7.new w1 X.1
  have hu : Below w1.heap.size w1 (w1.alloc (.cells #[.int .i64 X.1.a0, .int .i64 X.1.a1, .int .i64 X.1.a2, .int .i64 X.1.a3, .int .i64 X.1.a4, .int .i64 X.1.a5, .int .i64 X.1.a6] 23)) := by go_grown
  replace hB := Below.goB hB hB.size hu
  replace lA := lA.below hu lA.2.2
  replace lB := lB.below hu lB.2.2
  clear hu
  obtain ⟨c0, c1, c2, c3, c4, c5, c6⟩ := lA.cells
  obtain ⟨d0, d1, d2, d3, d4, d5, d6⟩ := lB.cells
  simp only [D7.get] at c0 c1 c2 c3 c4 c5 c6 d0 d1 d2 d3 d4 d5 d6
  go_wp2_with fail
  generalize (w1.alloc (.cells #[.int .i64 X.1.a0, .int .i64 X.1.a1, .int .i64 X.1.a2, .int .i64 X.1.a3, .int .i64 X.1.a4, .int .i64 X.1.a5, .int .i64 X.1.a6] 23)) = V1 at *
  refine (kS _).mono ?_
  rintro e w2 ⟨rfl, hb⟩
  replace hB := Below.goB hB hB.size hb
  replace lA := lA.below hb lA.2.2
  replace lB := lB.below hb lB.2.2
  replace lX := lX.below hb lX.2.2
  clear hb
  clear c0 c1 c2 c3 c4 c5 c6 d0 d1 d2 d3 d4 d5 d6
  have lY := Lies7.new w2 Y.1
  have hu : Below w2.heap.size w2 (w2.alloc (.cells #[.int .i64 Y.1.a0, .int .i64 Y.1.a1, .int .i64 Y.1.a2, .int .i64 Y.1.a3, .int .i64 Y.1.a4, .int .i64 Y.1.a5, .int .i64 Y.1.a6] 23)) := by go_grown
  replace hB := Below.goB hB hB.size hu
  replace lA := lA.below hu lA.2.2
  replace lB := lB.below hu lB.2.2
  replace lX := lX.below hu lX.2.2
  clear hu
  obtain ⟨c0, c1, c2, c3, c4, c5, c6⟩ := lA.cells
  obtain ⟨d0, d1, d2, d3, d4, d5, d6⟩ := lB.cells
  simp only [D7.get] at c0 c1 c2 c3 c4 c5 c6 d0 d1 d2 d3 d4 d5 d6
  go_wp2_with fail
  generalize (w2.alloc (.cells #[.int .i64 Y.1.a0, .int .i64 Y.1.a1, .int .i64 Y.1.a2, .int .i64 Y.1.a3, .int .i64 Y.1.a4, .int .i64 Y.1.a5, .int .i64 Y.1.a6] 23)) = V2 at *
  refine (kT _).mono ?_
  rintro e w3 ⟨rfl, hb⟩
  replace hB := Below.goB hB hB.size hb
  replace lA := lA.below hb lA.2.2
  replace lB := lB.below hb lB.2.2
  replace lX := lX.below hb lX.2.2
  replace lY := lY.below hb lY.2.2
  clear hb
  clear c0 c1 c2 c3 c4 c5 c6 d0 d1 d2 d3 d4 d5 d6
  have lZ := Lies7.new w3 Z.1
  have hu : Below w3.heap.size w3 (w3.alloc (.cells #[.int .i64 Z.1.a0, .int .i64 Z.1.a1, .int .i64 Z.1.a2, .int .i64 Z.1.a3, .int .i64 Z.1.a4, .int .i64 Z.1.a5, .int .i64 Z.1.a6] 23)) := by go_grown
  replace hB := Below.goB hB hB.size hu
  replace lA := lA.below hu lA.2.2
  replace lB := lB.below hu lB.2.2
  replace lX := lX.below hu lX.2.2
  replace lY := lY.below hu lY.2.2
  clear hu
  obtain ⟨c0, c1, c2, c3, c4, c5, c6⟩ := lA.cells
  obtain ⟨d0, d1, d2, d3, d4, d5, d6⟩ := lB.cells
  simp only [D7.get] at c0 c1 c2 c3 c4 c5 c6 d0 d1 d2 d3 d4 d5 d6
  go_wp2_with fail
  generalize (w3.alloc (.cells #[.int .i64 Z.1.a0, .int .i64 Z.1.a1, .int .i64 Z.1.a2, .int .i64 Z.1.a3, .int .i64 Z.1.a4, .int .i64 Z.1.a5, .int .i64 Z.1.a6] 23)) = V3 at *
  refine (rA _).mono ?_
  rintro e w4 ⟨rfl, hb⟩
  replace hB := Below.goB hB hB.size hb
  replace lA := lA.below hb lA.2.2
  replace lB := lB.below hb lB.2.2
  replace lX := lX.below hb lX.2.2
  replace lY := lY.below hb lY.2.2
  replace lZ := lZ.below hb lZ.2.2
  clear hb
  clear c0 c1 c2 c3 c4 c5 c6 d0 d1 d2 d3 d4 d5 d6
  have lP := LiesG8.new w4 X
  have hu : Below w4.heap.size w4 (w4.alloc (.cells #[.int .i64 X.1.a0, .int .i64 X.1.a1, .int .i64 X.1.a2, .int .i64 X.1.a3, .int .i64 X.1.a4, .int .i64 X.1.a5, .int .i64 X.1.a6, .bool X.2] 29)) := by go_grown
  replace hB := Below.goB hB hB.size hu
  replace lA := lA.below hu lA.2.2
  replace lB := lB.below hu lB.2.2
  replace lX := lX.below hu lX.2.2
  replace lY := lY.below hu lY.2.2
  replace lZ := lZ.below hu lZ.2.2
  clear hu
  obtain ⟨c0, c1, c2, c3, c4, c5, c6⟩ := lA.cells
  obtain ⟨d0, d1, d2, d3, d4, d5, d6⟩ := lB.cells
  simp only [D7.get] at c0 c1 c2 c3 c4 c5 c6 d0 d1 d2 d3 d4 d5 d6
  go_wp2_with fail
  generalize (w4.alloc (.cells #[.int .i64 X.1.a0, .int .i64 X.1.a1, .int .i64 X.1.a2, .int .i64 X.1.a3, .int .i64 X.1.a4, .int .i64 X.1.a5, .int .i64 X.1.a6, .bool X.2] 29)) = V4 at *
  refine (rS _).mono ?_
  rintro e w5 ⟨rfl, hb⟩
  replace hB := Below.goB hB hB.size hb
  replace lA := lA.below hb lA.2.2
  replace lB := lB.below hb lB.2.2
  replace lX := lX.below hb lX.2.2
  replace lY := lY.below hb lY.2.2
  replace lZ := lZ.below hb lZ.2.2
  replace lP := lP.go hb
  clear hb
  clear c0 c1 c2 c3 c4 c5 c6 d0 d1 d2 d3 d4 d5 d6
  have lQ := LiesG8.new w5 Y
  have hu : Below w5.heap.size w5 (w5.alloc (.cells #[.int .i64 Y.1.a0, .int .i64 Y.1.a1, .int .i64 Y.1.a2, .int .i64 Y.1.a3, .int .i64 Y.1.a4, .int .i64 Y.1.a5, .int .i64 Y.1.a6, .bool Y.2] 29)) := by go_grown
  replace hB := Below.goB hB hB.size hu
  replace lA := lA.below hu lA.2.2
  replace lB := lB.below hu lB.2.2
  replace lX := lX.below hu lX.2.2
  replace lY := lY.below hu lY.2.2
  replace lZ := lZ.below hu lZ.2.2
  replace lP := lP.go hu
  clear hu
  obtain ⟨c0, c1, c2, c3, c4, c5, c6⟩ := lA.cells
  obtain ⟨d0, d1, d2, d3, d4, d5, d6⟩ := lB.cells
  simp only [D7.get] at c0 c1 c2 c3 c4 c5 c6 d0 d1 d2 d3 d4 d5 d6
  go_wp2_with fail
  generalize (w5.alloc (.cells #[.int .i64 Y.1.a0, .int .i64 Y.1.a1, .int .i64 Y.1.a2, .int .i64 Y.1.a3, .int .i64 Y.1.a4, .int .i64 Y.1.a5, .int .i64 Y.1.a6, .bool Y.2] 29)) = V5 at *
  refine (rT _).mono ?_
  rintro e w6 ⟨rfl, hb⟩
  replace hB := Below.goB hB hB.size hb
  replace lA := lA.below hb lA.2.2
  replace lB := lB.below hb lB.2.2
  replace lX := lX.below hb lX.2.2
  replace lY := lY.below hb lY.2.2
  replace lZ := lZ.below hb lZ.2.2
  replace lP := lP.go hb
  replace lQ := lQ.go hb
  clear hb
  clear c0 c1 c2 c3 c4 c5 c6 d0 d1 d2 d3 d4 d5 d6
  have lR := LiesG8.new w6 Z
  have hu : Below w6.heap.size w6 (w6.alloc (.cells #[.int .i64 Z.1.a0, .int .i64 Z.1.a1, .int .i64 Z.1.a2, .int .i64 Z.1.a3, .int .i64 Z.1.a4, .int .i64 Z.1.a5, .int .i64 Z.1.a6, .bool Z.2] 29)) := by go_grown
  replace hB := Below.goB hB hB.size hu
  replace lA := lA.below hu lA.2.2
  replace lB := lB.below hu lB.2.2
  replace lX := lX.below hu lX.2.2
  replace lY := lY.below hu lY.2.2
  replace lZ := lZ.below hu lZ.2.2
  replace lP := lP.go hu
  replace lQ := lQ.go hu
  clear hu
  go_upto_region 7 with fail
  generalize (w6.alloc (.cells #[.int .i64 Z.1.a0, .int .i64 Z.1.a1, .int .i64 Z.1.a2, .int .i64 Z.1.a3, .int .i64 Z.1.a4, .int .i64 Z.1.a5, .int .i64 Z.1.a6, .bool Z.2] 29)) = V6 at *
  have hA : TellAt w V6 a X Y Z w1.heap.size w2.heap.size w3.heap.size w4.heap.size w5.heap.size w6.heap.size := ⟨hB, lA, lX, lY, lZ, lP, lQ, lR⟩
  have q1 := eq7 X.1.a0 X.1.a1 X.1.a2 X.1.a3 X.1.a4 X.1.a5 X.1.a6 X.1.a0 X.1.a1 X.1.a2 X.1.a3 X.1.a4 X.1.a5 X.1.a6
  have q2 := eq7 Y.1.a0 Y.1.a1 Y.1.a2 Y.1.a3 Y.1.a4 Y.1.a5 Y.1.a6 Y.1.a0 Y.1.a1 Y.1.a2 Y.1.a3 Y.1.a4 Y.1.a5 Y.1.a6
  have q3 := eq7 Z.1.a0 Z.1.a1 Z.1.a2 Z.1.a3 Z.1.a4 Z.1.a5 Z.1.a6 Z.1.a0 Z.1.a1 Z.1.a2 Z.1.a3 Z.1.a4 Z.1.a5 Z.1.a6
  rw [eqB_same] at q1 q2 q3
  have e1 : (X.2 == X.2) = true := by simp
  have e2 : (Y.2 == Y.2) = true := by simp
  have e3 : (Z.2 == Z.2) = true := by simp
  have e4 : (rb == rb) = true := by simp
  have e5 : ((bs tx).toList == (bs tx).toList) = true := by simp
  clear lA lB lX lY lZ lP lQ lR hB kA kS kT rA rS rT
  generalize w1.heap.size = bx at *
  generalize w2.heap.size = bY at *
  generalize w3.heap.size = bz at *
  generalize w4.heap.size = bp at *
  generalize w5.heap.size = bq at *
  generalize w6.heap.size = br at *
  go_region_held3 (fun v => v.cell? ⟨w.heap.size, 0, none⟩ = some (.int .i64 a.a0) ∧ v.cell? ⟨w.heap.size, 1, none⟩ = some (.int .i64 a.a1) ∧ v.cell? ⟨w.heap.size, 2, none⟩ = some (.int .i64 a.a2) ∧ v.cell? ⟨w.heap.size, 3, none⟩ = some (.int .i64 a.a3) ∧ v.cell? ⟨w.heap.size, 4, none⟩ = some (.int .i64 a.a4) ∧ v.cell? ⟨w.heap.size, 5, none⟩ = some (.int .i64 a.a5) ∧ v.cell? ⟨w.heap.size, 6, none⟩ = some (.int .i64 a.a6) ∧ v.cell? ⟨bx, 0, none⟩ = some (.int .i64 X.1.a0) ∧ v.cell? ⟨bx, 1, none⟩ = some (.int .i64 X.1.a1) ∧ v.cell? ⟨bx, 2, none⟩ = some (.int .i64 X.1.a2) ∧ v.cell? ⟨bx, 3, none⟩ = some (.int .i64 X.1.a3) ∧ v.cell? ⟨bx, 4, none⟩ = some (.int .i64 X.1.a4) ∧ v.cell? ⟨bx, 5, none⟩ = some (.int .i64 X.1.a5) ∧ v.cell? ⟨bx, 6, none⟩ = some (.int .i64 X.1.a6) ∧ v.cell? ⟨bY, 0, none⟩ = some (.int .i64 Y.1.a0) ∧ v.cell? ⟨bY, 1, none⟩ = some (.int .i64 Y.1.a1) ∧ v.cell? ⟨bY, 2, none⟩ = some (.int .i64 Y.1.a2) ∧ v.cell? ⟨bY, 3, none⟩ = some (.int .i64 Y.1.a3) ∧ v.cell? ⟨bY, 4, none⟩ = some (.int .i64 Y.1.a4) ∧ v.cell? ⟨bY, 5, none⟩ = some (.int .i64 Y.1.a5) ∧ v.cell? ⟨bY, 6, none⟩ = some (.int .i64 Y.1.a6) ∧ v.cell? ⟨bz, 0, none⟩ = some (.int .i64 Z.1.a0) ∧ v.cell? ⟨bz, 1, none⟩ = some (.int .i64 Z.1.a1) ∧ v.cell? ⟨bz, 2, none⟩ = some (.int .i64 Z.1.a2) ∧ v.cell? ⟨bz, 3, none⟩ = some (.int .i64 Z.1.a3) ∧ v.cell? ⟨bz, 4, none⟩ = some (.int .i64 Z.1.a4) ∧ v.cell? ⟨bz, 5, none⟩ = some (.int .i64 Z.1.a5) ∧ v.cell? ⟨bz, 6, none⟩ = some (.int .i64 Z.1.a6) ∧ v.cell? ⟨bp, 0, none⟩ = some (.int .i64 X.1.a0) ∧ v.cell? ⟨bp, 1, none⟩ = some (.int .i64 X.1.a1) ∧ v.cell? ⟨bp, 2, none⟩ = some (.int .i64 X.1.a2) ∧ v.cell? ⟨bp, 3, none⟩ = some (.int .i64 X.1.a3) ∧ v.cell? ⟨bp, 4, none⟩ = some (.int .i64 X.1.a4) ∧ v.cell? ⟨bp, 5, none⟩ = some (.int .i64 X.1.a5) ∧ v.cell? ⟨bp, 6, none⟩ = some (.int .i64 X.1.a6) ∧ v.cell? ⟨bp, 7, none⟩ = some (.bool X.2) ∧ v.cell? ⟨bq, 0, none⟩ = some (.int .i64 Y.1.a0) ∧ v.cell? ⟨bq, 1, none⟩ = some (.int .i64 Y.1.a1) ∧ v.cell? ⟨bq, 2, none⟩ = some (.int .i64 Y.1.a2) ∧ v.cell? ⟨bq, 3, none⟩ = some (.int .i64 Y.1.a3) ∧ v.cell? ⟨bq, 4, none⟩ = some (.int .i64 Y.1.a4) ∧ v.cell? ⟨bq, 5, none⟩ = some (.int .i64 Y.1.a5) ∧ v.cell? ⟨bq, 6, none⟩ = some (.int .i64 Y.1.a6) ∧ v.cell? ⟨bq, 7, none⟩ = some (.bool Y.2) ∧ v.cell? ⟨br, 0, none⟩ = some (.int .i64 Z.1.a0) ∧ v.cell? ⟨br, 1, none⟩ = some (.int .i64 Z.1.a1) ∧ v.cell? ⟨br, 2, none⟩ = some (.int .i64 Z.1.a2) ∧ v.cell? ⟨br, 3, none⟩ = some (.int .i64 Z.1.a3) ∧ v.cell? ⟨br, 4, none⟩ = some (.int .i64 Z.1.a4) ∧ v.cell? ⟨br, 5, none⟩ = some (.int .i64 Z.1.a5) ∧ v.cell? ⟨br, 6, none⟩ = some (.int .i64 Z.1.a6) ∧ v.cell? ⟨br, 7, none⟩ = some (.bool Z.2))
    (first | exact hA.drew.cells | exact hA.cells | go_keep)
    (first
      | (go_at_call 36; refine (kR _).mono ?_; rintro e u ⟨rfl, hb⟩; (first | (replace hA := hA.go hb) | (replace hA := hA.drew.go hb)); clear hb)
      | (go_at_call 29; refine (rR _).mono ?_; rintro e u ⟨rfl, hb⟩; (first | (replace hA := hA.go hb) | (replace hA := hA.drew.go hb)); clear hb)
      | (go_at_call 23; (first | refine (kX _ (hE.below hA.1)).mono ?_ | refine (kX _ (hE.below hA.drew.1)).mono ?_); rintro e u ⟨rfl, hb⟩; (first | (replace hA := hA.go hb) | (replace hA := hA.drew.go hb)); clear hb)
      | (go_at_call 30; refine (rX _).mono ?_; rintro e u ⟨rfl, hb⟩; (first | (replace hA := hA.go hb) | (replace hA := hA.drew.go hb)); clear hb))
  all_goals go_wp2
  all_goals go_ret
  all_goals exact ⟨by simp, hA.1⟩

end Go.Proofs.YtndinbefljajcaaDoor.Dims

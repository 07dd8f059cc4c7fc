/-
  Contracts of the document's answers for worths: Of, Mul, Div, Pow; the world below stays as it was.
-/
import Derived.Test.YtndinbefljajcaaGreatDoorVG
import Derived.Deep.RegionHeld3
import Derived.Test.YtndinbefljajcaaGreatDoorG9
namespace Go.Proofs.YtndinbefljajcaaGreatDoor.Worth
open Go.RowKit Go.Shelf
open Go.Proofs.YtndinbefljajcaaGreatDoor.Frac (Got OfTen Room specG)
open Go.Proofs.YtndinbefljajcaaGreatDoor.Dims (D7 dZero dOf Lies7 get_of)
open Go.Proofs.YtndinbefljajcaaGreatDoor.Dims (gotV)
set_option linter.unusedVariables false
set_option linter.unusedSimpArgs false

theorem of_eq (n : Int) (h1 : n ≤ 9223372036854775807) : putG (Frac.makeG n 1 0) (dZero, true) = ofW n := by
  unfold putG ofW
  by_cases he : (Frac.makeG n 1 0).e = 0
  · rw [if_neg (by simp [he]), if_neg (by simp), he]
  · rw [if_pos he]
    have hz : Frac.makeG n 1 0 = ⟨0, 0, 0, (Frac.makeG n 1 0).e⟩ := by
      by_cases hn : n < -9223372036854775807
      · have : Frac.makeG n 1 0 = ⟨0, 0, 0, 1⟩ := by unfold Frac.makeG; rw [if_pos (.inl hn)]
        rw [this]
      · by_cases h0 : n = 0
        · subst h0
          exact absurd (by rw [Frac.make_of_zero 1 0 (by decide) (by decide)]) he
        · have hc := Frac.make_canon n 1 0 (by omega) (by decide) h0 (by decide)
          rw [hc] at he ⊢
          have ho := Frac.form_over _ he
          rw [ho]
          rfl
    conv => rhs; rw [hz]
    rfl

set_option maxRecDepth 100000 in
set_option maxHeartbeats 4000000 in
theorem rof_any (n : Int) (w : World) (n1 : n ≤ 9223372036854775807) :
    Calls Tryz.prog 6 #[.int .i64 n] w fun e w' => e = .returned (gotW (ofW n)) ∧ Below w.heap.size w w' := by
  have hB0 : Below w.heap.size w (w.alloc (.cells zeros12 38)) := by go_grown
  have hZ := LiesC.new w zeros12 38
  have hM := Frac.rmake_any n 1 0
  rw [← Frac.make_eq n 1 0 n1 (by omega)] at hM
  have kP := put_any (Frac.makeG n 1 0) (dZero, true)
  rw [of_eq n n1] at kP
  generalize Frac.makeG n 1 0 = G at *
  generalize ofW n = R at *
  simp only [zeros12] at hB0 hZ
  simp only [Frac.Got.r, gotV, gotW, dZero] at hM kP ⊢
  go_enter Tryz.func6, Tryz.ntmps6
  go_wp2_with fail
  refine (hM _ n1 (by omega) (by omega) (by omega)).mono ?_
  rintro e w1 ⟨rfl, hb⟩
  replace hB0 := Frac.Below.go hB0 hb
  replace hZ := hZ.go hb
  clear hb hM
  go_wp2_with fail
  refine (kP _).mono ?_
  rintro e w2 ⟨rfl, hb⟩
  replace hB0 := Frac.Below.go hB0 hb
  replace hZ := hZ.go hb
  clear hb kP
  have zf := hZ.2.1
  obtain ⟨z0, z1, z2, z3, z4, z5, z6, z7, z8, z9, z10, z11⟩ := LiesC.zeros hZ
  clear hZ
  go_wp2
  refine bodyPost_ret (v := gotW R) (by simp [results, Tryz.results6, go_sem, gotW, z0, z1, z2, z3, z4, z5, z6, z7, z8, z9, z10, z11]) rfl ⟨rfl, ?_⟩
  go_grown

/-- How the world stands within the document's Mul and Div. -/
def TwoZ (w v : World) (a b : Wo) : Prop := Below w.heap.size w v ∧ LiesW v w.heap.size a ∧ LiesW v (w.heap.size + 1) b ∧ LiesC v (w.heap.size + 1 + 1) zeros12
theorem TwoZ.go {w v v' : World} {a b : Wo} (h : TwoZ w v a b) (hb : Below v.heap.size v v') : TwoZ w v' a b := ⟨Dims.Below.goB h.1 h.1.size hb, h.2.1.go hb, h.2.2.1.go hb, h.2.2.2.go hb⟩
theorem TwoZ.drew {w v : World} {a b : Wo} (h : TwoZ w v a b) : TwoZ w v.drew a b := h.go (by go_grown)
theorem TwoZ.new (w : World) (a b : Wo) : TwoZ w (((w.alloc (.cells a.cs 30)).alloc (.cells b.cs 30)).alloc (.cells zeros12 38)) a b := by
  have h1 := TwoW.new w a b
  have h3 := LiesC.new ((w.alloc (.cells a.cs 30)).alloc (.cells b.cs 30)) zeros12 38
  simp only [World.size_alloc] at h3
  exact ⟨by go_grown, h1.2.1.alloc _, h1.2.2.alloc _, h3⟩
theorem TwoZ.cells {w v : World} {a b : Wo} (h : TwoZ w v a b) : v.cell? ⟨w.heap.size, 0, none⟩ = some (.int .i64 a.n) ∧ v.cell? ⟨w.heap.size, 1, none⟩ = some (.int .i64 a.d) ∧ v.cell? ⟨w.heap.size, 2, none⟩ = some (.int .i64 a.t) ∧ v.cell? ⟨w.heap.size, 3, none⟩ = some (.int .i64 a.D.a0) ∧ v.cell? ⟨w.heap.size, 4, none⟩ = some (.int .i64 a.D.a1) ∧ v.cell? ⟨w.heap.size, 5, none⟩ = some (.int .i64 a.D.a2) ∧ v.cell? ⟨w.heap.size, 6, none⟩ = some (.int .i64 a.D.a3) ∧ v.cell? ⟨w.heap.size, 7, none⟩ = some (.int .i64 a.D.a4) ∧ v.cell? ⟨w.heap.size, 8, none⟩ = some (.int .i64 a.D.a5) ∧ v.cell? ⟨w.heap.size, 9, none⟩ = some (.int .i64 a.D.a6) ∧ v.cell? ⟨w.heap.size, 10, none⟩ = some (.int .i64 a.g) ∧ v.cell? ⟨w.heap.size + 1, 0, none⟩ = some (.int .i64 b.n) ∧ v.cell? ⟨w.heap.size + 1, 1, none⟩ = some (.int .i64 b.d) ∧ v.cell? ⟨w.heap.size + 1, 2, none⟩ = some (.int .i64 b.t) ∧ v.cell? ⟨w.heap.size + 1, 3, none⟩ = some (.int .i64 b.D.a0) ∧ v.cell? ⟨w.heap.size + 1, 4, none⟩ = some (.int .i64 b.D.a1) ∧ v.cell? ⟨w.heap.size + 1, 5, none⟩ = some (.int .i64 b.D.a2) ∧ v.cell? ⟨w.heap.size + 1, 6, none⟩ = some (.int .i64 b.D.a3) ∧ v.cell? ⟨w.heap.size + 1, 7, none⟩ = some (.int .i64 b.D.a4) ∧ v.cell? ⟨w.heap.size + 1, 8, none⟩ = some (.int .i64 b.D.a5) ∧ v.cell? ⟨w.heap.size + 1, 9, none⟩ = some (.int .i64 b.D.a6) ∧ v.cell? ⟨w.heap.size + 1, 10, none⟩ = some (.int .i64 b.g) := by
  obtain ⟨c0, c1, c2, c3, c4, c5, c6, c7, c8, c9, c10⟩ := h.2.1.cells
  obtain ⟨d0, d1, d2, d3, d4, d5, d6, d7, d8, d9, d10⟩ := h.2.2.1.cells
  exact ⟨c0, c1, c2, c3, c4, c5, c6, c7, c8, c9, c10, d0, d1, d2, d3, d4, d5, d6, d7, d8, d9, d10⟩
def OneZ (w v : World) (a : Wo) : Prop := Below w.heap.size w v ∧ LiesW v w.heap.size a ∧ LiesC v (w.heap.size + 1) zeros12
theorem OneZ.go {w v v' : World} {a : Wo} (h : OneZ w v a) (hb : Below v.heap.size v v') : OneZ w v' a := ⟨Dims.Below.goB h.1 h.1.size hb, h.2.1.go hb, h.2.2.go hb⟩
theorem OneZ.drew {w v : World} {a : Wo} (h : OneZ w v a) : OneZ w v.drew a := h.go (by go_grown)
theorem OneZ.new (w : World) (a : Wo) : OneZ w ((w.alloc (.cells a.cs 30)).alloc (.cells zeros12 38)) a := by
  have h1 := LiesW.new w a
  have h3 := LiesC.new (w.alloc (.cells a.cs 30)) zeros12 38
  simp only [World.size_alloc] at h3
  exact ⟨by go_grown, h1.alloc _, h3⟩
theorem OneZ.cells {w v : World} {a : Wo} (h : OneZ w v a) : v.cell? ⟨w.heap.size, 0, none⟩ = some (.int .i64 a.n) ∧ v.cell? ⟨w.heap.size, 1, none⟩ = some (.int .i64 a.d) ∧ v.cell? ⟨w.heap.size, 2, none⟩ = some (.int .i64 a.t) ∧ v.cell? ⟨w.heap.size, 3, none⟩ = some (.int .i64 a.D.a0) ∧ v.cell? ⟨w.heap.size, 4, none⟩ = some (.int .i64 a.D.a1) ∧ v.cell? ⟨w.heap.size, 5, none⟩ = some (.int .i64 a.D.a2) ∧ v.cell? ⟨w.heap.size, 6, none⟩ = some (.int .i64 a.D.a3) ∧ v.cell? ⟨w.heap.size, 7, none⟩ = some (.int .i64 a.D.a4) ∧ v.cell? ⟨w.heap.size, 8, none⟩ = some (.int .i64 a.D.a5) ∧ v.cell? ⟨w.heap.size, 9, none⟩ = some (.int .i64 a.D.a6) ∧ v.cell? ⟨w.heap.size, 10, none⟩ = some (.int .i64 a.g) := by
  obtain ⟨c0, c1, c2, c3, c4, c5, c6, c7, c8, c9, c10⟩ := h.2.1.cells
  exact ⟨c0, c1, c2, c3, c4, c5, c6, c7, c8, c9, c10⟩

def TwoCells (w v : World) (a b : Wo) : Prop := v.cell? ⟨w.heap.size, 0, none⟩ = some (.int .i64 a.n) ∧ v.cell? ⟨w.heap.size, 1, none⟩ = some (.int .i64 a.d) ∧ v.cell? ⟨w.heap.size, 2, none⟩ = some (.int .i64 a.t) ∧ v.cell? ⟨w.heap.size, 3, none⟩ = some (.int .i64 a.D.a0) ∧ v.cell? ⟨w.heap.size, 4, none⟩ = some (.int .i64 a.D.a1) ∧ v.cell? ⟨w.heap.size, 5, none⟩ = some (.int .i64 a.D.a2) ∧ v.cell? ⟨w.heap.size, 6, none⟩ = some (.int .i64 a.D.a3) ∧ v.cell? ⟨w.heap.size, 7, none⟩ = some (.int .i64 a.D.a4) ∧ v.cell? ⟨w.heap.size, 8, none⟩ = some (.int .i64 a.D.a5) ∧ v.cell? ⟨w.heap.size, 9, none⟩ = some (.int .i64 a.D.a6) ∧ v.cell? ⟨w.heap.size, 10, none⟩ = some (.int .i64 a.g) ∧ v.cell? ⟨w.heap.size + 1, 0, none⟩ = some (.int .i64 b.n) ∧ v.cell? ⟨w.heap.size + 1, 1, none⟩ = some (.int .i64 b.d) ∧ v.cell? ⟨w.heap.size + 1, 2, none⟩ = some (.int .i64 b.t) ∧ v.cell? ⟨w.heap.size + 1, 3, none⟩ = some (.int .i64 b.D.a0) ∧ v.cell? ⟨w.heap.size + 1, 4, none⟩ = some (.int .i64 b.D.a1) ∧ v.cell? ⟨w.heap.size + 1, 5, none⟩ = some (.int .i64 b.D.a2) ∧ v.cell? ⟨w.heap.size + 1, 6, none⟩ = some (.int .i64 b.D.a3) ∧ v.cell? ⟨w.heap.size + 1, 7, none⟩ = some (.int .i64 b.D.a4) ∧ v.cell? ⟨w.heap.size + 1, 8, none⟩ = some (.int .i64 b.D.a5) ∧ v.cell? ⟨w.heap.size + 1, 9, none⟩ = some (.int .i64 b.D.a6) ∧ v.cell? ⟨w.heap.size + 1, 10, none⟩ = some (.int .i64 b.g)
def OneCells (w v : World) (a : Wo) : Prop := v.cell? ⟨w.heap.size, 0, none⟩ = some (.int .i64 a.n) ∧ v.cell? ⟨w.heap.size, 1, none⟩ = some (.int .i64 a.d) ∧ v.cell? ⟨w.heap.size, 2, none⟩ = some (.int .i64 a.t) ∧ v.cell? ⟨w.heap.size, 3, none⟩ = some (.int .i64 a.D.a0) ∧ v.cell? ⟨w.heap.size, 4, none⟩ = some (.int .i64 a.D.a1) ∧ v.cell? ⟨w.heap.size, 5, none⟩ = some (.int .i64 a.D.a2) ∧ v.cell? ⟨w.heap.size, 6, none⟩ = some (.int .i64 a.D.a3) ∧ v.cell? ⟨w.heap.size, 7, none⟩ = some (.int .i64 a.D.a4) ∧ v.cell? ⟨w.heap.size, 8, none⟩ = some (.int .i64 a.D.a5) ∧ v.cell? ⟨w.heap.size, 9, none⟩ = some (.int .i64 a.D.a6) ∧ v.cell? ⟨w.heap.size, 10, none⟩ = some (.int .i64 a.g)
/-- Behind the storing of the answer both worths lie as they were. -/
theorem TwoZ.cells12 {w v : World} {a b : Wo} (h : TwoZ w v a b) (x0 x1 x2 x3 x4 x5 x6 x7 x8 x9 x10 x11 : Value) : TwoCells w ((((((((((((v.setCell ⟨w.heap.size + 1 + 1, 0, none⟩ x0).setCell ⟨w.heap.size + 1 + 1, 1, none⟩ x1).setCell ⟨w.heap.size + 1 + 1, 2, none⟩ x2).setCell ⟨w.heap.size + 1 + 1, 3, none⟩ x3).setCell ⟨w.heap.size + 1 + 1, 4, none⟩ x4).setCell ⟨w.heap.size + 1 + 1, 5, none⟩ x5).setCell ⟨w.heap.size + 1 + 1, 6, none⟩ x6).setCell ⟨w.heap.size + 1 + 1, 7, none⟩ x7).setCell ⟨w.heap.size + 1 + 1, 8, none⟩ x8).setCell ⟨w.heap.size + 1 + 1, 9, none⟩ x9).setCell ⟨w.heap.size + 1 + 1, 10, none⟩ x10).setCell ⟨w.heap.size + 1 + 1, 11, none⟩ x11) a b := by
  have h1 : LiesW ((((((((((((v.setCell ⟨w.heap.size + 1 + 1, 0, none⟩ x0).setCell ⟨w.heap.size + 1 + 1, 1, none⟩ x1).setCell ⟨w.heap.size + 1 + 1, 2, none⟩ x2).setCell ⟨w.heap.size + 1 + 1, 3, none⟩ x3).setCell ⟨w.heap.size + 1 + 1, 4, none⟩ x4).setCell ⟨w.heap.size + 1 + 1, 5, none⟩ x5).setCell ⟨w.heap.size + 1 + 1, 6, none⟩ x6).setCell ⟨w.heap.size + 1 + 1, 7, none⟩ x7).setCell ⟨w.heap.size + 1 + 1, 8, none⟩ x8).setCell ⟨w.heap.size + 1 + 1, 9, none⟩ x9).setCell ⟨w.heap.size + 1 + 1, 10, none⟩ x10).setCell ⟨w.heap.size + 1 + 1, 11, none⟩ x11) w.heap.size a := ((((((((((((h.2.1.other (w.heap.size + 1 + 1) 0 _ (by omega)).other (w.heap.size + 1 + 1) 1 _ (by omega)).other (w.heap.size + 1 + 1) 2 _ (by omega)).other (w.heap.size + 1 + 1) 3 _ (by omega)).other (w.heap.size + 1 + 1) 4 _ (by omega)).other (w.heap.size + 1 + 1) 5 _ (by omega)).other (w.heap.size + 1 + 1) 6 _ (by omega)).other (w.heap.size + 1 + 1) 7 _ (by omega)).other (w.heap.size + 1 + 1) 8 _ (by omega)).other (w.heap.size + 1 + 1) 9 _ (by omega)).other (w.heap.size + 1 + 1) 10 _ (by omega)).other (w.heap.size + 1 + 1) 11 _ (by omega))
  have h2 : LiesW ((((((((((((v.setCell ⟨w.heap.size + 1 + 1, 0, none⟩ x0).setCell ⟨w.heap.size + 1 + 1, 1, none⟩ x1).setCell ⟨w.heap.size + 1 + 1, 2, none⟩ x2).setCell ⟨w.heap.size + 1 + 1, 3, none⟩ x3).setCell ⟨w.heap.size + 1 + 1, 4, none⟩ x4).setCell ⟨w.heap.size + 1 + 1, 5, none⟩ x5).setCell ⟨w.heap.size + 1 + 1, 6, none⟩ x6).setCell ⟨w.heap.size + 1 + 1, 7, none⟩ x7).setCell ⟨w.heap.size + 1 + 1, 8, none⟩ x8).setCell ⟨w.heap.size + 1 + 1, 9, none⟩ x9).setCell ⟨w.heap.size + 1 + 1, 10, none⟩ x10).setCell ⟨w.heap.size + 1 + 1, 11, none⟩ x11) (w.heap.size + 1) b := ((((((((((((h.2.2.1.other (w.heap.size + 1 + 1) 0 _ (by omega)).other (w.heap.size + 1 + 1) 1 _ (by omega)).other (w.heap.size + 1 + 1) 2 _ (by omega)).other (w.heap.size + 1 + 1) 3 _ (by omega)).other (w.heap.size + 1 + 1) 4 _ (by omega)).other (w.heap.size + 1 + 1) 5 _ (by omega)).other (w.heap.size + 1 + 1) 6 _ (by omega)).other (w.heap.size + 1 + 1) 7 _ (by omega)).other (w.heap.size + 1 + 1) 8 _ (by omega)).other (w.heap.size + 1 + 1) 9 _ (by omega)).other (w.heap.size + 1 + 1) 10 _ (by omega)).other (w.heap.size + 1 + 1) 11 _ (by omega))
  obtain ⟨c0, c1, c2, c3, c4, c5, c6, c7, c8, c9, c10⟩ := h1.cells
  obtain ⟨d0, d1, d2, d3, d4, d5, d6, d7, d8, d9, d10⟩ := h2.cells
  exact ⟨c0, c1, c2, c3, c4, c5, c6, c7, c8, c9, c10, d0, d1, d2, d3, d4, d5, d6, d7, d8, d9, d10⟩
theorem OneZ.cells12 {w v : World} {a : Wo} (h : OneZ w v a) (x0 x1 x2 x3 x4 x5 x6 x7 x8 x9 x10 x11 : Value) : OneCells w ((((((((((((v.setCell ⟨w.heap.size + 1, 0, none⟩ x0).setCell ⟨w.heap.size + 1, 1, none⟩ x1).setCell ⟨w.heap.size + 1, 2, none⟩ x2).setCell ⟨w.heap.size + 1, 3, none⟩ x3).setCell ⟨w.heap.size + 1, 4, none⟩ x4).setCell ⟨w.heap.size + 1, 5, none⟩ x5).setCell ⟨w.heap.size + 1, 6, none⟩ x6).setCell ⟨w.heap.size + 1, 7, none⟩ x7).setCell ⟨w.heap.size + 1, 8, none⟩ x8).setCell ⟨w.heap.size + 1, 9, none⟩ x9).setCell ⟨w.heap.size + 1, 10, none⟩ x10).setCell ⟨w.heap.size + 1, 11, none⟩ x11) a := by
  have h1 : LiesW ((((((((((((v.setCell ⟨w.heap.size + 1, 0, none⟩ x0).setCell ⟨w.heap.size + 1, 1, none⟩ x1).setCell ⟨w.heap.size + 1, 2, none⟩ x2).setCell ⟨w.heap.size + 1, 3, none⟩ x3).setCell ⟨w.heap.size + 1, 4, none⟩ x4).setCell ⟨w.heap.size + 1, 5, none⟩ x5).setCell ⟨w.heap.size + 1, 6, none⟩ x6).setCell ⟨w.heap.size + 1, 7, none⟩ x7).setCell ⟨w.heap.size + 1, 8, none⟩ x8).setCell ⟨w.heap.size + 1, 9, none⟩ x9).setCell ⟨w.heap.size + 1, 10, none⟩ x10).setCell ⟨w.heap.size + 1, 11, none⟩ x11) w.heap.size a := ((((((((((((h.2.1.other (w.heap.size + 1) 0 _ (by omega)).other (w.heap.size + 1) 1 _ (by omega)).other (w.heap.size + 1) 2 _ (by omega)).other (w.heap.size + 1) 3 _ (by omega)).other (w.heap.size + 1) 4 _ (by omega)).other (w.heap.size + 1) 5 _ (by omega)).other (w.heap.size + 1) 6 _ (by omega)).other (w.heap.size + 1) 7 _ (by omega)).other (w.heap.size + 1) 8 _ (by omega)).other (w.heap.size + 1) 9 _ (by omega)).other (w.heap.size + 1) 10 _ (by omega)).other (w.heap.size + 1) 11 _ (by omega))
  obtain ⟨c0, c1, c2, c3, c4, c5, c6, c7, c8, c9, c10⟩ := h1.cells
  exact ⟨c0, c1, c2, c3, c4, c5, c6, c7, c8, c9, c10⟩

set_option maxRecDepth 100000 in
set_option maxHeartbeats 8000000 in
theorem rmul_any (a b : Wo) (w : World) (fa : a.Fine) (fb : b.Fine) :
    Calls Tryz.prog 16 #[a.v, b.v] w fun e w' => e = .returned (gotW (mulW a b)) ∧ Below w.heap.size w w' := by
  have hA := TwoZ.new w a b
  have kE := fun V => may_any a b V fa fb
  have kF := fun V => Frac.rmulF_any a.n a.d a.t b.n b.d b.t V fa.n fa.d fb.n fb.d
  have kD := fun V => Dims.radd_any a.D b.D V fa.D fb.D
  rw [← Frac.mul_eq a.n a.d a.t b.n b.d b.t fa.n fa.d fb.n fb.d] at kF
  have kP := put_any (Frac.mulG a.n a.d a.t b.n b.d b.t) (Dims.addG a.D b.D)
  have HR : Hid (mulW a b = if mayW a b ≠ 0 then (wZero, mayW a b) else putG (Frac.mulG a.n a.d a.t b.n b.d b.t) (Dims.addG a.D b.D)) := putW_may a b _ _
  generalize Frac.mulG a.n a.d a.t b.n b.d b.t = G at *
  generalize Dims.addG a.D b.D = P at *
  generalize mulW a b = R at *
  generalize putG G P = Q at *
  generalize mayW a b = m at *
  simp only [Wo.v, Wo.cs, zeros12, D7.v] at kE kD hA ⊢
  simp only [Frac.Got.r, gotV, gotW] at kF kD kP ⊢
  obtain ⟨c0, c1, c2, c3, c4, c5, c6, c7, c8, c9, c10⟩ := hA.2.1.cells
  obtain ⟨d0, d1, d2, d3, d4, d5, d6, d7, d8, d9, d10⟩ := hA.2.2.1.cells
  go_enter Tryz.func16, Tryz.ntmps16
  go_wp2_with fail
  refine (kE _).mono ?_
  rintro e w1 ⟨rfl, hb⟩
  replace hA := hA.go hb
  clear hb c0 c1 c2 c3 c4 c5 c6 c7 c8 c9 c10 d0 d1 d2 d3 d4 d5 d6 d7 d8 d9 d10 kE
  by_cases hm : m = 0
  · have e1 : (m != 0) = false := by simp [hm]
    rw [if_neg (by simp [hm])] at HR
    clear hm
    go_upto_region 4 with fail
    go_region_held3 (fun v => v.cell? ⟨w.heap.size, 0, none⟩ = some (.int .i64 a.n) ∧ v.cell? ⟨w.heap.size, 1, none⟩ = some (.int .i64 a.d) ∧ v.cell? ⟨w.heap.size, 2, none⟩ = some (.int .i64 a.t) ∧ v.cell? ⟨w.heap.size, 3, none⟩ = some (.int .i64 a.D.a0) ∧ v.cell? ⟨w.heap.size, 4, none⟩ = some (.int .i64 a.D.a1) ∧ v.cell? ⟨w.heap.size, 5, none⟩ = some (.int .i64 a.D.a2) ∧ v.cell? ⟨w.heap.size, 6, none⟩ = some (.int .i64 a.D.a3) ∧ v.cell? ⟨w.heap.size, 7, none⟩ = some (.int .i64 a.D.a4) ∧ v.cell? ⟨w.heap.size, 8, none⟩ = some (.int .i64 a.D.a5) ∧ v.cell? ⟨w.heap.size, 9, none⟩ = some (.int .i64 a.D.a6) ∧ v.cell? ⟨w.heap.size, 10, none⟩ = some (.int .i64 a.g) ∧ v.cell? ⟨w.heap.size + 1, 0, none⟩ = some (.int .i64 b.n) ∧ v.cell? ⟨w.heap.size + 1, 1, none⟩ = some (.int .i64 b.d) ∧ v.cell? ⟨w.heap.size + 1, 2, none⟩ = some (.int .i64 b.t) ∧ v.cell? ⟨w.heap.size + 1, 3, none⟩ = some (.int .i64 b.D.a0) ∧ v.cell? ⟨w.heap.size + 1, 4, none⟩ = some (.int .i64 b.D.a1) ∧ v.cell? ⟨w.heap.size + 1, 5, none⟩ = some (.int .i64 b.D.a2) ∧ v.cell? ⟨w.heap.size + 1, 6, none⟩ = some (.int .i64 b.D.a3) ∧ v.cell? ⟨w.heap.size + 1, 7, none⟩ = some (.int .i64 b.D.a4) ∧ v.cell? ⟨w.heap.size + 1, 8, none⟩ = some (.int .i64 b.D.a5) ∧ v.cell? ⟨w.heap.size + 1, 9, none⟩ = some (.int .i64 b.D.a6) ∧ v.cell? ⟨w.heap.size + 1, 10, none⟩ = some (.int .i64 b.g))
      (first | with_reducible exact hA.cells | with_reducible exact hA.drew.cells | (show TwoCells w _ a b; exact hA.cells12 _ _ _ _ _ _ _ _ _ _ _ _))
      (first
        | (go_at_call 48; refine (kF _).mono ?_; rintro e u ⟨rfl, hb⟩; (first | (replace hA := hA.go hb) | (replace hA := hA.drew.go hb)); clear hb)
        | (go_at_call 49; refine (kD _).mono ?_; rintro e u ⟨rfl, hb⟩; (first | (replace hA := hA.go hb) | (replace hA := hA.drew.go hb)); clear hb)
        | (go_at_call 12; refine (kP _).mono ?_; rintro e u ⟨rfl, hb⟩; (first | (replace hA := hA.go hb) | (replace hA := hA.drew.go hb)); clear hb kF kD kP; have hB := hA.1; have zf := hA.2.2.2.2.1; obtain ⟨z0, z1, z2, z3, z4, z5, z6, z7, z8, z9, z10, z11⟩ := LiesC.zeros hA.2.2.2))
    all_goals go_wp2
    all_goals refine bodyPost_ret (v := gotW Q) (by simp [results, Tryz.results16, go_sem, gotW, z0, z1, z2, z3, z4, z5, z6, z7, z8, z9, z10, z11]) rfl ⟨by rw [HR.out]; rfl, ?_⟩
    all_goals go_grown
  · have e1 : (m != 0) = true := by simpa using hm
    rw [if_pos hm] at HR
    clear hm
    obtain ⟨hB, _, _, hZ⟩ := id hA
    have zf := hZ.2.1
    obtain ⟨z0, z1, z2, z3, z4, z5, z6, z7, z8, z9, z10, z11⟩ := LiesC.zeros hZ
    clear hA hZ kF kD kP
    go_wp2
    refine bodyPost_ret (v := gotW (wZero, m)) (by simp [results, Tryz.results16, go_sem, gotW, wZero, dZero, z0, z1, z2, z3, z4, z5, z6, z7, z8, z9, z10, z11]) rfl ⟨by rw [HR.out]; rfl, ?_⟩
    go_grown

set_option maxRecDepth 100000 in
set_option maxHeartbeats 8000000 in
theorem rdiv_any (a b : Wo) (w : World) (fa : a.Fine) (fb : b.Fine) :
    Calls Tryz.prog 17 #[a.v, b.v] w fun e w' => e = .returned (gotW (divW a b)) ∧ Below w.heap.size w w' := by
  have hA := TwoZ.new w a b
  have kE := fun V => may_any a b V fa fb
  have kF := fun V => Frac.rdivF_any a.n a.d a.t b.n b.d b.t V fa.n fa.d fb.n fb.d
  have kD := fun V => Dims.rsub_any a.D b.D V fa.D fb.D
  rw [← Frac.div_eq a.n a.d a.t b.n b.d b.t fa.n fa.d fb.n fb.d] at kF
  have kP := put_any (Frac.divG a.n a.d a.t b.n b.d b.t) (Dims.subG a.D b.D)
  have HR : Hid (divW a b = if mayW a b ≠ 0 then (wZero, mayW a b) else putG (Frac.divG a.n a.d a.t b.n b.d b.t) (Dims.subG a.D b.D)) := putW_may a b _ _
  generalize Frac.divG a.n a.d a.t b.n b.d b.t = G at *
  generalize Dims.subG a.D b.D = P at *
  generalize divW a b = R at *
  generalize putG G P = Q at *
  generalize mayW a b = m at *
  simp only [Wo.v, Wo.cs, zeros12, D7.v] at kE kD hA ⊢
  simp only [Frac.Got.r, gotV, gotW] at kF kD kP ⊢
  obtain ⟨c0, c1, c2, c3, c4, c5, c6, c7, c8, c9, c10⟩ := hA.2.1.cells
  obtain ⟨d0, d1, d2, d3, d4, d5, d6, d7, d8, d9, d10⟩ := hA.2.2.1.cells
  go_enter Tryz.func17, Tryz.ntmps17
  go_wp2_with fail
  refine (kE _).mono ?_
  rintro e w1 ⟨rfl, hb⟩
  replace hA := hA.go hb
  clear hb c0 c1 c2 c3 c4 c5 c6 c7 c8 c9 c10 d0 d1 d2 d3 d4 d5 d6 d7 d8 d9 d10 kE
  by_cases hm : m = 0
  · have e1 : (m != 0) = false := by simp [hm]
    rw [if_neg (by simp [hm])] at HR
    clear hm
    go_upto_region 4 with fail
    go_region_held3 (fun v => v.cell? ⟨w.heap.size, 0, none⟩ = some (.int .i64 a.n) ∧ v.cell? ⟨w.heap.size, 1, none⟩ = some (.int .i64 a.d) ∧ v.cell? ⟨w.heap.size, 2, none⟩ = some (.int .i64 a.t) ∧ v.cell? ⟨w.heap.size, 3, none⟩ = some (.int .i64 a.D.a0) ∧ v.cell? ⟨w.heap.size, 4, none⟩ = some (.int .i64 a.D.a1) ∧ v.cell? ⟨w.heap.size, 5, none⟩ = some (.int .i64 a.D.a2) ∧ v.cell? ⟨w.heap.size, 6, none⟩ = some (.int .i64 a.D.a3) ∧ v.cell? ⟨w.heap.size, 7, none⟩ = some (.int .i64 a.D.a4) ∧ v.cell? ⟨w.heap.size, 8, none⟩ = some (.int .i64 a.D.a5) ∧ v.cell? ⟨w.heap.size, 9, none⟩ = some (.int .i64 a.D.a6) ∧ v.cell? ⟨w.heap.size, 10, none⟩ = some (.int .i64 a.g) ∧ v.cell? ⟨w.heap.size + 1, 0, none⟩ = some (.int .i64 b.n) ∧ v.cell? ⟨w.heap.size + 1, 1, none⟩ = some (.int .i64 b.d) ∧ v.cell? ⟨w.heap.size + 1, 2, none⟩ = some (.int .i64 b.t) ∧ v.cell? ⟨w.heap.size + 1, 3, none⟩ = some (.int .i64 b.D.a0) ∧ v.cell? ⟨w.heap.size + 1, 4, none⟩ = some (.int .i64 b.D.a1) ∧ v.cell? ⟨w.heap.size + 1, 5, none⟩ = some (.int .i64 b.D.a2) ∧ v.cell? ⟨w.heap.size + 1, 6, none⟩ = some (.int .i64 b.D.a3) ∧ v.cell? ⟨w.heap.size + 1, 7, none⟩ = some (.int .i64 b.D.a4) ∧ v.cell? ⟨w.heap.size + 1, 8, none⟩ = some (.int .i64 b.D.a5) ∧ v.cell? ⟨w.heap.size + 1, 9, none⟩ = some (.int .i64 b.D.a6) ∧ v.cell? ⟨w.heap.size + 1, 10, none⟩ = some (.int .i64 b.g))
      (first | with_reducible exact hA.cells | with_reducible exact hA.drew.cells | (show TwoCells w _ a b; exact hA.cells12 _ _ _ _ _ _ _ _ _ _ _ _))
      (first
        | (go_at_call 50; refine (kF _).mono ?_; rintro e u ⟨rfl, hb⟩; (first | (replace hA := hA.go hb) | (replace hA := hA.drew.go hb)); clear hb)
        | (go_at_call 49; refine (kD _).mono ?_; rintro e u ⟨rfl, hb⟩; (first | (replace hA := hA.go hb) | (replace hA := hA.drew.go hb)); clear hb)
        | (go_at_call 12; refine (kP _).mono ?_; rintro e u ⟨rfl, hb⟩; (first | (replace hA := hA.go hb) | (replace hA := hA.drew.go hb)); clear hb kF kD kP; have hB := hA.1; have zf := hA.2.2.2.2.1; obtain ⟨z0, z1, z2, z3, z4, z5, z6, z7, z8, z9, z10, z11⟩ := LiesC.zeros hA.2.2.2))
    all_goals go_wp2
    all_goals refine bodyPost_ret (v := gotW Q) (by simp [results, Tryz.results17, go_sem, gotW, z0, z1, z2, z3, z4, z5, z6, z7, z8, z9, z10, z11]) rfl ⟨by rw [HR.out]; rfl, ?_⟩
    all_goals go_grown
  · have e1 : (m != 0) = true := by simpa using hm
    rw [if_pos hm] at HR
    clear hm
    obtain ⟨hB, _, _, hZ⟩ := id hA
    have zf := hZ.2.1
    obtain ⟨z0, z1, z2, z3, z4, z5, z6, z7, z8, z9, z10, z11⟩ := LiesC.zeros hZ
    clear hA hZ kF kD kP
    go_wp2
    refine bodyPost_ret (v := gotW (wZero, m)) (by simp [results, Tryz.results17, go_sem, gotW, wZero, dZero, z0, z1, z2, z3, z4, z5, z6, z7, z8, z9, z10, z11]) rfl ⟨by rw [HR.out]; rfl, ?_⟩
    go_grown

set_option maxRecDepth 100000 in
set_option maxHeartbeats 8000000 in
theorem rpow_any (a : Wo) (n : Int) (w : World) (fa : a.Fine) (n0 : -9223372036854775808 ≤ n) (n1 : n ≤ 9223372036854775807) :
    Calls Tryz.prog 18 #[a.v, .int .i64 n] w fun e w' => e = .returned (gotW (powW a n)) ∧ Below w.heap.size w w' := by
  have hA := OneZ.new w a
  have kE := fun V => may_any a a V fa fa
  have kF := fun V => Frac.rpow_any a.n a.d a.t n V fa.n fa.d
  have kD := fun V => Dims.rtimes_any a.D n V fa.D n0 n1
  rw [← Frac.pow_eq a.n a.d a.t n fa.n fa.d] at kF
  have kP := put_any (Frac.powG a.n a.d a.t n) (Dims.timesG a.D n)
  have HR : Hid (powW a n = if n < -99 ∨ 99 < n then (wZero, 1) else if mayW a a ≠ 0 then (wZero, mayW a a) else putG (Frac.powG a.n a.d a.t n) (Dims.timesG a.D n)) := by
    show _ = _
    unfold powW
    rw [putW_may]
  have hin := mayW_in a a
  generalize Frac.powG a.n a.d a.t n = G at *
  generalize Dims.timesG a.D n = P at *
  generalize powW a n = R at *
  generalize putG G P = Q at *
  generalize mayW a a = m at *
  simp only [Wo.v, Wo.cs, zeros12, D7.v] at kE kD hA ⊢
  simp only [Frac.Got.r, gotV, gotW] at kF kD kP ⊢
  obtain ⟨c0, c1, c2, c3, c4, c5, c6, c7, c8, c9, c10⟩ := hA.2.1.cells
  go_enter Tryz.func18, Tryz.ntmps18
  go_wp2_with fail
  refine (kE _).mono ?_
  rintro e w1 ⟨rfl, hb⟩
  replace hA := hA.go hb
  clear hb c0 c1 c2 c3 c4 c5 c6 c7 c8 c9 c10 kE
  by_cases hn : n < -99 ∨ 99 < n
  · rw [if_pos hn] at HR
    obtain ⟨hB, _, hZ⟩ := id hA
    have zf := hZ.2.1
    obtain ⟨z0, z1, z2, z3, z4, z5, z6, z7, z8, z9, z10, z11⟩ := LiesC.zeros hZ
    clear hA hZ kF kD kP
    by_cases h1 : m = 1
    · have e1 : (m == 1) = true := by simp [h1]
      clear h1 hin
      go_wp2
      refine bodyPost_ret (v := gotW (wZero, 1)) (by simp [results, Tryz.results18, go_sem, gotW, wZero, dZero, z0, z1, z2, z3, z4, z5, z6, z7, z8, z9, z10, z11]) rfl ⟨by rw [HR.out]; rfl, ?_⟩
      go_grown
    · have e1 : (m == 1) = false := by simpa using h1
      clear h1 hin
      rcases hn with hn | hn
      · have t1 : decide (n < -99) = true := by simpa using hn
        go_wp2
        refine bodyPost_ret (v := gotW (wZero, 1)) (by simp [results, Tryz.results18, go_sem, gotW, wZero, dZero, z0, z1, z2, z3, z4, z5, z6, z7, z8, z9, z10, z11]) rfl ⟨by rw [HR.out]; rfl, ?_⟩
        go_grown
      · have t1 : decide (n < -99) = false := by simp; omega
        have t2 : decide (99 < n) = true := by simpa using hn
        go_wp2
        refine bodyPost_ret (v := gotW (wZero, 1)) (by simp [results, Tryz.results18, go_sem, gotW, wZero, dZero, z0, z1, z2, z3, z4, z5, z6, z7, z8, z9, z10, z11]) rfl ⟨by rw [HR.out]; rfl, ?_⟩
        go_grown
  · rw [if_neg hn] at HR
    have t1 : -99 ≤ n := by omega
    have t2 : n ≤ 99 := by omega
    clear hn
    rcases hin with rfl | rfl | rfl
    · rw [if_neg (by simp)] at HR
      go_upto_region 6 with fail
      go_region_held3 (fun v => v.cell? ⟨w.heap.size, 0, none⟩ = some (.int .i64 a.n) ∧ v.cell? ⟨w.heap.size, 1, none⟩ = some (.int .i64 a.d) ∧ v.cell? ⟨w.heap.size, 2, none⟩ = some (.int .i64 a.t) ∧ v.cell? ⟨w.heap.size, 3, none⟩ = some (.int .i64 a.D.a0) ∧ v.cell? ⟨w.heap.size, 4, none⟩ = some (.int .i64 a.D.a1) ∧ v.cell? ⟨w.heap.size, 5, none⟩ = some (.int .i64 a.D.a2) ∧ v.cell? ⟨w.heap.size, 6, none⟩ = some (.int .i64 a.D.a3) ∧ v.cell? ⟨w.heap.size, 7, none⟩ = some (.int .i64 a.D.a4) ∧ v.cell? ⟨w.heap.size, 8, none⟩ = some (.int .i64 a.D.a5) ∧ v.cell? ⟨w.heap.size, 9, none⟩ = some (.int .i64 a.D.a6) ∧ v.cell? ⟨w.heap.size, 10, none⟩ = some (.int .i64 a.g))
        (first | with_reducible exact hA.cells | with_reducible exact hA.drew.cells | (show OneCells w _ a; exact hA.cells12 _ _ _ _ _ _ _ _ _ _ _ _))
        (first
          | (go_at_call 51; refine (kF _).mono ?_; rintro e u ⟨rfl, hb⟩; (first | (replace hA := hA.go hb) | (replace hA := hA.drew.go hb)); clear hb)
          | (go_at_call 52; refine (kD _).mono ?_; rintro e u ⟨rfl, hb⟩; (first | (replace hA := hA.go hb) | (replace hA := hA.drew.go hb)); clear hb)
          | (go_at_call 12; refine (kP _).mono ?_; rintro e u ⟨rfl, hb⟩; (first | (replace hA := hA.go hb) | (replace hA := hA.drew.go hb)); clear hb kF kD kP; have hB := hA.1; have zf := hA.2.2.2.1; obtain ⟨z0, z1, z2, z3, z4, z5, z6, z7, z8, z9, z10, z11⟩ := LiesC.zeros hA.2.2))
      all_goals go_wp2
      all_goals refine bodyPost_ret (v := gotW Q) (by simp [results, Tryz.results18, go_sem, gotW, z0, z1, z2, z3, z4, z5, z6, z7, z8, z9, z10, z11]) rfl ⟨by rw [HR.out]; rfl, ?_⟩
      all_goals go_grown
    · rw [if_pos (by decide)] at HR
      obtain ⟨hB, _, hZ⟩ := id hA
      have zf := hZ.2.1
      obtain ⟨z0, z1, z2, z3, z4, z5, z6, z7, z8, z9, z10, z11⟩ := LiesC.zeros hZ
      clear hA hZ kF kD kP
      go_wp2
      refine bodyPost_ret (v := gotW (wZero, 1)) (by simp [results, Tryz.results18, go_sem, gotW, wZero, dZero, z0, z1, z2, z3, z4, z5, z6, z7, z8, z9, z10, z11]) rfl ⟨by rw [HR.out]; rfl, ?_⟩
      go_grown
    · rw [if_pos (by decide)] at HR
      obtain ⟨hB, _, hZ⟩ := id hA
      have zf := hZ.2.1
      obtain ⟨z0, z1, z2, z3, z4, z5, z6, z7, z8, z9, z10, z11⟩ := LiesC.zeros hZ
      clear hA hZ kF kD kP
      go_wp2
      refine bodyPost_ret (v := gotW (wZero, 18)) (by simp [results, Tryz.results18, go_sem, gotW, wZero, dZero, z0, z1, z2, z3, z4, z5, z6, z7, z8, z9, z10, z11]) rfl ⟨by rw [HR.out]; rfl, ?_⟩
      go_grown

end Go.Proofs.YtndinbefljajcaaGreatDoor.Worth

/-
  Contracts of frac.Mul, Div, Pow, each by one Lean function of the numbers; the world below stays as it was. Contract of frac.Div, by one Lean function of the numbers; the world below stays as it was. Contract of frac.Pow, by one Lean function of the numbers; the world below stays as it was.
-/
import Derived.Test.YtpmibcdmaaagjaaDoorFA
import Derived.Deep.RegionHeld3
namespace Go.Proofs.YtpmibcdmaaagjaaDoor.Frac
open Go.RowKit
open Go.Proofs.YtpmibcdmaaagjaaDoor.Whole
set_option linter.unusedVariables false
set_option linter.unusedSimpArgs false

/-- In the world v the block b holds a frac. -/
def LiesF (v : World) (b : Nat) (n d t : Int) : Prop := v.cell? ⟨b, 0, none⟩ = some (.int .i64 n) ∧ v.cell? ⟨b, 1, none⟩ = some (.int .i64 d) ∧ v.cell? ⟨b, 2, none⟩ = some (.int .i64 t) ∧ b < v.heap.size

theorem LiesF.below {v v' : World} {b B : Nat} {n d t : Int} (h : LiesF v b n d t) (hb : Below B v v') (hB : b < B) : LiesF v' b n d t := by
  obtain ⟨h0, h1, h2, hz⟩ := h
  exact ⟨(hb.cell (p := ⟨b, 0, none⟩) hB).trans h0, (hb.cell (p := ⟨b, 1, none⟩) hB).trans h1, (hb.cell (p := ⟨b, 2, none⟩) hB).trans h2, by have := hb.size; omega⟩

/-- How the world stands within Mul and Div: both arguments in boxes, and room for the result. -/
def TwoAt (w v : World) (n1 d1 t1 n2 d2 t2 : Int) : Prop := Below w.heap.size w v ∧ LiesF v w.heap.size n1 d1 t1 ∧ LiesF v (w.heap.size + 1) n2 d2 t2 ∧ Room v (w.heap.size + 1 + 1)

theorem TwoAt.below {w v v' : World} {n1 d1 t1 n2 d2 t2 : Int} (h : TwoAt w v n1 d1 t1 n2 d2 t2) (hb : Below v.heap.size v v') : TwoAt w v' n1 d1 t1 n2 d2 t2 := by
  obtain ⟨h1, h2, h3, h4⟩ := h
  exact ⟨Below.go h1 hb, h2.below hb h2.2.2.2, h3.below hb h3.2.2.2, h4.below hb h4.2.2.2.2⟩

theorem TwoAt.drew {w v : World} {n1 d1 t1 n2 d2 t2 : Int} (h : TwoAt w v n1 d1 t1 n2 d2 t2) : TwoAt w v.drew n1 d1 t1 n2 d2 t2 := h.below (by go_grown)

theorem TwoAt.new (w : World) (n1 d1 t1 n2 d2 t2 : Int) : TwoAt w (((w.alloc (.cells #[.int .i64 n1, .int .i64 d1, .int .i64 t1] 67)).alloc (.cells #[.int .i64 n2, .int .i64 d2, .int .i64 t2] 67)).alloc (.cells #[.int .i64 0, .int .i64 0, .int .i64 0] 67)) n1 d1 t1 n2 d2 t2 := by
  refine ⟨by go_grown, ⟨?_, ?_, ?_, ?_⟩, ⟨?_, ?_, ?_, ?_⟩, ⟨?_, ?_, ?_, fun j => ?_, ?_⟩⟩
  all_goals simp [go_sem]

/-- The cells that Mul and Div read. -/
theorem TwoAt.cells {w v : World} {n1 d1 t1 n2 d2 t2 : Int} (h : TwoAt w v n1 d1 t1 n2 d2 t2) :
    v.cell? ⟨w.heap.size, 0, none⟩ = some (.int .i64 n1) ∧ v.cell? ⟨w.heap.size, 1, none⟩ = some (.int .i64 d1) ∧ v.cell? ⟨w.heap.size, 2, none⟩ = some (.int .i64 t1) ∧ v.cell? ⟨w.heap.size + 1, 0, none⟩ = some (.int .i64 n2) ∧ v.cell? ⟨w.heap.size + 1, 1, none⟩ = some (.int .i64 d2) ∧ v.cell? ⟨w.heap.size + 1, 2, none⟩ = some (.int .i64 t2) := by
  obtain ⟨_, ⟨h1, h2, h3, _⟩, ⟨h4, h5, h6, _⟩, _⟩ := h
  exact ⟨h1, h2, h3, h4, h5, h6⟩

theorem times_at (p : Pt) (w : World) :
    Calls Tryd.prog 49 #[p.v] w fun e w' => e = .returned (.func (.func 56) #[] #[.pointer (some ⟨w.heap.size, 0, none⟩)]) ∧ Lies w' w.heap.size p ∧ Below w.heap.size w w' := by
  refine (times_yes p.n p.d p.e2 p.e5 w).mono ?_
  rintro e w' ⟨rfl, rfl⟩
  exact ⟨rfl, Lies.new w p, by go_grown⟩

end Go.Proofs.YtpmibcdmaaagjaaDoor.Frac

namespace Go.Proofs.YtpmibcdmaaagjaaDoor.Frac
open Go.RowKit
open Go.Proofs.YtpmibcdmaaagjaaDoor.Whole
set_option linter.unusedVariables false
set_option linter.unusedSimpArgs false

end Go.Proofs.YtpmibcdmaaagjaaDoor.Frac

namespace Go.Proofs.YtpmibcdmaaagjaaDoor.Frac
open Go.RowKit
open Go.Proofs.YtpmibcdmaaagjaaDoor.Whole
set_option linter.unusedVariables false
set_option linter.unusedSimpArgs false

/-- How the world stands within Pow: its argument in a box, and room for the result. -/
def OneAt (w v : World) (n d t : Int) : Prop := Below w.heap.size w v ∧ LiesF v w.heap.size n d t ∧ Room v (w.heap.size + 1)

theorem OneAt.below {w v v' : World} {n d t : Int} (h : OneAt w v n d t) (hb : Below v.heap.size v v') : OneAt w v' n d t := by
  obtain ⟨h1, h2, h3⟩ := h
  exact ⟨Below.go h1 hb, h2.below hb h2.2.2.2, h3.below hb h3.2.2.2.2⟩

theorem OneAt.drew {w v : World} {n d t : Int} (h : OneAt w v n d t) : OneAt w v.drew n d t := h.below (by go_grown)

theorem OneAt.new (w : World) (n d t : Int) : OneAt w ((w.alloc (.cells #[.int .i64 n, .int .i64 d, .int .i64 t] 67)).alloc (.cells #[.int .i64 0, .int .i64 0, .int .i64 0] 67)) n d t := by
  refine ⟨by go_grown, ⟨?_, ?_, ?_, ?_⟩, ⟨?_, ?_, ?_, fun j => ?_, ?_⟩⟩
  all_goals simp [go_sem]

theorem OneAt.cells {w v : World} {n d t : Int} (h : OneAt w v n d t) :
    v.cell? ⟨w.heap.size, 0, none⟩ = some (.int .i64 n) ∧ v.cell? ⟨w.heap.size, 1, none⟩ = some (.int .i64 d) ∧ v.cell? ⟨w.heap.size, 2, none⟩ = some (.int .i64 t) := by
  obtain ⟨_, ⟨h1, h2, h3, _⟩, _⟩ := h
  exact ⟨h1, h2, h3⟩

theorem join_int (x y : Pt) (k : Int) (b : Nat) (w : World) (hT : OfTen w) (hy : Lies w b y) (hx : x.Ok 4000) (ho : y.Ok 4000) (hk0 : 0 ≤ k) (hk : k ≤ 99) :
    Calls Tryd.prog 47 #[x.v, .int .i64 k, .func (.func 56) #[] #[.pointer (some ⟨b, 0, none⟩)]] w fun e w' => e = .returned (joinP x k.toNat y).v ∧ Below w.heap.size w w' := by
  obtain ⟨m, rfl⟩ := Int.eq_ofNat_of_zero_le hk0
  exact join_any x y m b w hT hy hx ho (by omega)

end Go.Proofs.YtpmibcdmaaagjaaDoor.Frac


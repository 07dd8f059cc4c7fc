/-
  The walk of drachmlaw02.FracMakes: it returns true, whatever its arguments are; the world below stays as it was.
-/
import Derived.Test.YtjklbnakgkffnaaDoorG3
import Derived.Test.YtjklbnakgkffnaaDoorGN
namespace Go.Proofs.YtjklbnakgkffnaaDoor.Frac
open Go.RowKit
open Go.Proofs.YtjklbnakgkffnaaDoor.Whole
set_option linter.unusedVariables false
set_option linter.unusedSimpArgs false

/-- In the world v the block b holds the document's answer. -/
def LiesG (v : World) (b : Nat) (g : Got) : Prop := v.cell? ⟨b, 0, none⟩ = some (.int .i64 g.n) ∧ v.cell? ⟨b, 1, none⟩ = some (.int .i64 g.d) ∧ v.cell? ⟨b, 2, none⟩ = some (.int .i64 g.t) ∧ v.cell? ⟨b, 3, none⟩ = some (.int .i64 g.e) ∧ b < v.heap.size

theorem LiesG.below {v v' : World} {b B : Nat} {g : Got} (h : LiesG v b g) (hb : Below B v v') (hB : b < B) : LiesG v' b g := by
  obtain ⟨h0, h1, h2, h3, hz⟩ := h
  exact ⟨(hb.cell (p := ⟨b, 0, none⟩) hB).trans h0, (hb.cell (p := ⟨b, 1, none⟩) hB).trans h1, (hb.cell (p := ⟨b, 2, none⟩) hB).trans h2, (hb.cell (p := ⟨b, 3, none⟩) hB).trans h3, by have := hb.size; omega⟩

theorem LiesG.new (v : World) (g : Got) : LiesG (v.alloc (.cells #[.int .i64 g.n, .int .i64 g.d, .int .i64 g.t, .int .i64 g.e] 30)) v.heap.size g := by
  refine ⟨?_, ?_, ?_, ?_, ?_⟩
  all_goals simp [go_sem]

/-- How the world stands at the end of FracMakes. -/
def MakesAt (w v : World) (b1 b2 : Nat) (G : Got) (r0 r1 r2 : Int) : Prop := Below w.heap.size w v ∧ LiesF v b1 G.n G.d G.t ∧ LiesG v b2 G ∧ LiesF v (w.heap.size + 1) r0 r1 r2

theorem MakesAt.below {w v v' : World} {b1 b2 : Nat} {G : Got} {r0 r1 r2 : Int} (h : MakesAt w v b1 b2 G r0 r1 r2) (hb : Below v.heap.size v v') : MakesAt w v' b1 b2 G r0 r1 r2 := by
  obtain ⟨h1, h2, h3, h4⟩ := h
  exact ⟨Below.go h1 hb, h2.go hb, h3.below hb h3.2.2.2.2, h4.go hb⟩

theorem MakesAt.drew {w v : World} {b1 b2 : Nat} {G : Got} {r0 r1 r2 : Int} (h : MakesAt w v b1 b2 G r0 r1 r2) : MakesAt w v.drew b1 b2 G r0 r1 r2 := h.below (by go_grown)

theorem MakesAt.cells {w v : World} {b1 b2 : Nat} {G : Got} {r0 r1 r2 : Int} (h : MakesAt w v b1 b2 G r0 r1 r2) :
    v.cell? ⟨b1, 0, none⟩ = some (.int .i64 G.n) ∧ v.cell? ⟨b1, 1, none⟩ = some (.int .i64 G.d) ∧ v.cell? ⟨b1, 2, none⟩ = some (.int .i64 G.t) ∧ v.cell? ⟨b2, 0, none⟩ = some (.int .i64 G.n) ∧ v.cell? ⟨b2, 1, none⟩ = some (.int .i64 G.d) ∧ v.cell? ⟨b2, 2, none⟩ = some (.int .i64 G.t) ∧ v.cell? ⟨b2, 3, none⟩ = some (.int .i64 G.e) ∧ v.cell? ⟨w.heap.size + 1, 0, none⟩ = some (.int .i64 r0) ∧ v.cell? ⟨w.heap.size + 1, 1, none⟩ = some (.int .i64 r1) ∧ v.cell? ⟨w.heap.size + 1, 2, none⟩ = some (.int .i64 r2) := by
  obtain ⟨_, ⟨a0, a1, a2, _⟩, ⟨c0, c1, c2, c3, _⟩, ⟨d0, d1, d2, _⟩⟩ := h
  exact ⟨a0, a1, a2, c0, c1, c2, c3, d0, d1, d2⟩

theorem make_dsmall (num den ten : Int) (h1 : num ≤ 9223372036854775807) (h2 : den ≤ 9223372036854775807) : (makeG num den ten).d ≤ 9223372036854775807 := by
  by_cases he : (makeG num den ten).e = 0
  · exact (make_fine num den ten h1 h2 he).2.2.1
  · by_cases ha : num < -9223372036854775807 ∨ den < -9223372036854775807
    · have : makeG num den ten = ⟨0, 0, 0, 1⟩ := by unfold makeG; rw [if_pos ha]
      rw [this]; decide
    by_cases hd : den = 0
    · have : makeG num den ten = ⟨0, 0, 0, 11⟩ := by unfold makeG; rw [if_neg ha, if_pos hd]
      rw [this]; decide
    by_cases hn : num = 0
    · subst hn
      rw [make_of_zero den ten (by omega) hd]; decide
    rw [make_canon num den ten (by omega) (by omega) hn hd] at *
    rw [form_over _ he]; decide
end Go.Proofs.YtjklbnakgkffnaaDoor.Frac

/-
  The walk of drachmlaw02.FracMakes: it returns true, whatever its arguments are; the world below stays as it was. Contract of (drachmlaw02.Spec).frac: a right frac; the world below stays as it was. The walk of drachmlaw02.FracBack: it returns true, whatever its arguments are; the world below stays as it was.
-/
import Derived.Test.YtndinbefljajcaaGreatDoorGA
import Derived.Test.YtndinbefljajcaaGreatDoorFP
namespace Go.Proofs.YtndinbefljajcaaGreatDoor.Frac
open Go.RowKit
open Go.Proofs.YtndinbefljajcaaGreatDoor.Whole
set_option linter.unusedVariables false
set_option linter.unusedSimpArgs false

/-- In the world v the block b holds the document's answer. -/
def LiesG (v : World) (b : Nat) (g : Got) : Prop := v.cell? ⟨b, 0, none⟩ = some (.int .i64 g.n) ∧ v.cell? ⟨b, 1, none⟩ = some (.int .i64 g.d) ∧ v.cell? ⟨b, 2, none⟩ = some (.int .i64 g.t) ∧ v.cell? ⟨b, 3, none⟩ = some (.int .i64 g.e) ∧ b < v.heap.size

theorem LiesG.below {v v' : World} {b B : Nat} {g : Got} (h : LiesG v b g) (hb : Below B v v') (hB : b < B) : LiesG v' b g := by
  obtain ⟨h0, h1, h2, h3, hz⟩ := h
  exact ⟨(hb.cell (p := ⟨b, 0, none⟩) hB).trans h0, (hb.cell (p := ⟨b, 1, none⟩) hB).trans h1, (hb.cell (p := ⟨b, 2, none⟩) hB).trans h2, (hb.cell (p := ⟨b, 3, none⟩) hB).trans h3, by have := hb.size; omega⟩

theorem LiesG.new (v : World) (g : Got) : LiesG (v.alloc (.cells #[.int .i64 g.n, .int .i64 g.d, .int .i64 g.t, .int .i64 g.e] 49)) v.heap.size g := by
  refine ⟨?_, ?_, ?_, ?_, ?_⟩
  all_goals simp [go_sem]

/-- How the world stands at the end of FracMakes. -/
def MakesAt (w v : World) (b1 b2 : Nat) (G : Got) (r0 r1 r2 : Int) : Prop := Below w.heap.size w v ∧ LiesF v b1 G.n G.d G.t ∧ LiesG v b2 G ∧ LiesF v (w.heap.size + 1) r0 r1 r2

theorem MakesAt.below {w v v' : World} {b1 b2 : Nat} {G : Got} {r0 r1 r2 : Int} (h : MakesAt w v b1 b2 G r0 r1 r2) (hb : Below v.heap.size v v') : MakesAt w v' b1 b2 G r0 r1 r2 := by
  obtain ⟨h1, h2, h3, h4⟩ := h
  exact ⟨Below.go h1 hb, h2.go hb, h3.below hb h3.2.2.2.2, h4.go hb⟩

theorem MakesAt.drew {w v : World} {b1 b2 : Nat} {G : Got} {r0 r1 r2 : Int} (h : MakesAt w v b1 b2 G r0 r1 r2) : MakesAt w v.drew b1 b2 G r0 r1 r2 := h.below (by go_grown)

theorem MakesAt.cells {w v : World} {b1 b2 : Nat} {G : Got} {r0 r1 r2 : Int} (h : MakesAt w v b1 b2 G r0 r1 r2) :
    v.cell? ⟨b1, 0, none⟩ = some (.int .i64 G.n) ∧ v.cell? ⟨b1, 1, none⟩ = some (.int .i64 G.d) ∧ v.cell? ⟨b1, 2, none⟩ = some (.int .i64 G.t) ∧ v.cell? ⟨b2, 0, none⟩ = some (.int .i64 G.n) ∧ v.cell? ⟨b2, 1, none⟩ = some (.int .i64 G.d) ∧ v.cell? ⟨b2, 2, none⟩ = some (.int .i64 G.t) ∧ v.cell? ⟨b2, 3, none⟩ = some (.int .i64 G.e) ∧ v.cell? ⟨w.heap.size + 1, 0, none⟩ = some (.int .i64 r0) ∧ v.cell? ⟨w.heap.size + 1, 1, none⟩ = some (.int .i64 r1) ∧ v.cell? ⟨w.heap.size + 1, 2, none⟩ = some (.int .i64 r2) := by
  obtain ⟨_, ⟨a0, a1, a2, _⟩, ⟨c0, c1, c2, c3, _⟩, ⟨d0, d1, d2, _⟩⟩ := h
  exact ⟨a0, a1, a2, c0, c1, c2, c3, d0, d1, d2⟩

theorem make_dsmall (num den ten : Int) (h1 : num ≤ 9223372036854775807) (h2 : den ≤ 9223372036854775807) : (makeG num den ten).d ≤ 9223372036854775807 := by
  by_cases he : (makeG num den ten).e = 0
  · exact (make_fine num den ten h1 h2 he).2.2.1
  · by_cases ha : num < -9223372036854775807 ∨ den < -9223372036854775807
    · have : makeG num den ten = ⟨0, 0, 0, 1⟩ := by unfold makeG; rw [if_pos ha]
      rw [this]; decide
    by_cases hd : den = 0
    · have : makeG num den ten = ⟨0, 0, 0, 11⟩ := by unfold makeG; rw [if_neg ha, if_pos hd]
      rw [this]; decide
    by_cases hn : num = 0
    · subst hn
      rw [make_of_zero den ten (by omega) hd]; decide
    rw [make_canon num den ten (by omega) (by omega) hn hd] at *
    rw [form_over _ he]; decide

end Go.Proofs.YtndinbefljajcaaGreatDoor.Frac

namespace Go.Proofs.YtndinbefljajcaaGreatDoor.Frac
open Go.RowKit
open Go.Proofs.YtndinbefljajcaaGreatDoor.Whole
set_option linter.unusedVariables false
set_option linter.unusedSimpArgs false

/-- The form of a number by plain numbers; 1, if there is none. -/
def specG (a b c : Int) : Got := if (makeG a b c).e = 0 then makeG a b c else ⟨1, 1, 0, 0⟩

theorem one_right : rightB 1 1 0 = true := by
  rw [right_eq 1 1 0 (by omega) (by omega)]; decide

theorem spec_right (a b c : Int) (h1 : a ≤ 9223372036854775807) (h2 : b ≤ 9223372036854775807) : rightB (specG a b c).n (specG a b c).d (specG a b c).t = true ∧ (specG a b c).e = 0 := by
  unfold specG
  by_cases he : (makeG a b c).e = 0
  · rw [if_pos he, make_right a b c h1 h2, he]; exact ⟨rfl, rfl⟩
  · rw [if_neg he]; exact ⟨one_right, rfl⟩

end Go.Proofs.YtndinbefljajcaaGreatDoor.Frac

namespace Go.Proofs.YtndinbefljajcaaGreatDoor.Frac
open Go.RowKit
open Go.Proofs.YtndinbefljajcaaGreatDoor.Whole
set_option linter.unusedVariables false
set_option linter.unusedSimpArgs false

theorem spec_small (a b c : Int) (h1 : a ≤ 9223372036854775807) (h2 : b ≤ 9223372036854775807) : (specG a b c).n ≤ 9223372036854775807 ∧ (specG a b c).d ≤ 9223372036854775807 := by
  unfold specG
  by_cases he : (makeG a b c).e = 0
  · rw [if_pos he]; exact ⟨by have := make_small a b c; omega, make_dsmall a b c h1 h2⟩
  · rw [if_neg he]; decide

theorem mulG_fine (n1 d1 t1 n2 d2 t2 : Int) (h1 : n1 ≤ 9223372036854775807) (h2 : d1 ≤ 9223372036854775807) (h3 : n2 ≤ 9223372036854775807) (h4 : d2 ≤ 9223372036854775807) (r1 : rightB n1 d1 t1 = true) (r2 : rightB n2 d2 t2 = true) : (mulG n1 d1 t1 n2 d2 t2).Fine := by
  have f1 := right_fine h1 h2 r1
  have f2 := right_fine h3 h4 r2
  unfold mulG; rw [if_neg (by rw [r1, r2]; simp)]
  exact join_fine (parts_ok n2 d2 t2 f2.1 f2.2.1 f2.2.2.1 (by omega) (by omega)) 1 (parts_ok n1 d1 t1 f1.1 f1.2.1 f1.2.2.1 (by omega) (by omega))

theorem zero_right : rightB 0 1 0 = true := by rw [right_eq _ _ _ (by omega) (by omega)]; decide

theorem div_zero_is (n d t : Int) (r : rightB n d t = true) : divG n d t 0 1 0 = ⟨0, 0, 0, 11⟩ := by
  unfold divG; rw [if_neg (by rw [r, zero_right]; simp), if_pos rfl]

/-- In the world v the block b holds six whole numbers. -/
def Lies6 (v : World) (b : Nat) (a0 a1 a2 a3 a4 a5 : Int) : Prop := v.cell? ⟨b, 0, none⟩ = some (.int .i64 a0) ∧ v.cell? ⟨b, 1, none⟩ = some (.int .i64 a1) ∧ v.cell? ⟨b, 2, none⟩ = some (.int .i64 a2) ∧ v.cell? ⟨b, 3, none⟩ = some (.int .i64 a3) ∧ v.cell? ⟨b, 4, none⟩ = some (.int .i64 a4) ∧ v.cell? ⟨b, 5, none⟩ = some (.int .i64 a5) ∧ b < v.heap.size
theorem Lies6.go {v v1 : World} {b : Nat} {a0 a1 a2 a3 a4 a5 : Int} (h : Lies6 v b a0 a1 a2 a3 a4 a5) (hb : Below v.heap.size v v1) : Lies6 v1 b a0 a1 a2 a3 a4 a5 := by
  obtain ⟨h0, h1, h2, h3, h4, h5, hz⟩ := h
  exact ⟨(hb.cell (p := ⟨b, 0, none⟩) hz).trans h0, (hb.cell (p := ⟨b, 1, none⟩) hz).trans h1, (hb.cell (p := ⟨b, 2, none⟩) hz).trans h2, (hb.cell (p := ⟨b, 3, none⟩) hz).trans h3, (hb.cell (p := ⟨b, 4, none⟩) hz).trans h4, (hb.cell (p := ⟨b, 5, none⟩) hz).trans h5, by have := hb.size; omega⟩
theorem Lies6.put {v : World} {b : Nat} {a0 a1 a2 a3 a4 a5 : Int} (h : Lies6 v b a0 a1 a2 a3 a4 a5) (o : Obj) : Lies6 (v.alloc o) b a0 a1 a2 a3 a4 a5 := h.go (by go_grown)

end Go.Proofs.YtndinbefljajcaaGreatDoor.Frac


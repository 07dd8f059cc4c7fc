/-
  The walk of drachmlaw02.FracMakes: it returns true, whatever its arguments are; the world below stays as it was.
-/
import Derived.Test.YtfpopppapjfelaaDoorG3
import Derived.Test.YtfpopppapjfelaaDoorGN
namespace Go.Proofs.YtfpopppapjfelaaDoor.Frac
open Go.RowKit
open Go.Proofs.YtfpopppapjfelaaDoor.Whole
set_option linter.unusedVariables false

/-- In the world v the block b holds the document's answer. -/
def LiesG (v : World) (b : Nat) (g : Got) : Prop := v.cell? ⟨b, 0, none⟩ = some (.int .i64 g.n) ∧ v.cell? ⟨b, 1, none⟩ = some (.int .i64 g.d) ∧ v.cell? ⟨b, 2, none⟩ = some (.int .i64 g.t) ∧ v.cell? ⟨b, 3, none⟩ = some (.int .i64 g.e) ∧ b < v.heap.size

theorem LiesG.below {v v' : World} {b B : Nat} {g : Got} (h : LiesG v b g) (hb : Below B v v') (hB : b < B) : LiesG v' b g := by
  obtain ⟨h0, h1, h2, h3, hz⟩ := h
  exact ⟨(hb.cell (p := ⟨b, 0, none⟩) hB).trans h0, (hb.cell (p := ⟨b, 1, none⟩) hB).trans h1, (hb.cell (p := ⟨b, 2, none⟩) hB).trans h2, (hb.cell (p := ⟨b, 3, none⟩) hB).trans h3, by have := hb.size; omega⟩

theorem LiesG.new (v : World) (g : Got) : LiesG (v.alloc (.cells #[.int .i64 g.n, .int .i64 g.d, .int .i64 g.t, .int .i64 g.e] 30)) v.heap.size g := by
  refine ⟨?_, ?_, ?_, ?_, ?_⟩
  all_goals simp [go_sem]

/-- How the world stands at the end of FracMakes. -/
def MakesAt (w v : World) (b1 b2 : Nat) (G : Got) (r0 r1 r2 : Int) : Prop := Below w.heap.size w v ∧ LiesF v b1 G.n G.d G.t ∧ LiesG v b2 G ∧ LiesF v (w.heap.size + 1) r0 r1 r2

theorem MakesAt.below {w v v' : World} {b1 b2 : Nat} {G : Got} {r0 r1 r2 : Int} (h : MakesAt w v b1 b2 G r0 r1 r2) (hb : Below v.heap.size v v') : MakesAt w v' b1 b2 G r0 r1 r2 := by
  obtain ⟨h1, h2, h3, h4⟩ := h
  exact ⟨Below.go h1 hb, h2.go hb, h3.below hb h3.2.2.2.2, h4.go hb⟩

theorem MakesAt.drew {w v : World} {b1 b2 : Nat} {G : Got} {r0 r1 r2 : Int} (h : MakesAt w v b1 b2 G r0 r1 r2) : MakesAt w v.drew b1 b2 G r0 r1 r2 := h.below (by go_grown)

theorem MakesAt.cells {w v : World} {b1 b2 : Nat} {G : Got} {r0 r1 r2 : Int} (h : MakesAt w v b1 b2 G r0 r1 r2) :
    v.cell? ⟨b1, 0, none⟩ = some (.int .i64 G.n) ∧ v.cell? ⟨b1, 1, none⟩ = some (.int .i64 G.d) ∧ v.cell? ⟨b1, 2, none⟩ = some (.int .i64 G.t) ∧ v.cell? ⟨b2, 0, none⟩ = some (.int .i64 G.n) ∧ v.cell? ⟨b2, 1, none⟩ = some (.int .i64 G.d) ∧ v.cell? ⟨b2, 2, none⟩ = some (.int .i64 G.t) ∧ v.cell? ⟨b2, 3, none⟩ = some (.int .i64 G.e) ∧ v.cell? ⟨w.heap.size + 1, 0, none⟩ = some (.int .i64 r0) ∧ v.cell? ⟨w.heap.size + 1, 1, none⟩ = some (.int .i64 r1) ∧ v.cell? ⟨w.heap.size + 1, 2, none⟩ = some (.int .i64 r2) := by
  obtain ⟨_, ⟨a0, a1, a2, _⟩, ⟨c0, c1, c2, c3, _⟩, ⟨d0, d1, d2, _⟩⟩ := h
  exact ⟨a0, a1, a2, c0, c1, c2, c3, d0, d1, d2⟩

theorem make_dsmall (num den ten : Int) (h1 : num ≤ 9223372036854775807) (h2 : den ≤ 9223372036854775807) : (makeG num den ten).d ≤ 9223372036854775807 := by
  by_cases he : (makeG num den ten).e = 0
  · exact (make_fine num den ten h1 h2 he).2.2.1
  · by_cases ha : num < -9223372036854775807 ∨ den < -9223372036854775807
    · have : makeG num den ten = ⟨0, 0, 0, 1⟩ := by unfold makeG; rw [if_pos ha]
      rw [this]; decide
    by_cases hd : den = 0
    · have : makeG num den ten = ⟨0, 0, 0, 11⟩ := by unfold makeG; rw [if_neg ha, if_pos hd]
      rw [this]; decide
    by_cases hn : num = 0
    · subst hn
      rw [make_of_zero den ten (by omega) hd]; decide
    rw [make_canon num den ten (by omega) (by omega) hn hd] at *
    rw [form_over _ he]; decide

set_option maxRecDepth 100000 in
set_option maxHeartbeats 1000000 in
theorem makes_walk (s0 s1 s2 r0 r1 r2 : Int) (w : World) (hT : OfTen w) (h0 : -9223372036854775808 ≤ s0 ∧ s0 ≤ 9223372036854775807) (h1 : -9223372036854775808 ≤ s1 ∧ s1 ≤ 9223372036854775807) (h2 : -9223372036854775808 ≤ s2 ∧ s2 ≤ 9223372036854775807) (k0 : -9223372036854775808 ≤ r0 ∧ r0 ≤ 9223372036854775807) (k1 : -9223372036854775808 ≤ r1 ∧ r1 ≤ 9223372036854775807) (k2 : -9223372036854775808 ≤ r2 ∧ r2 ≤ 9223372036854775807) :
    Calls Tryd.prog 3 #[.agg #[.int .i64 s0, .int .i64 s1, .int .i64 s2], .agg #[.int .i64 r0, .int .i64 r1, .int .i64 r2]] w fun e w' => e = .returned (.bool true) ∧ Below w.heap.size w w' := by
  have hB : Below w.heap.size w ((w.alloc (.cells #[.int .i64 s0, .int .i64 s1, .int .i64 s2] 23)).alloc (.cells #[.int .i64 r0, .int .i64 r1, .int .i64 r2] 24)) := by go_grown
  have l1 : LiesF ((w.alloc (.cells #[.int .i64 s0, .int .i64 s1, .int .i64 s2] 23)).alloc (.cells #[.int .i64 r0, .int .i64 r1, .int .i64 r2] 24)) w.heap.size s0 s1 s2 := by
    refine ⟨?_, ?_, ?_, ?_⟩
    all_goals simp [go_sem]
  have l2 : LiesF ((w.alloc (.cells #[.int .i64 s0, .int .i64 s1, .int .i64 s2] 23)).alloc (.cells #[.int .i64 r0, .int .i64 r1, .int .i64 r2] 24)) (w.heap.size + 1) r0 r1 r2 := by
    refine ⟨?_, ?_, ?_, ?_⟩
    all_goals simp [go_sem]
  have E1 := Lib.hid (make_eq s0 s1 s2 h0.2 h1.2)
  have E2 := Lib.hid (make_right s0 s1 s2 h0.2 h1.2)
  have E3 := Lib.hid (right_eq r0 r1 r2 k0.2 k1.2)
  have e4 := make_small s0 s1 s2
  have e5 := make_dsmall s0 s1 s2 h0.2 h1.2
  go_enter Tryd.func3, Tryd.ntmps3
  go_wp2_with fail
  refine (awake2_yes _ (hT.below hB)).mono ?_
  rintro e w1 ⟨rfl, hb⟩
  replace hB := Below.go hB hb
  replace l1 := l1.go hb
  replace l2 := l2.go hb
  clear hb
  obtain ⟨a0, a1, a2, az⟩ := id l1
  go_wp2_with fail
  refine (make_any s0 s1 s2 _ (hT.below hB) h0.2 h1.2).mono ?_
  rintro e w2 ⟨rfl, hb⟩
  generalize hG : makeG s0 s1 s2 = G at *
  clear hG
  unfold Got.v
  have l3 := LiesF.new w2 G.n G.d G.t
  replace hB := Below.got hB hb G.n G.d G.t
  replace l1 := (l1.go hb).put (.cells #[.int .i64 G.n, .int .i64 G.d, .int .i64 G.t] 24)
  replace l2 := (l2.go hb).put (.cells #[.int .i64 G.n, .int .i64 G.d, .int .i64 G.t] 24)
  clear hb a0 a1 a2 az
  obtain ⟨a0, a1, a2, az⟩ := id l1
  go_wp2_with fail
  refine (rmake_any s0 s1 s2 _ h0.2 h1.2 h2.1 h2.2).mono ?_
  rintro e w3 ⟨rfl, hb⟩
  rw [← E1.out]
  unfold Got.r
  have hA : MakesAt w (w3.alloc (.cells #[.int .i64 G.n, .int .i64 G.d, .int .i64 G.t, .int .i64 G.e] 30)) w2.heap.size w3.heap.size G r0 r1 r2 := by
    have hB3 := Below.go hB hb
    have hz := hB3.size
    exact ⟨by go_grown, (l3.go hb).put _, LiesG.new w3 G, (l2.go hb).put _⟩
  clear hb a0 a1 a2 az l1 l2 l3 hB E1
  go_wp2
  go_region_held3 (fun v => v.cell? ⟨w2.heap.size, 0, none⟩ = some (.int .i64 G.n) ∧ v.cell? ⟨w2.heap.size, 1, none⟩ = some (.int .i64 G.d) ∧ v.cell? ⟨w2.heap.size, 2, none⟩ = some (.int .i64 G.t) ∧ v.cell? ⟨w3.heap.size, 0, none⟩ = some (.int .i64 G.n) ∧ v.cell? ⟨w3.heap.size, 1, none⟩ = some (.int .i64 G.d) ∧ v.cell? ⟨w3.heap.size, 2, none⟩ = some (.int .i64 G.t) ∧ v.cell? ⟨w3.heap.size, 3, none⟩ = some (.int .i64 G.e) ∧ v.cell? ⟨w.heap.size + 1, 0, none⟩ = some (.int .i64 r0) ∧ v.cell? ⟨w.heap.size + 1, 1, none⟩ = some (.int .i64 r1) ∧ v.cell? ⟨w.heap.size + 1, 2, none⟩ = some (.int .i64 r2))
    (first | exact hA.drew.cells | exact hA.cells | go_keep)
    (first
      | (go_at_call_of 13 (Value.agg #[Value.int IntKind.i64 G.n, Value.int IntKind.i64 G.d, Value.int IntKind.i64 G.t]); refine (right_any G.n G.d G.t _ (hT.below hA.drew.1) (by omega) e5).mono ?_; rintro e w4 ⟨rfl, hb⟩; rw [E2.out]; replace hA := hA.drew.below hb; clear hb)
      | (go_at_call_of 13 (Value.agg #[Value.int IntKind.i64 r0, Value.int IntKind.i64 r1, Value.int IntKind.i64 r2]); refine (right_any r0 r1 r2 _ (hT.below hA.1) k0.2 k1.2).mono ?_; rintro e w5 ⟨rfl, hb⟩; rw [E3.out]; replace hA := hA.below hb; clear hb)
      | (go_at_call 14; refine (rright_any r0 r1 r2 _ k0.2 k1.2).mono ?_; rintro e w6 ⟨rfl, hb⟩; replace hA := hA.below hb; clear hb))
  all_goals go_wp2
  all_goals go_ret
  all_goals exact ⟨by simp, hA.1⟩
end Go.Proofs.YtfpopppapjfelaaDoor.Frac

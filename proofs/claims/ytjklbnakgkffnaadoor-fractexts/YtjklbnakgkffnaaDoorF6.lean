/-
  Contracts of frac.Mul, Div, Pow, each by one Lean function of the numbers; the world below stays as it was.
-/
import Derived.Test.YtjklbnakgkffnaaDoorF5
import Derived.Deep.RegionHeld3
namespace Go.Proofs.YtjklbnakgkffnaaDoor.Frac
open Go.RowKit
open Go.Proofs.YtjklbnakgkffnaaDoor.Whole
set_option linter.unusedVariables false
set_option linter.unusedSimpArgs false

/-- In the world v the block b holds a frac. -/
def LiesF (v : World) (b : Nat) (n d t : Int) : Prop := v.cell? ⟨b, 0, none⟩ = some (.int .i64 n) ∧ v.cell? ⟨b, 1, none⟩ = some (.int .i64 d) ∧ v.cell? ⟨b, 2, none⟩ = some (.int .i64 t) ∧ b < v.heap.size

theorem LiesF.below {v v' : World} {b B : Nat} {n d t : Int} (h : LiesF v b n d t) (hb : Below B v v') (hB : b < B) : LiesF v' b n d t := by
  obtain ⟨h0, h1, h2, hz⟩ := h
  exact ⟨(hb.cell (p := ⟨b, 0, none⟩) hB).trans h0, (hb.cell (p := ⟨b, 1, none⟩) hB).trans h1, (hb.cell (p := ⟨b, 2, none⟩) hB).trans h2, by have := hb.size; omega⟩

/-- How the world stands within Mul and Div: both arguments in boxes, and room for the result. -/
def TwoAt (w v : World) (n1 d1 t1 n2 d2 t2 : Int) : Prop := Below w.heap.size w v ∧ LiesF v w.heap.size n1 d1 t1 ∧ LiesF v (w.heap.size + 1) n2 d2 t2 ∧ Room v (w.heap.size + 1 + 1)

theorem TwoAt.below {w v v' : World} {n1 d1 t1 n2 d2 t2 : Int} (h : TwoAt w v n1 d1 t1 n2 d2 t2) (hb : Below v.heap.size v v') : TwoAt w v' n1 d1 t1 n2 d2 t2 := by
  obtain ⟨h1, h2, h3, h4⟩ := h
  exact ⟨Below.go h1 hb, h2.below hb h2.2.2.2, h3.below hb h3.2.2.2, h4.below hb h4.2.2.2.2⟩

theorem TwoAt.drew {w v : World} {n1 d1 t1 n2 d2 t2 : Int} (h : TwoAt w v n1 d1 t1 n2 d2 t2) : TwoAt w v.drew n1 d1 t1 n2 d2 t2 := h.below (by go_grown)

theorem TwoAt.new (w : World) (n1 d1 t1 n2 d2 t2 : Int) : TwoAt w (((w.alloc (.cells #[.int .i64 n1, .int .i64 d1, .int .i64 t1] 24)).alloc (.cells #[.int .i64 n2, .int .i64 d2, .int .i64 t2] 24)).alloc (.cells #[.int .i64 0, .int .i64 0, .int .i64 0] 24)) n1 d1 t1 n2 d2 t2 := by
  refine ⟨by go_grown, ⟨?_, ?_, ?_, ?_⟩, ⟨?_, ?_, ?_, ?_⟩, ⟨?_, ?_, ?_, fun j => ?_, ?_⟩⟩
  all_goals simp [go_sem]

/-- The cells that Mul and Div read. -/
theorem TwoAt.cells {w v : World} {n1 d1 t1 n2 d2 t2 : Int} (h : TwoAt w v n1 d1 t1 n2 d2 t2) :
    v.cell? ⟨w.heap.size, 0, none⟩ = some (.int .i64 n1) ∧ v.cell? ⟨w.heap.size, 1, none⟩ = some (.int .i64 d1) ∧ v.cell? ⟨w.heap.size, 2, none⟩ = some (.int .i64 t1) ∧ v.cell? ⟨w.heap.size + 1, 0, none⟩ = some (.int .i64 n2) ∧ v.cell? ⟨w.heap.size + 1, 1, none⟩ = some (.int .i64 d2) ∧ v.cell? ⟨w.heap.size + 1, 2, none⟩ = some (.int .i64 t2) := by
  obtain ⟨_, ⟨h1, h2, h3, _⟩, ⟨h4, h5, h6, _⟩, _⟩ := h
  exact ⟨h1, h2, h3, h4, h5, h6⟩

theorem times_at (p : Pt) (w : World) :
    Calls Tryd.prog 62 #[p.v] w fun e w' => e = .returned (.func (.func 85) #[] #[.pointer (some ⟨w.heap.size, 0, none⟩)]) ∧ Lies w' w.heap.size p ∧ Below w.heap.size w w' := by
  refine (times_yes p.n p.d p.e2 p.e5 w).mono ?_
  rintro e w' ⟨rfl, rfl⟩
  exact ⟨rfl, Lies.new w p, by go_grown⟩

set_option maxRecDepth 100000 in
set_option maxHeartbeats 1000000 in
theorem mul_right (n1 d1 t1 n2 d2 t2 : Int) (w : World) (hT : OfTen w) (h1 : n1 ≤ 9223372036854775807) (h2 : d1 ≤ 9223372036854775807) (h3 : n2 ≤ 9223372036854775807) (h4 : d2 ≤ 9223372036854775807) (r1 : rightB n1 d1 t1 = true) (r2 : rightB n2 d2 t2 = true) :
    Calls Tryd.prog 30 #[.agg #[.int .i64 n1, .int .i64 d1, .int .i64 t1], .agg #[.int .i64 n2, .int .i64 d2, .int .i64 t2]] w fun e w' => e = .returned (joinP (partsP n1 d1 t1) 1 (partsP n2 d2 t2)).v ∧ Below w.heap.size w w' := by
  obtain ⟨x1, x2, x3, x4, x5⟩ := right_fine h1 h2 r1
  obtain ⟨y1, y2, y3, y4, y5⟩ := right_fine h3 h4 r2
  have ok1 := parts_ok n1 d1 t1 x1 x2 x3 (by omega) (by omega)
  have ok2 := parts_ok n2 d2 t2 y1 y2 y3 (by omega) (by omega)
  have R1 := Lib.hid r1
  have R2 := Lib.hid r2
  clear r1 r2
  have ne1 : ¬ w.heap.size = w.heap.size + 1 + 1 := by omega
  have ne2 : ¬ w.heap.size + 1 + 1 = w.heap.size := by omega
  have hA := TwoAt.new w n1 d1 t1 n2 d2 t2
  go_enter Tryd.func30, Tryd.ntmps30
  go_wp2_with fail
  refine (right_any n1 d1 t1 _ (hT.below hA.1) h1 h2).mono ?_
  rintro e w1 ⟨rfl, hb⟩
  rw [R1.out]
  replace hA := hA.below hb
  obtain ⟨c0, c1, c2, c3, c4, c5⟩ := hA.cells
  go_wp2_with fail
  clear hb
  refine (right_any n2 d2 t2 _ (hT.below hA.1) h3 h4).mono ?_
  rintro e w2 ⟨rfl, hb⟩
  rw [R2.out]
  replace hA := hA.below hb
  clear c0 c1 c2 c3 c4 c5 hb
  go_wp2
  go_region_held3 (fun v => v.cell? ⟨w.heap.size, 0, none⟩ = some (.int .i64 n1) ∧ v.cell? ⟨w.heap.size, 1, none⟩ = some (.int .i64 d1) ∧ v.cell? ⟨w.heap.size, 2, none⟩ = some (.int .i64 t1) ∧ v.cell? ⟨w.heap.size + 1, 0, none⟩ = some (.int .i64 n2) ∧ v.cell? ⟨w.heap.size + 1, 1, none⟩ = some (.int .i64 d2) ∧ v.cell? ⟨w.heap.size + 1, 2, none⟩ = some (.int .i64 t2))
    (first | exact hA.drew.cells | exact hA.cells | go_keep)
    (first
      | (go_at_call_of 64 (Value.agg #[Value.int IntKind.i64 n1, Value.int IntKind.i64 d1, Value.int IntKind.i64 t1]); refine (partsOf_any n1 d1 t1 _ (hT.below hA.drew.1) x1 x4 x5).mono ?_; rintro e w3 ⟨rfl, hb⟩; replace hA := hA.drew.below hb; clear hb)
      | (go_at_call_of 64 (Value.agg #[Value.int IntKind.i64 n2, Value.int IntKind.i64 d2, Value.int IntKind.i64 t2]); refine (partsOf_any n2 d2 t2 _ (hT.below hA.1) y1 y4 y5).mono ?_; rintro e w4 ⟨rfl, hb⟩; replace hA := hA.below hb; clear hb)
      | (go_at_call 62; refine (times_at (partsP n2 d2 t2) _).mono ?_; rintro e w5 ⟨rfl, hL, hb⟩; replace hA := hA.below hb; clear hb)
      | (go_at_call 60; refine (join_any _ _ 1 _ _ (hT.below hA.1) hL (ok1.more (by omega)) (ok2.more (by omega)) (by omega)).mono ?_; rintro e w6 ⟨rfl, hb⟩; replace hA := hA.below hb; clear hb hL; generalize hG : joinP _ 1 (partsP n2 d2 t2) = G; have HG := Lib.hid hG; clear hG; unfold Got.v; obtain ⟨c0, c1, c2, c3, c4, c5⟩ := hA.cells; obtain ⟨hB, _, _, m0, m1, m2, mf, mz⟩ := id hA))
  go_wp2
  refine bodyPost_ret (v := G.v) (by simp [results, Tryd.results30, go_sem, Got.v, m0, m1, m2]) rfl ⟨by rw [HG.out], ?_⟩
  go_grown

set_option maxRecDepth 100000 in
set_option maxHeartbeats 1000000 in
theorem mul_arg1 (n1 d1 t1 n2 d2 t2 : Int) (w : World) (hT : OfTen w) (h1 : n1 ≤ 9223372036854775807) (h2 : d1 ≤ 9223372036854775807) (r1 : rightB n1 d1 t1 = false) :
    Calls Tryd.prog 30 #[.agg #[.int .i64 n1, .int .i64 d1, .int .i64 t1], .agg #[.int .i64 n2, .int .i64 d2, .int .i64 t2]] w fun e w' => e = .returned (.tuple #[.agg #[.int .i64 0, .int .i64 0, .int .i64 0], .int .i64 1]) ∧ Below w.heap.size w w' := by
  have R1 := Lib.hid r1
  clear r1
  have hA := TwoAt.new w n1 d1 t1 n2 d2 t2
  go_enter Tryd.func30, Tryd.ntmps30
  go_wp2_with fail
  refine (right_any n1 d1 t1 _ (hT.below hA.1) h1 h2).mono ?_
  rintro e w1 ⟨rfl, hb⟩
  rw [R1.out]
  replace hA := hA.below hb
  obtain ⟨c0, c1, c2, c3, c4, c5⟩ := hA.cells
  obtain ⟨hB, _, _, m0, m1, m2, mf, mz⟩ := id hA
  clear hb
  go_wp2
  refine bodyPost_ret (v := .tuple #[.agg #[.int .i64 0, .int .i64 0, .int .i64 0], .int .i64 1]) (by simp [results, Tryd.results30, go_sem, m0, m1, m2]) rfl ⟨rfl, ?_⟩
  go_grown

set_option maxRecDepth 100000 in
set_option maxHeartbeats 1000000 in
theorem mul_arg2 (n1 d1 t1 n2 d2 t2 : Int) (w : World) (hT : OfTen w) (h1 : n1 ≤ 9223372036854775807) (h2 : d1 ≤ 9223372036854775807) (h3 : n2 ≤ 9223372036854775807) (h4 : d2 ≤ 9223372036854775807) (r1 : rightB n1 d1 t1 = true) (r2 : rightB n2 d2 t2 = false) :
    Calls Tryd.prog 30 #[.agg #[.int .i64 n1, .int .i64 d1, .int .i64 t1], .agg #[.int .i64 n2, .int .i64 d2, .int .i64 t2]] w fun e w' => e = .returned (.tuple #[.agg #[.int .i64 0, .int .i64 0, .int .i64 0], .int .i64 1]) ∧ Below w.heap.size w w' := by
  have R1 := Lib.hid r1
  have R2 := Lib.hid r2
  clear r1 r2
  have hA := TwoAt.new w n1 d1 t1 n2 d2 t2
  go_enter Tryd.func30, Tryd.ntmps30
  go_wp2_with fail
  refine (right_any n1 d1 t1 _ (hT.below hA.1) h1 h2).mono ?_
  rintro e w1 ⟨rfl, hb⟩
  rw [R1.out]
  replace hA := hA.below hb
  obtain ⟨c0, c1, c2, c3, c4, c5⟩ := hA.cells
  clear hb
  go_wp2_with fail
  refine (right_any n2 d2 t2 _ (hT.below hA.1) h3 h4).mono ?_
  rintro e w2 ⟨rfl, hb⟩
  rw [R2.out]
  replace hA := hA.below hb
  obtain ⟨hB, _, _, m0, m1, m2, mf, mz⟩ := id hA
  clear hb c0 c1 c2 c3 c4 c5
  go_wp2
  refine bodyPost_ret (v := .tuple #[.agg #[.int .i64 0, .int .i64 0, .int .i64 0], .int .i64 1]) (by simp [results, Tryd.results30, go_sem, m0, m1, m2]) rfl ⟨rfl, ?_⟩
  go_grown

theorem mul_any (n1 d1 t1 n2 d2 t2 : Int) (w : World) (hT : OfTen w) (h1 : n1 ≤ 9223372036854775807) (h2 : d1 ≤ 9223372036854775807) (h3 : n2 ≤ 9223372036854775807) (h4 : d2 ≤ 9223372036854775807) :
    Calls Tryd.prog 30 #[.agg #[.int .i64 n1, .int .i64 d1, .int .i64 t1], .agg #[.int .i64 n2, .int .i64 d2, .int .i64 t2]] w fun e w' => e = .returned (mulG n1 d1 t1 n2 d2 t2).v ∧ Below w.heap.size w w' := by
  unfold mulG
  cases r1 : rightB n1 d1 t1 with
  | false => rw [if_pos (.inl rfl)]; exact mul_arg1 n1 d1 t1 n2 d2 t2 w hT h1 h2 r1
  | true =>
    cases r2 : rightB n2 d2 t2 with
    | false => rw [if_pos (.inr rfl)]; exact mul_arg2 n1 d1 t1 n2 d2 t2 w hT h1 h2 h3 h4 r1 r2
    | true => rw [if_neg (by simp)]; exact mul_right n1 d1 t1 n2 d2 t2 w hT h1 h2 h3 h4 r1 r2

end Go.Proofs.YtjklbnakgkffnaaDoor.Frac

/-
  Contracts of frac.Mul, Div, Pow, each by one Lean function of the numbers; the world below stays as it was. Contract of frac.Div, by one Lean function of the numbers; the world below stays as it was. Contract of frac.Pow, by one Lean function of the numbers; the world below stays as it was.
-/
import Derived.Test.YtndinbefljajcaaGreatDoorFA
import Derived.Deep.RegionHeld3
namespace Go.Proofs.YtndinbefljajcaaGreatDoor.Frac
open Go.RowKit
open Go.Proofs.YtndinbefljajcaaGreatDoor.Whole
set_option linter.unusedVariables false
set_option linter.unusedSimpArgs false

/-- In the world v the block b holds a frac. -/
def LiesF (v : World) (b : Nat) (n d t : Int) : Prop := v.cell? ⟨b, 0, none⟩ = some (.int .i64 n) ∧ v.cell? ⟨b, 1, none⟩ = some (.int .i64 d) ∧ v.cell? ⟨b, 2, none⟩ = some (.int .i64 t) ∧ b < v.heap.size

theorem LiesF.below {v v' : World} {b B : Nat} {n d t : Int} (h : LiesF v b n d t) (hb : Below B v v') (hB : b < B) : LiesF v' b n d t := by
  obtain ⟨h0, h1, h2, hz⟩ := h
  exact ⟨(hb.cell (p := ⟨b, 0, none⟩) hB).trans h0, (hb.cell (p := ⟨b, 1, none⟩) hB).trans h1, (hb.cell (p := ⟨b, 2, none⟩) hB).trans h2, by have := hb.size; omega⟩

/-- How the world stands within Mul and Div: both arguments in boxes, and room for the result. -/
def TwoAt (w v : World) (n1 d1 t1 n2 d2 t2 : Int) : Prop := Below w.heap.size w v ∧ LiesF v w.heap.size n1 d1 t1 ∧ LiesF v (w.heap.size + 1) n2 d2 t2 ∧ Room v (w.heap.size + 1 + 1)

theorem TwoAt.below {w v v' : World} {n1 d1 t1 n2 d2 t2 : Int} (h : TwoAt w v n1 d1 t1 n2 d2 t2) (hb : Below v.heap.size v v') : TwoAt w v' n1 d1 t1 n2 d2 t2 := by
  obtain ⟨h1, h2, h3, h4⟩ := h
  exact ⟨Below.go h1 hb, h2.below hb h2.2.2.2, h3.below hb h3.2.2.2, h4.below hb h4.2.2.2.2⟩

theorem TwoAt.drew {w v : World} {n1 d1 t1 n2 d2 t2 : Int} (h : TwoAt w v n1 d1 t1 n2 d2 t2) : TwoAt w v.drew n1 d1 t1 n2 d2 t2 := h.below (by go_grown)

theorem TwoAt.new (w : World) (n1 d1 t1 n2 d2 t2 : Int) : TwoAt w (((w.alloc (.cells #[.int .i64 n1, .int .i64 d1, .int .i64 t1] 28)).alloc (.cells #[.int .i64 n2, .int .i64 d2, .int .i64 t2] 28)).alloc (.cells #[.int .i64 0, .int .i64 0, .int .i64 0] 28)) n1 d1 t1 n2 d2 t2 := by
  refine ⟨by go_grown, ⟨?_, ?_, ?_, ?_⟩, ⟨?_, ?_, ?_, ?_⟩, ⟨?_, ?_, ?_, fun j => ?_, ?_⟩⟩
  all_goals simp [go_sem]

/-- The cells that Mul and Div read. -/
theorem TwoAt.cells {w v : World} {n1 d1 t1 n2 d2 t2 : Int} (h : TwoAt w v n1 d1 t1 n2 d2 t2) :
    v.cell? ⟨w.heap.size, 0, none⟩ = some (.int .i64 n1) ∧ v.cell? ⟨w.heap.size, 1, none⟩ = some (.int .i64 d1) ∧ v.cell? ⟨w.heap.size, 2, none⟩ = some (.int .i64 t1) ∧ v.cell? ⟨w.heap.size + 1, 0, none⟩ = some (.int .i64 n2) ∧ v.cell? ⟨w.heap.size + 1, 1, none⟩ = some (.int .i64 d2) ∧ v.cell? ⟨w.heap.size + 1, 2, none⟩ = some (.int .i64 t2) := by
  obtain ⟨_, ⟨h1, h2, h3, _⟩, ⟨h4, h5, h6, _⟩, _⟩ := h
  exact ⟨h1, h2, h3, h4, h5, h6⟩

theorem times_at (p : Pt) (w : World) :
    Calls Tryz.prog 34 #[p.v] w fun e w' => e = .returned (.func (.func 69) #[] #[.pointer (some ⟨w.heap.size, 0, none⟩)]) ∧ Lies w' w.heap.size p ∧ Below w.heap.size w w' := by
  refine (times_yes p.n p.d p.e2 p.e5 w).mono ?_
  rintro e w' ⟨rfl, rfl⟩
  exact ⟨rfl, Lies.new w p, by go_grown⟩

set_option maxRecDepth 100000 in
set_option maxHeartbeats 1000000 in
theorem mul_right (n1 d1 t1 n2 d2 t2 : Int) (w : World) (hT : OfTen w) (h1 : n1 ≤ 9223372036854775807) (h2 : d1 ≤ 9223372036854775807) (h3 : n2 ≤ 9223372036854775807) (h4 : d2 ≤ 9223372036854775807) (r1 : rightB n1 d1 t1 = true) (r2 : rightB n2 d2 t2 = true) :
    Calls Tryz.prog 24 #[.agg #[.int .i64 n1, .int .i64 d1, .int .i64 t1], .agg #[.int .i64 n2, .int .i64 d2, .int .i64 t2]] w fun e w' => e = .returned (joinP (partsP n1 d1 t1) 1 (partsP n2 d2 t2)).v ∧ Below w.heap.size w w' := by
  obtain ⟨x1, x2, x3, x4, x5⟩ := right_fine h1 h2 r1
  obtain ⟨y1, y2, y3, y4, y5⟩ := right_fine h3 h4 r2
  have ok1 := parts_ok n1 d1 t1 x1 x2 x3 (by omega) (by omega)
  have ok2 := parts_ok n2 d2 t2 y1 y2 y3 (by omega) (by omega)
  have R1 := Lib.hid r1
  have R2 := Lib.hid r2
  clear r1 r2
  have ne1 : ¬ w.heap.size = w.heap.size + 1 + 1 := by omega
  have ne2 : ¬ w.heap.size + 1 + 1 = w.heap.size := by omega
  have hA := TwoAt.new w n1 d1 t1 n2 d2 t2
  go_enter Tryz.func24, Tryz.ntmps24
  go_wp2_with fail
  refine (right_any n1 d1 t1 _ (hT.below hA.1) h1 h2).mono ?_
  rintro e w1 ⟨rfl, hb⟩
  rw [R1.out]
  replace hA := hA.below hb
  obtain ⟨c0, c1, c2, c3, c4, c5⟩ := hA.cells
  go_wp2_with fail
  clear hb
  refine (right_any n2 d2 t2 _ (hT.below hA.1) h3 h4).mono ?_
  rintro e w2 ⟨rfl, hb⟩
  rw [R2.out]
  replace hA := hA.below hb
  clear c0 c1 c2 c3 c4 c5 hb
  go_wp2
  go_region_held3 (fun v => v.cell? ⟨w.heap.size, 0, none⟩ = some (.int .i64 n1) ∧ v.cell? ⟨w.heap.size, 1, none⟩ = some (.int .i64 d1) ∧ v.cell? ⟨w.heap.size, 2, none⟩ = some (.int .i64 t1) ∧ v.cell? ⟨w.heap.size + 1, 0, none⟩ = some (.int .i64 n2) ∧ v.cell? ⟨w.heap.size + 1, 1, none⟩ = some (.int .i64 d2) ∧ v.cell? ⟨w.heap.size + 1, 2, none⟩ = some (.int .i64 t2))
    (first | exact hA.drew.cells | exact hA.cells | go_keep)
    (first
      | (go_at_call_of 59 (Value.agg #[Value.int IntKind.i64 n1, Value.int IntKind.i64 d1, Value.int IntKind.i64 t1]); refine (partsOf_any n1 d1 t1 _ (hT.below hA.drew.1) x1 x4 x5).mono ?_; rintro e w3 ⟨rfl, hb⟩; replace hA := hA.drew.below hb; clear hb)
      | (go_at_call_of 59 (Value.agg #[Value.int IntKind.i64 n2, Value.int IntKind.i64 d2, Value.int IntKind.i64 t2]); refine (partsOf_any n2 d2 t2 _ (hT.below hA.1) y1 y4 y5).mono ?_; rintro e w4 ⟨rfl, hb⟩; replace hA := hA.below hb; clear hb)
      | (go_at_call 34; refine (times_at (partsP n2 d2 t2) _).mono ?_; rintro e w5 ⟨rfl, hL, hb⟩; replace hA := hA.below hb; clear hb)
      | (go_at_call 32; refine (join_any _ _ 1 _ _ (hT.below hA.1) hL (ok1.more (by omega)) (ok2.more (by omega)) (by omega)).mono ?_; rintro e w6 ⟨rfl, hb⟩; replace hA := hA.below hb; clear hb hL; generalize hG : joinP _ 1 (partsP n2 d2 t2) = G; have HG := Lib.hid hG; clear hG; unfold Got.v; obtain ⟨c0, c1, c2, c3, c4, c5⟩ := hA.cells; obtain ⟨hB, _, _, m0, m1, m2, mf, mz⟩ := id hA))
  go_wp2
  refine bodyPost_ret (v := G.v) (by simp [results, Tryz.results24, go_sem, Got.v, m0, m1, m2]) rfl ⟨by rw [HG.out], ?_⟩
  go_grown

set_option maxRecDepth 100000 in
set_option maxHeartbeats 1000000 in
theorem mul_arg1 (n1 d1 t1 n2 d2 t2 : Int) (w : World) (hT : OfTen w) (h1 : n1 ≤ 9223372036854775807) (h2 : d1 ≤ 9223372036854775807) (r1 : rightB n1 d1 t1 = false) :
    Calls Tryz.prog 24 #[.agg #[.int .i64 n1, .int .i64 d1, .int .i64 t1], .agg #[.int .i64 n2, .int .i64 d2, .int .i64 t2]] w fun e w' => e = .returned (.tuple #[.agg #[.int .i64 0, .int .i64 0, .int .i64 0], .int .i64 1]) ∧ Below w.heap.size w w' := by
  have R1 := Lib.hid r1
  clear r1
  have hA := TwoAt.new w n1 d1 t1 n2 d2 t2
  go_enter Tryz.func24, Tryz.ntmps24
  go_wp2_with fail
  refine (right_any n1 d1 t1 _ (hT.below hA.1) h1 h2).mono ?_
  rintro e w1 ⟨rfl, hb⟩
  rw [R1.out]
  replace hA := hA.below hb
  obtain ⟨c0, c1, c2, c3, c4, c5⟩ := hA.cells
  obtain ⟨hB, _, _, m0, m1, m2, mf, mz⟩ := id hA
  clear hb
  go_wp2
  refine bodyPost_ret (v := .tuple #[.agg #[.int .i64 0, .int .i64 0, .int .i64 0], .int .i64 1]) (by simp [results, Tryz.results24, go_sem, m0, m1, m2]) rfl ⟨rfl, ?_⟩
  go_grown

set_option maxRecDepth 100000 in
set_option maxHeartbeats 1000000 in
theorem mul_arg2 (n1 d1 t1 n2 d2 t2 : Int) (w : World) (hT : OfTen w) (h1 : n1 ≤ 9223372036854775807) (h2 : d1 ≤ 9223372036854775807) (h3 : n2 ≤ 9223372036854775807) (h4 : d2 ≤ 9223372036854775807) (r1 : rightB n1 d1 t1 = true) (r2 : rightB n2 d2 t2 = false) :
    Calls Tryz.prog 24 #[.agg #[.int .i64 n1, .int .i64 d1, .int .i64 t1], .agg #[.int .i64 n2, .int .i64 d2, .int .i64 t2]] w fun e w' => e = .returned (.tuple #[.agg #[.int .i64 0, .int .i64 0, .int .i64 0], .int .i64 1]) ∧ Below w.heap.size w w' := by
  have R1 := Lib.hid r1
  have R2 := Lib.hid r2
  clear r1 r2
  have hA := TwoAt.new w n1 d1 t1 n2 d2 t2
  go_enter Tryz.func24, Tryz.ntmps24
  go_wp2_with fail
  refine (right_any n1 d1 t1 _ (hT.below hA.1) h1 h2).mono ?_
  rintro e w1 ⟨rfl, hb⟩
  rw [R1.out]
  replace hA := hA.below hb
  obtain ⟨c0, c1, c2, c3, c4, c5⟩ := hA.cells
  clear hb
  go_wp2_with fail
  refine (right_any n2 d2 t2 _ (hT.below hA.1) h3 h4).mono ?_
  rintro e w2 ⟨rfl, hb⟩
  rw [R2.out]
  replace hA := hA.below hb
  obtain ⟨hB, _, _, m0, m1, m2, mf, mz⟩ := id hA
  clear hb c0 c1 c2 c3 c4 c5
  go_wp2
  refine bodyPost_ret (v := .tuple #[.agg #[.int .i64 0, .int .i64 0, .int .i64 0], .int .i64 1]) (by simp [results, Tryz.results24, go_sem, m0, m1, m2]) rfl ⟨rfl, ?_⟩
  go_grown

theorem mul_any (n1 d1 t1 n2 d2 t2 : Int) (w : World) (hT : OfTen w) (h1 : n1 ≤ 9223372036854775807) (h2 : d1 ≤ 9223372036854775807) (h3 : n2 ≤ 9223372036854775807) (h4 : d2 ≤ 9223372036854775807) :
    Calls Tryz.prog 24 #[.agg #[.int .i64 n1, .int .i64 d1, .int .i64 t1], .agg #[.int .i64 n2, .int .i64 d2, .int .i64 t2]] w fun e w' => e = .returned (mulG n1 d1 t1 n2 d2 t2).v ∧ Below w.heap.size w w' := by
  unfold mulG
  cases r1 : rightB n1 d1 t1 with
  | false => rw [if_pos (.inl rfl)]; exact mul_arg1 n1 d1 t1 n2 d2 t2 w hT h1 h2 r1
  | true =>
    cases r2 : rightB n2 d2 t2 with
    | false => rw [if_pos (.inr rfl)]; exact mul_arg2 n1 d1 t1 n2 d2 t2 w hT h1 h2 h3 h4 r1 r2
    | true => rw [if_neg (by simp)]; exact mul_right n1 d1 t1 n2 d2 t2 w hT h1 h2 h3 h4 r1 r2

end Go.Proofs.YtndinbefljajcaaGreatDoor.Frac

namespace Go.Proofs.YtndinbefljajcaaGreatDoor.Frac
open Go.RowKit
open Go.Proofs.YtndinbefljajcaaGreatDoor.Whole
set_option linter.unusedVariables false
set_option linter.unusedSimpArgs false

set_option maxRecDepth 100000 in
set_option maxHeartbeats 1000000 in
theorem div_right (n1 d1 t1 n2 d2 t2 : Int) (w : World) (hT : OfTen w) (h1 : n1 ≤ 9223372036854775807) (h2 : d1 ≤ 9223372036854775807) (h3 : n2 ≤ 9223372036854775807) (h4 : d2 ≤ 9223372036854775807) (r1 : rightB n1 d1 t1 = true) (r2 : rightB n2 d2 t2 = true) (h0 : n2 ≠ 0) :
    Calls Tryz.prog 40 #[.agg #[.int .i64 n1, .int .i64 d1, .int .i64 t1], .agg #[.int .i64 n2, .int .i64 d2, .int .i64 t2]] w fun e w' => e = .returned (joinP (partsP n1 d1 t1) 1 (turnP (partsP n2 d2 t2))).v ∧ Below w.heap.size w w' := by
  obtain ⟨x1, x2, x3, x4, x5⟩ := right_fine h1 h2 r1
  obtain ⟨y1, y2, y3, y4, y5⟩ := right_fine h3 h4 r2
  have ok1 := parts_ok n1 d1 t1 x1 x2 x3 (by omega) (by omega)
  have ok2 := parts_ok n2 d2 t2 y1 y2 y3 (by omega) (by omega)
  have ok3 := turn_ok ok2 (parts_ne n2 d2 t2 h0)
  have z0 : (n2 == 0) = false := by simpa using h0
  clear h0
  have R1 := Lib.hid r1
  have R2 := Lib.hid r2
  clear r1 r2
  have ne1 : ¬ w.heap.size = w.heap.size + 1 + 1 := by omega
  have ne2 : ¬ w.heap.size + 1 + 1 = w.heap.size := by omega
  have hA := TwoAt.new w n1 d1 t1 n2 d2 t2
  go_enter Tryz.func40, Tryz.ntmps40
  go_wp2_with fail
  refine (right_any n1 d1 t1 _ (hT.below hA.1) h1 h2).mono ?_
  rintro e w1 ⟨rfl, hb⟩
  rw [R1.out]
  replace hA := hA.below hb
  obtain ⟨c0, c1, c2, c3, c4, c5⟩ := hA.cells
  go_wp2_with fail
  clear hb
  refine (right_any n2 d2 t2 _ (hT.below hA.1) h3 h4).mono ?_
  rintro e w2 ⟨rfl, hb⟩
  rw [R2.out]
  replace hA := hA.below hb
  clear c0 c1 c2 c3 c4 c5 hb
  obtain ⟨c0, c1, c2, c3, c4, c5⟩ := hA.cells
  go_wp2
  clear c0 c1 c2 c3 c4 c5
  go_region_held3 (fun v => v.cell? ⟨w.heap.size, 0, none⟩ = some (.int .i64 n1) ∧ v.cell? ⟨w.heap.size, 1, none⟩ = some (.int .i64 d1) ∧ v.cell? ⟨w.heap.size, 2, none⟩ = some (.int .i64 t1) ∧ v.cell? ⟨w.heap.size + 1, 0, none⟩ = some (.int .i64 n2) ∧ v.cell? ⟨w.heap.size + 1, 1, none⟩ = some (.int .i64 d2) ∧ v.cell? ⟨w.heap.size + 1, 2, none⟩ = some (.int .i64 t2))
    (first | exact hA.drew.cells | exact hA.cells | go_keep)
    (first
      | (go_at_call_of 59 (Value.agg #[Value.int IntKind.i64 n1, Value.int IntKind.i64 d1, Value.int IntKind.i64 t1]); refine (partsOf_any n1 d1 t1 _ (hT.below hA.drew.1) x1 x4 x5).mono ?_; rintro e w3 ⟨rfl, hb⟩; replace hA := hA.drew.below hb; clear hb)
      | (go_at_call_of 59 (Value.agg #[Value.int IntKind.i64 n2, Value.int IntKind.i64 d2, Value.int IntKind.i64 t2]); refine (partsOf_any n2 d2 t2 _ (hT.below hA.1) y1 y4 y5).mono ?_; rintro e w4 ⟨rfl, hb⟩; replace hA := hA.below hb; clear hb)
      | (go_at_call 35; refine (turned_any (partsP n2 d2 t2) _ (ok2.more (by omega))).mono ?_; rintro e w45 ⟨rfl, hb⟩; replace hA := hA.below hb; clear hb)
      | (go_at_call 34; refine (times_at (turnP (partsP n2 d2 t2)) _).mono ?_; rintro e w5 ⟨rfl, hL, hb⟩; replace hA := hA.below hb; clear hb)
      | (go_at_call 32; refine (join_any _ _ 1 _ _ (hT.below hA.1) hL (ok1.more (by omega)) (ok3.more (by omega)) (by omega)).mono ?_; rintro e w6 ⟨rfl, hb⟩; replace hA := hA.below hb; clear hb hL; generalize hG : joinP _ 1 (turnP (partsP n2 d2 t2)) = G; have HG := Lib.hid hG; clear hG; unfold Got.v; obtain ⟨c0, c1, c2, c3, c4, c5⟩ := hA.cells; obtain ⟨hB, _, _, m0, m1, m2, mf, mz⟩ := id hA))
  go_wp2
  refine bodyPost_ret (v := G.v) (by simp [results, Tryz.results40, go_sem, Got.v, m0, m1, m2]) rfl ⟨by rw [HG.out], ?_⟩
  go_grown

set_option maxRecDepth 100000 in
set_option maxHeartbeats 1000000 in
theorem div_arg1 (n1 d1 t1 n2 d2 t2 : Int) (w : World) (hT : OfTen w) (h1 : n1 ≤ 9223372036854775807) (h2 : d1 ≤ 9223372036854775807) (r1 : rightB n1 d1 t1 = false) :
    Calls Tryz.prog 40 #[.agg #[.int .i64 n1, .int .i64 d1, .int .i64 t1], .agg #[.int .i64 n2, .int .i64 d2, .int .i64 t2]] w fun e w' => e = .returned (.tuple #[.agg #[.int .i64 0, .int .i64 0, .int .i64 0], .int .i64 1]) ∧ Below w.heap.size w w' := by
  have R1 := Lib.hid r1
  clear r1
  have hA := TwoAt.new w n1 d1 t1 n2 d2 t2
  go_enter Tryz.func40, Tryz.ntmps40
  go_wp2_with fail
  refine (right_any n1 d1 t1 _ (hT.below hA.1) h1 h2).mono ?_
  rintro e w1 ⟨rfl, hb⟩
  rw [R1.out]
  replace hA := hA.below hb
  obtain ⟨c0, c1, c2, c3, c4, c5⟩ := hA.cells
  obtain ⟨hB, _, _, m0, m1, m2, mf, mz⟩ := id hA
  clear hb
  go_wp2
  refine bodyPost_ret (v := .tuple #[.agg #[.int .i64 0, .int .i64 0, .int .i64 0], .int .i64 1]) (by simp [results, Tryz.results40, go_sem, m0, m1, m2]) rfl ⟨rfl, ?_⟩
  go_grown

set_option maxRecDepth 100000 in
set_option maxHeartbeats 1000000 in
theorem div_arg2 (n1 d1 t1 n2 d2 t2 : Int) (w : World) (hT : OfTen w) (h1 : n1 ≤ 9223372036854775807) (h2 : d1 ≤ 9223372036854775807) (h3 : n2 ≤ 9223372036854775807) (h4 : d2 ≤ 9223372036854775807) (r1 : rightB n1 d1 t1 = true) (r2 : rightB n2 d2 t2 = false) :
    Calls Tryz.prog 40 #[.agg #[.int .i64 n1, .int .i64 d1, .int .i64 t1], .agg #[.int .i64 n2, .int .i64 d2, .int .i64 t2]] w fun e w' => e = .returned (.tuple #[.agg #[.int .i64 0, .int .i64 0, .int .i64 0], .int .i64 1]) ∧ Below w.heap.size w w' := by
  have R1 := Lib.hid r1
  have R2 := Lib.hid r2
  clear r1 r2
  have hA := TwoAt.new w n1 d1 t1 n2 d2 t2
  go_enter Tryz.func40, Tryz.ntmps40
  go_wp2_with fail
  refine (right_any n1 d1 t1 _ (hT.below hA.1) h1 h2).mono ?_
  rintro e w1 ⟨rfl, hb⟩
  rw [R1.out]
  replace hA := hA.below hb
  obtain ⟨c0, c1, c2, c3, c4, c5⟩ := hA.cells
  clear hb
  go_wp2_with fail
  refine (right_any n2 d2 t2 _ (hT.below hA.1) h3 h4).mono ?_
  rintro e w2 ⟨rfl, hb⟩
  rw [R2.out]
  replace hA := hA.below hb
  obtain ⟨hB, _, _, m0, m1, m2, mf, mz⟩ := id hA
  clear hb c0 c1 c2 c3 c4 c5
  go_wp2
  refine bodyPost_ret (v := .tuple #[.agg #[.int .i64 0, .int .i64 0, .int .i64 0], .int .i64 1]) (by simp [results, Tryz.results40, go_sem, m0, m1, m2]) rfl ⟨rfl, ?_⟩
  go_grown

set_option maxRecDepth 100000 in
set_option maxHeartbeats 1000000 in
theorem div_zero (n1 d1 t1 d2 t2 : Int) (w : World) (hT : OfTen w) (h1 : n1 ≤ 9223372036854775807) (h2 : d1 ≤ 9223372036854775807) (h4 : d2 ≤ 9223372036854775807) (r1 : rightB n1 d1 t1 = true) (r2 : rightB 0 d2 t2 = true) :
    Calls Tryz.prog 40 #[.agg #[.int .i64 n1, .int .i64 d1, .int .i64 t1], .agg #[.int .i64 0, .int .i64 d2, .int .i64 t2]] w fun e w' => e = .returned (.tuple #[.agg #[.int .i64 0, .int .i64 0, .int .i64 0], .int .i64 11]) ∧ Below w.heap.size w w' := by
  have R1 := Lib.hid r1
  have R2 := Lib.hid r2
  clear r1 r2
  have hA := TwoAt.new w n1 d1 t1 0 d2 t2
  go_enter Tryz.func40, Tryz.ntmps40
  go_wp2_with fail
  refine (right_any n1 d1 t1 _ (hT.below hA.1) h1 h2).mono ?_
  rintro e w1 ⟨rfl, hb⟩
  rw [R1.out]
  replace hA := hA.below hb
  obtain ⟨c0, c1, c2, c3, c4, c5⟩ := hA.cells
  clear hb
  go_wp2_with fail
  refine (right_any 0 d2 t2 _ (hT.below hA.1) (by omega) h4).mono ?_
  rintro e w2 ⟨rfl, hb⟩
  rw [R2.out]
  replace hA := hA.below hb
  clear hb c0 c1 c2 c3 c4 c5
  obtain ⟨c0, c1, c2, c3, c4, c5⟩ := hA.cells
  obtain ⟨hB, _, _, m0, m1, m2, mf, mz⟩ := id hA
  go_wp2
  refine bodyPost_ret (v := .tuple #[.agg #[.int .i64 0, .int .i64 0, .int .i64 0], .int .i64 11]) (by simp [results, Tryz.results40, go_sem, m0, m1, m2]) rfl ⟨rfl, ?_⟩
  go_grown

theorem div_any (n1 d1 t1 n2 d2 t2 : Int) (w : World) (hT : OfTen w) (h1 : n1 ≤ 9223372036854775807) (h2 : d1 ≤ 9223372036854775807) (h3 : n2 ≤ 9223372036854775807) (h4 : d2 ≤ 9223372036854775807) :
    Calls Tryz.prog 40 #[.agg #[.int .i64 n1, .int .i64 d1, .int .i64 t1], .agg #[.int .i64 n2, .int .i64 d2, .int .i64 t2]] w fun e w' => e = .returned (divG n1 d1 t1 n2 d2 t2).v ∧ Below w.heap.size w w' := by
  unfold divG
  cases r1 : rightB n1 d1 t1 with
  | false => rw [if_pos (.inl rfl)]; exact div_arg1 n1 d1 t1 n2 d2 t2 w hT h1 h2 r1
  | true =>
    cases r2 : rightB n2 d2 t2 with
    | false => rw [if_pos (.inr rfl)]; exact div_arg2 n1 d1 t1 n2 d2 t2 w hT h1 h2 h3 h4 r1 r2
    | true =>
      rw [if_neg (by simp)]
      by_cases h0 : n2 = 0
      · rw [if_pos h0]; subst h0; exact div_zero n1 d1 t1 d2 t2 w hT h1 h2 h4 r1 r2
      · rw [if_neg h0]; exact div_right n1 d1 t1 n2 d2 t2 w hT h1 h2 h3 h4 r1 r2 h0

end Go.Proofs.YtndinbefljajcaaGreatDoor.Frac

namespace Go.Proofs.YtndinbefljajcaaGreatDoor.Frac
open Go.RowKit
open Go.Proofs.YtndinbefljajcaaGreatDoor.Whole
set_option linter.unusedVariables false
set_option linter.unusedSimpArgs false

/-- How the world stands within Pow: its argument in a box, and room for the result. -/
def OneAt (w v : World) (n d t : Int) : Prop := Below w.heap.size w v ∧ LiesF v w.heap.size n d t ∧ Room v (w.heap.size + 1)

theorem OneAt.below {w v v' : World} {n d t : Int} (h : OneAt w v n d t) (hb : Below v.heap.size v v') : OneAt w v' n d t := by
  obtain ⟨h1, h2, h3⟩ := h
  exact ⟨Below.go h1 hb, h2.below hb h2.2.2.2, h3.below hb h3.2.2.2.2⟩

theorem OneAt.drew {w v : World} {n d t : Int} (h : OneAt w v n d t) : OneAt w v.drew n d t := h.below (by go_grown)

theorem OneAt.new (w : World) (n d t : Int) : OneAt w ((w.alloc (.cells #[.int .i64 n, .int .i64 d, .int .i64 t] 28)).alloc (.cells #[.int .i64 0, .int .i64 0, .int .i64 0] 28)) n d t := by
  refine ⟨by go_grown, ⟨?_, ?_, ?_, ?_⟩, ⟨?_, ?_, ?_, fun j => ?_, ?_⟩⟩
  all_goals simp [go_sem]

theorem OneAt.cells {w v : World} {n d t : Int} (h : OneAt w v n d t) :
    v.cell? ⟨w.heap.size, 0, none⟩ = some (.int .i64 n) ∧ v.cell? ⟨w.heap.size, 1, none⟩ = some (.int .i64 d) ∧ v.cell? ⟨w.heap.size, 2, none⟩ = some (.int .i64 t) := by
  obtain ⟨_, ⟨h1, h2, h3, _⟩, _⟩ := h
  exact ⟨h1, h2, h3⟩

theorem join_int (x y : Pt) (k : Int) (b : Nat) (w : World) (hT : OfTen w) (hy : Lies w b y) (hx : x.Ok 4000) (ho : y.Ok 4000) (hk0 : 0 ≤ k) (hk : k ≤ 99) :
    Calls Tryz.prog 32 #[x.v, .int .i64 k, .func (.func 69) #[] #[.pointer (some ⟨b, 0, none⟩)]] w fun e w' => e = .returned (joinP x k.toNat y).v ∧ Below w.heap.size w w' := by
  obtain ⟨m, rfl⟩ := Int.eq_ofNat_of_zero_le hk0
  exact join_any x y m b w hT hy hx ho (by omega)

set_option maxRecDepth 100000 in
set_option maxHeartbeats 1000000 in
theorem pow_arg (n d t k : Int) (w : World) (hT : OfTen w) (h1 : n ≤ 9223372036854775807) (h2 : d ≤ 9223372036854775807) (r : rightB n d t = false) :
    Calls Tryz.prog 44 #[.agg #[.int .i64 n, .int .i64 d, .int .i64 t], .int .i64 k] w fun e w' => e = .returned (.tuple #[.agg #[.int .i64 0, .int .i64 0, .int .i64 0], .int .i64 1]) ∧ Below w.heap.size w w' := by
  have R := Lib.hid r
  clear r
  have hA := OneAt.new w n d t
  go_enter Tryz.func44, Tryz.ntmps44
  go_wp2_with fail
  refine (right_any n d t _ (hT.below hA.1) h1 h2).mono ?_
  rintro e w1 ⟨rfl, hb⟩
  rw [R.out]
  replace hA := hA.below hb
  obtain ⟨hB, _, m0, m1, m2, mf, mz⟩ := id hA
  clear hb
  go_wp2
  refine bodyPost_ret (v := .tuple #[.agg #[.int .i64 0, .int .i64 0, .int .i64 0], .int .i64 1]) (by simp [results, Tryz.results44, go_sem, m0, m1, m2]) rfl ⟨rfl, ?_⟩
  go_grown

set_option maxRecDepth 100000 in
set_option maxHeartbeats 1000000 in
theorem pow_far (n d t k : Int) (w : World) (hT : OfTen w) (h1 : n ≤ 9223372036854775807) (h2 : d ≤ 9223372036854775807) (r : rightB n d t = true) (hk : k < -99 ∨ 99 < k) :
    Calls Tryz.prog 44 #[.agg #[.int .i64 n, .int .i64 d, .int .i64 t], .int .i64 k] w fun e w' => e = .returned (.tuple #[.agg #[.int .i64 0, .int .i64 0, .int .i64 0], .int .i64 1]) ∧ Below w.heap.size w w' := by
  have R := Lib.hid r
  clear r
  have hA := OneAt.new w n d t
  go_enter Tryz.func44, Tryz.ntmps44
  go_wp2_with fail
  refine (right_any n d t _ (hT.below hA.1) h1 h2).mono ?_
  rintro e w1 ⟨rfl, hb⟩
  rw [R.out]
  replace hA := hA.below hb
  obtain ⟨hB, _, m0, m1, m2, mf, mz⟩ := id hA
  clear hb
  go_wp2
  all_goals
    refine bodyPost_ret (v := .tuple #[.agg #[.int .i64 0, .int .i64 0, .int .i64 0], .int .i64 1]) (by simp [results, Tryz.results44, go_sem, m0, m1, m2]) rfl ⟨rfl, ?_⟩
    go_grown

set_option maxRecDepth 100000 in
set_option maxHeartbeats 1000000 in
theorem pow_up (n d t k : Int) (w : World) (hT : OfTen w) (h1 : n ≤ 9223372036854775807) (h2 : d ≤ 9223372036854775807) (r : rightB n d t = true) (hk : 0 ≤ k) (hk' : k ≤ 99) :
    Calls Tryz.prog 44 #[.agg #[.int .i64 n, .int .i64 d, .int .i64 t], .int .i64 k] w fun e w' => e = .returned (joinP (apartP 1 0) k.toNat (partsP n d t)).v ∧ Below w.heap.size w w' := by
  obtain ⟨x1, x2, x3, x4, x5⟩ := right_fine h1 h2 r
  have ok1 := parts_ok n d t x1 x2 x3 (by omega) (by omega)
  obtain ⟨ok2, _⟩ := apart_ok 1 0 (by decide) (by omega) (by omega)
  have R := Lib.hid r
  clear r
  have hA := OneAt.new w n d t
  go_enter Tryz.func44, Tryz.ntmps44
  go_wp2_with fail
  refine (right_any n d t _ (hT.below hA.1) h1 h2).mono ?_
  rintro e w1 ⟨rfl, hb⟩
  rw [R.out]
  replace hA := hA.below hb
  clear hb
  go_wp2
  go_region_held3 (fun v => v.cell? ⟨w.heap.size, 0, none⟩ = some (.int .i64 n) ∧ v.cell? ⟨w.heap.size, 1, none⟩ = some (.int .i64 d) ∧ v.cell? ⟨w.heap.size, 2, none⟩ = some (.int .i64 t))
    (first | exact hA.drew.cells | exact hA.cells | go_keep)
    (first
      | (go_at_call 33; refine (apart_any 1 0 _ (hT.below hA.drew.1) (by decide) (by omega) (by omega)).mono ?_; rintro e w2 ⟨rfl, hb⟩; replace hA := hA.drew.below hb; clear hb)
      | (go_at_call 59; refine (partsOf_any n d t _ (hT.below hA.1) x1 x4 x5).mono ?_; rintro e w3 ⟨rfl, hb⟩; replace hA := hA.below hb; clear hb)
      | (go_at_call 34; refine (times_at (partsP n d t) _).mono ?_; rintro e w5 ⟨rfl, hL, hb⟩; replace hA := hA.below hb; clear hb)
      | (go_at_call 32; refine (join_int _ _ k _ _ (hT.below hA.1) hL (ok2.more (by omega)) (ok1.more (by omega)) (by omega) (by omega)).mono ?_; rintro e w6 ⟨rfl, hb⟩; replace hA := hA.below hb; clear hb hL; generalize hG : joinP _ _ (partsP n d t) = G; have HG := Lib.hid hG; clear hG; unfold Got.v; obtain ⟨c0, c1, c2⟩ := hA.cells; obtain ⟨hB, _, m0, m1, m2, mf, mz⟩ := id hA))
  go_wp2
  refine bodyPost_ret (v := G.v) (by simp [results, Tryz.results44, go_sem, Got.v, m0, m1, m2]) rfl ⟨by rw [HG.out], ?_⟩
  go_grown

set_option maxRecDepth 100000 in
set_option maxHeartbeats 1000000 in
theorem pow_zero (d t k : Int) (w : World) (hT : OfTen w) (h2 : d ≤ 9223372036854775807) (r : rightB 0 d t = true) (hk : k < 0) (hk' : -99 ≤ k) :
    Calls Tryz.prog 44 #[.agg #[.int .i64 0, .int .i64 d, .int .i64 t], .int .i64 k] w fun e w' => e = .returned (.tuple #[.agg #[.int .i64 0, .int .i64 0, .int .i64 0], .int .i64 11]) ∧ Below w.heap.size w w' := by
  have R := Lib.hid r
  clear r
  have hA := OneAt.new w 0 d t
  go_enter Tryz.func44, Tryz.ntmps44
  go_wp2_with fail
  refine (right_any 0 d t _ (hT.below hA.1) (by omega) h2).mono ?_
  rintro e w1 ⟨rfl, hb⟩
  rw [R.out]
  replace hA := hA.below hb
  obtain ⟨c0, c1, c2⟩ := hA.cells
  obtain ⟨hB, _, m0, m1, m2, mf, mz⟩ := id hA
  clear hb
  go_wp2
  refine bodyPost_ret (v := .tuple #[.agg #[.int .i64 0, .int .i64 0, .int .i64 0], .int .i64 11]) (by simp [results, Tryz.results44, go_sem, m0, m1, m2]) rfl ⟨rfl, ?_⟩
  go_grown

set_option maxRecDepth 100000 in
set_option maxHeartbeats 1000000 in
theorem pow_down (n d t k : Int) (w : World) (hT : OfTen w) (h1 : n ≤ 9223372036854775807) (h2 : d ≤ 9223372036854775807) (r : rightB n d t = true) (h0 : n ≠ 0) (hk : k < 0) (hk' : -99 ≤ k) :
    Calls Tryz.prog 44 #[.agg #[.int .i64 n, .int .i64 d, .int .i64 t], .int .i64 k] w fun e w' => e = .returned (joinP (apartP 1 0) (-k).toNat (turnP (partsP n d t))).v ∧ Below w.heap.size w w' := by
  obtain ⟨x1, x2, x3, x4, x5⟩ := right_fine h1 h2 r
  have ok1 := parts_ok n d t x1 x2 x3 (by omega) (by omega)
  obtain ⟨ok2, _⟩ := apart_ok 1 0 (by decide) (by omega) (by omega)
  have ok3 := turn_ok ok1 (parts_ne n d t h0)
  have z0 : (n == 0) = false := by simpa using h0
  clear h0
  have R := Lib.hid r
  clear r
  have hA := OneAt.new w n d t
  go_enter Tryz.func44, Tryz.ntmps44
  go_wp2_with fail
  refine (right_any n d t _ (hT.below hA.1) h1 h2).mono ?_
  rintro e w1 ⟨rfl, hb⟩
  rw [R.out]
  replace hA := hA.below hb
  clear hb
  obtain ⟨c0, c1, c2⟩ := hA.cells
  go_wp2
  clear c0 c1 c2
  have wk : IntKind.i64.wrap (-k) = -k := IntWalk.i64_in _ ⟨by omega, by omega⟩
  go_region_held3 (fun v => v.cell? ⟨w.heap.size, 0, none⟩ = some (.int .i64 n) ∧ v.cell? ⟨w.heap.size, 1, none⟩ = some (.int .i64 d) ∧ v.cell? ⟨w.heap.size, 2, none⟩ = some (.int .i64 t))
    (first | exact hA.drew.cells | exact hA.cells | go_keep)
    (first
      | (go_at_call 33; refine (apart_any 1 0 _ (hT.below hA.drew.1) (by decide) (by omega) (by omega)).mono ?_; rintro e w2 ⟨rfl, hb⟩; replace hA := hA.drew.below hb; clear hb)
      | (go_at_call 59; refine (partsOf_any n d t _ (hT.below hA.1) x1 x4 x5).mono ?_; rintro e w3 ⟨rfl, hb⟩; replace hA := hA.below hb; clear hb)
      | (go_at_call 35; refine (turned_any (partsP n d t) _ (ok1.more (by omega))).mono ?_; rintro e w4 ⟨rfl, hb⟩; replace hA := hA.below hb; clear hb)
      | (go_at_call 34; refine (times_at (turnP (partsP n d t)) _).mono ?_; rintro e w5 ⟨rfl, hL, hb⟩; replace hA := hA.below hb; clear hb)
      | (go_at_call 32; refine (join_int _ _ (-k) _ _ (hT.below hA.1) hL (ok2.more (by omega)) (ok3.more (by omega)) (by omega) (by omega)).mono ?_; rintro e w6 ⟨rfl, hb⟩; replace hA := hA.below hb; clear hb hL; generalize hG : joinP _ _ (turnP (partsP n d t)) = G; have HG := Lib.hid hG; clear hG; unfold Got.v; obtain ⟨c0, c1, c2⟩ := hA.cells; obtain ⟨hB, _, m0, m1, m2, mf, mz⟩ := id hA))
  go_wp2
  refine bodyPost_ret (v := G.v) (by simp [results, Tryz.results44, go_sem, Got.v, m0, m1, m2]) rfl ⟨by rw [HG.out], ?_⟩
  go_grown

theorem pow_any (n d t k : Int) (w : World) (hT : OfTen w) (h1 : n ≤ 9223372036854775807) (h2 : d ≤ 9223372036854775807) :
    Calls Tryz.prog 44 #[.agg #[.int .i64 n, .int .i64 d, .int .i64 t], .int .i64 k] w fun e w' => e = .returned (powG n d t k).v ∧ Below w.heap.size w w' := by
  unfold powG
  cases r : rightB n d t with
  | false => rw [if_pos (.inl rfl)]; exact pow_arg n d t k w hT h1 h2 r
  | true =>
    by_cases hk : k < -99 ∨ 99 < k
    · rw [if_pos (.inr hk)]; exact pow_far n d t k w hT h1 h2 r hk
    · rw [if_neg (by simp; omega)]
      by_cases hp : 0 ≤ k
      · rw [if_pos hp]; exact pow_up n d t k w hT h1 h2 r hp (by omega)
      · rw [if_neg hp]
        by_cases h0 : n = 0
        · rw [if_pos h0]; subst h0; exact pow_zero d t k w hT h2 r (by omega) (by omega)
        · rw [if_neg h0]; exact pow_down n d t k w hT h1 h2 r h0 (by omega) (by omega)

end Go.Proofs.YtndinbefljajcaaGreatDoor.Frac


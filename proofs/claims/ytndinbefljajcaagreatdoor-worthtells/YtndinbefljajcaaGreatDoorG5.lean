/-
  Contracts of the document's answer for exact numbers, fifth part: drachmref02.Mul, Div; each by one Lean function of the numbers; the world below stays as it was.
-/
import Derived.Test.YtndinbefljajcaaGreatDoorG4
namespace Go.Proofs.YtndinbefljajcaaGreatDoor.Frac
open Go.RowKit
open Go.Proofs.YtndinbefljajcaaGreatDoor.Whole
set_option linter.unusedVariables false
set_option linter.unusedSimpArgs false

/-- How the world stands within the document's Mul and Div: both arguments in boxes, and room for the answer. -/
def TwoRAt (w v : World) (n1 d1 t1 n2 d2 t2 : Int) : Prop := Below w.heap.size w v ∧ LiesF v w.heap.size n1 d1 t1 ∧ LiesF v (w.heap.size + 1) n2 d2 t2 ∧ RoomG v (w.heap.size + 1 + 1)

theorem TwoRAt.below {w v v' : World} {n1 d1 t1 n2 d2 t2 : Int} (h : TwoRAt w v n1 d1 t1 n2 d2 t2) (hb : Below v.heap.size v v') : TwoRAt w v' n1 d1 t1 n2 d2 t2 := by
  obtain ⟨h1, h2, h3, h4⟩ := h
  exact ⟨Below.go h1 hb, h2.go hb, h3.go hb, h4.below hb h4.2.2.2.2.2⟩

theorem TwoRAt.drew {w v : World} {n1 d1 t1 n2 d2 t2 : Int} (h : TwoRAt w v n1 d1 t1 n2 d2 t2) : TwoRAt w v.drew n1 d1 t1 n2 d2 t2 := h.below (by go_grown)

theorem TwoRAt.new (w : World) (n1 d1 t1 n2 d2 t2 : Int) : TwoRAt w (((w.alloc (.cells #[.int .i64 n1, .int .i64 d1, .int .i64 t1] 28)).alloc (.cells #[.int .i64 n2, .int .i64 d2, .int .i64 t2] 28)).alloc (.cells #[.int .i64 0, .int .i64 0, .int .i64 0, .int .i64 0] 49)) n1 d1 t1 n2 d2 t2 := by
  refine ⟨by go_grown, ⟨?_, ?_, ?_, ?_⟩, ⟨?_, ?_, ?_, ?_⟩, ⟨?_, ?_, ?_, ?_, fun j => ?_, ?_⟩⟩
  all_goals simp [go_sem]

theorem TwoRAt.cells {w v : World} {n1 d1 t1 n2 d2 t2 : Int} (h : TwoRAt w v n1 d1 t1 n2 d2 t2) :
    v.cell? ⟨w.heap.size, 0, none⟩ = some (.int .i64 n1) ∧ v.cell? ⟨w.heap.size, 1, none⟩ = some (.int .i64 d1) ∧ v.cell? ⟨w.heap.size, 2, none⟩ = some (.int .i64 t1) ∧ v.cell? ⟨w.heap.size + 1, 0, none⟩ = some (.int .i64 n2) ∧ v.cell? ⟨w.heap.size + 1, 1, none⟩ = some (.int .i64 d2) ∧ v.cell? ⟨w.heap.size + 1, 2, none⟩ = some (.int .i64 t2) := by
  obtain ⟨_, ⟨h1, h2, h3, _⟩, ⟨h4, h5, h6, _⟩, _⟩ := h
  exact ⟨h1, h2, h3, h4, h5, h6⟩

theorem rightR_fine {n d t : Int} (h1 : n ≤ 9223372036854775807) (h2 : d ≤ 9223372036854775807) (h : rightR n d t = true) : n.natAbs ≤ 9223372036854775807 ∧ 1 ≤ d ∧ d ≤ 9223372036854775807 ∧ -1000 ≤ t ∧ t ≤ 1000 :=
  right_fine h1 h2 (by rw [right_eq n d t h1 h2]; exact h)

set_option maxRecDepth 100000 in
set_option maxHeartbeats 1000000 in
theorem rmulF_false_false (n1 d1 t1 n2 d2 t2 : Int) (w : World) (h1 : n1 ≤ 9223372036854775807) (h2 : d1 ≤ 9223372036854775807) (h3 : n2 ≤ 9223372036854775807) (h4 : d2 ≤ 9223372036854775807) (r1 : rightR n1 d1 t1 = false) (r2 : rightR n2 d2 t2 = false) :
    Calls Tryz.prog 48 #[.agg #[.int .i64 n1, .int .i64 d1, .int .i64 t1], .agg #[.int .i64 n2, .int .i64 d2, .int .i64 t2]] w fun e w' => e = .returned (⟨0, 0, 0, 1⟩ : Got).r ∧ Below w.heap.size w w' := by
  have R1 : Hid (rightR n1 d1 t1 = false) := r1
  have R2 : Hid (rightR n2 d2 t2 = false) := r2
  clear r1 r2
  have hA := TwoRAt.new w n1 d1 t1 n2 d2 t2
  go_enter Tryz.func48, Tryz.ntmps48
  go_wp2_with fail
  refine (rright_any n1 d1 t1 _ h1 h2).mono ?_
  rintro e w1 ⟨rfl, hb⟩
  rw [R1.out]
  replace hA := hA.below hb
  clear hb
  obtain ⟨c0, c1, c2, c3, c4, c5⟩ := hA.cells
  go_wp2_with fail
  refine (rright_any n2 d2 t2 _ h3 h4).mono ?_
  rintro e w2 ⟨rfl, hb⟩
  rw [R2.out]
  replace hA := hA.below hb
  clear hb c0 c1 c2 c3 c4 c5
  obtain ⟨c0, c1, c2, c3, c4, c5⟩ := hA.cells
  obtain ⟨hB, _, _, m0, m1, m2, m3, mf, mz⟩ := id hA
  go_wp2
  all_goals
    refine bodyPost_ret (v := (⟨0, 0, 0, 1⟩ : Got).r) (by simp [results, Tryz.results48, go_sem, Got.r, m0, m1, m2, m3]) rfl ⟨rfl, ?_⟩
    go_grown

set_option maxRecDepth 100000 in
set_option maxHeartbeats 1000000 in
theorem rmulF_false_true (n1 d1 t1 n2 d2 t2 : Int) (w : World) (h1 : n1 ≤ 9223372036854775807) (h2 : d1 ≤ 9223372036854775807) (h3 : n2 ≤ 9223372036854775807) (h4 : d2 ≤ 9223372036854775807) (r1 : rightR n1 d1 t1 = false) (r2 : rightR n2 d2 t2 = true) :
    Calls Tryz.prog 48 #[.agg #[.int .i64 n1, .int .i64 d1, .int .i64 t1], .agg #[.int .i64 n2, .int .i64 d2, .int .i64 t2]] w fun e w' => e = .returned (⟨0, 0, 0, 1⟩ : Got).r ∧ Below w.heap.size w w' := by
  have R1 : Hid (rightR n1 d1 t1 = false) := r1
  have R2 : Hid (rightR n2 d2 t2 = true) := r2
  clear r1 r2
  have hA := TwoRAt.new w n1 d1 t1 n2 d2 t2
  go_enter Tryz.func48, Tryz.ntmps48
  go_wp2_with fail
  refine (rright_any n1 d1 t1 _ h1 h2).mono ?_
  rintro e w1 ⟨rfl, hb⟩
  rw [R1.out]
  replace hA := hA.below hb
  clear hb
  obtain ⟨c0, c1, c2, c3, c4, c5⟩ := hA.cells
  go_wp2_with fail
  refine (rright_any n2 d2 t2 _ h3 h4).mono ?_
  rintro e w2 ⟨rfl, hb⟩
  rw [R2.out]
  replace hA := hA.below hb
  clear hb c0 c1 c2 c3 c4 c5
  obtain ⟨c0, c1, c2, c3, c4, c5⟩ := hA.cells
  obtain ⟨hB, _, _, m0, m1, m2, m3, mf, mz⟩ := id hA
  go_wp2
  all_goals
    refine bodyPost_ret (v := (⟨0, 0, 0, 1⟩ : Got).r) (by simp [results, Tryz.results48, go_sem, Got.r, m0, m1, m2, m3]) rfl ⟨rfl, ?_⟩
    go_grown

set_option maxRecDepth 100000 in
set_option maxHeartbeats 1000000 in
theorem rmulF_true_false (n1 d1 t1 n2 d2 t2 : Int) (w : World) (h1 : n1 ≤ 9223372036854775807) (h2 : d1 ≤ 9223372036854775807) (h3 : n2 ≤ 9223372036854775807) (h4 : d2 ≤ 9223372036854775807) (r1 : rightR n1 d1 t1 = true) (r2 : rightR n2 d2 t2 = false) :
    Calls Tryz.prog 48 #[.agg #[.int .i64 n1, .int .i64 d1, .int .i64 t1], .agg #[.int .i64 n2, .int .i64 d2, .int .i64 t2]] w fun e w' => e = .returned (⟨0, 0, 0, 1⟩ : Got).r ∧ Below w.heap.size w w' := by
  have R1 : Hid (rightR n1 d1 t1 = true) := r1
  have R2 : Hid (rightR n2 d2 t2 = false) := r2
  clear r1 r2
  have hA := TwoRAt.new w n1 d1 t1 n2 d2 t2
  go_enter Tryz.func48, Tryz.ntmps48
  go_wp2_with fail
  refine (rright_any n1 d1 t1 _ h1 h2).mono ?_
  rintro e w1 ⟨rfl, hb⟩
  rw [R1.out]
  replace hA := hA.below hb
  clear hb
  obtain ⟨c0, c1, c2, c3, c4, c5⟩ := hA.cells
  go_wp2_with fail
  refine (rright_any n2 d2 t2 _ h3 h4).mono ?_
  rintro e w2 ⟨rfl, hb⟩
  rw [R2.out]
  replace hA := hA.below hb
  clear hb c0 c1 c2 c3 c4 c5
  obtain ⟨c0, c1, c2, c3, c4, c5⟩ := hA.cells
  obtain ⟨hB, _, _, m0, m1, m2, m3, mf, mz⟩ := id hA
  go_wp2
  all_goals
    refine bodyPost_ret (v := (⟨0, 0, 0, 1⟩ : Got).r) (by simp [results, Tryz.results48, go_sem, Got.r, m0, m1, m2, m3]) rfl ⟨rfl, ?_⟩
    go_grown

set_option maxRecDepth 100000 in
set_option maxHeartbeats 1000000 in
theorem rdivF_false_false (n1 d1 t1 n2 d2 t2 : Int) (w : World) (h1 : n1 ≤ 9223372036854775807) (h2 : d1 ≤ 9223372036854775807) (h3 : n2 ≤ 9223372036854775807) (h4 : d2 ≤ 9223372036854775807) (r1 : rightR n1 d1 t1 = false) (r2 : rightR n2 d2 t2 = false) :
    Calls Tryz.prog 50 #[.agg #[.int .i64 n1, .int .i64 d1, .int .i64 t1], .agg #[.int .i64 n2, .int .i64 d2, .int .i64 t2]] w fun e w' => e = .returned (⟨0, 0, 0, 1⟩ : Got).r ∧ Below w.heap.size w w' := by
  have R1 : Hid (rightR n1 d1 t1 = false) := r1
  have R2 : Hid (rightR n2 d2 t2 = false) := r2
  clear r1 r2
  have hA := TwoRAt.new w n1 d1 t1 n2 d2 t2
  go_enter Tryz.func50, Tryz.ntmps50
  go_wp2_with fail
  refine (rright_any n1 d1 t1 _ h1 h2).mono ?_
  rintro e w1 ⟨rfl, hb⟩
  rw [R1.out]
  replace hA := hA.below hb
  clear hb
  obtain ⟨c0, c1, c2, c3, c4, c5⟩ := hA.cells
  go_wp2_with fail
  refine (rright_any n2 d2 t2 _ h3 h4).mono ?_
  rintro e w2 ⟨rfl, hb⟩
  rw [R2.out]
  replace hA := hA.below hb
  clear hb c0 c1 c2 c3 c4 c5
  obtain ⟨c0, c1, c2, c3, c4, c5⟩ := hA.cells
  obtain ⟨hB, _, _, m0, m1, m2, m3, mf, mz⟩ := id hA
  go_wp2
  all_goals
    refine bodyPost_ret (v := (⟨0, 0, 0, 1⟩ : Got).r) (by simp [results, Tryz.results50, go_sem, Got.r, m0, m1, m2, m3]) rfl ⟨rfl, ?_⟩
    go_grown

set_option maxRecDepth 100000 in
set_option maxHeartbeats 1000000 in
theorem rdivF_false_true (n1 d1 t1 n2 d2 t2 : Int) (w : World) (h1 : n1 ≤ 9223372036854775807) (h2 : d1 ≤ 9223372036854775807) (h3 : n2 ≤ 9223372036854775807) (h4 : d2 ≤ 9223372036854775807) (r1 : rightR n1 d1 t1 = false) (r2 : rightR n2 d2 t2 = true) :
    Calls Tryz.prog 50 #[.agg #[.int .i64 n1, .int .i64 d1, .int .i64 t1], .agg #[.int .i64 n2, .int .i64 d2, .int .i64 t2]] w fun e w' => e = .returned (⟨0, 0, 0, 1⟩ : Got).r ∧ Below w.heap.size w w' := by
  have R1 : Hid (rightR n1 d1 t1 = false) := r1
  have R2 : Hid (rightR n2 d2 t2 = true) := r2
  clear r1 r2
  have hA := TwoRAt.new w n1 d1 t1 n2 d2 t2
  go_enter Tryz.func50, Tryz.ntmps50
  go_wp2_with fail
  refine (rright_any n1 d1 t1 _ h1 h2).mono ?_
  rintro e w1 ⟨rfl, hb⟩
  rw [R1.out]
  replace hA := hA.below hb
  clear hb
  obtain ⟨c0, c1, c2, c3, c4, c5⟩ := hA.cells
  go_wp2_with fail
  refine (rright_any n2 d2 t2 _ h3 h4).mono ?_
  rintro e w2 ⟨rfl, hb⟩
  rw [R2.out]
  replace hA := hA.below hb
  clear hb c0 c1 c2 c3 c4 c5
  obtain ⟨c0, c1, c2, c3, c4, c5⟩ := hA.cells
  obtain ⟨hB, _, _, m0, m1, m2, m3, mf, mz⟩ := id hA
  go_wp2
  all_goals
    refine bodyPost_ret (v := (⟨0, 0, 0, 1⟩ : Got).r) (by simp [results, Tryz.results50, go_sem, Got.r, m0, m1, m2, m3]) rfl ⟨rfl, ?_⟩
    go_grown

set_option maxRecDepth 100000 in
set_option maxHeartbeats 1000000 in
theorem rdivF_true_false (n1 d1 t1 n2 d2 t2 : Int) (w : World) (h1 : n1 ≤ 9223372036854775807) (h2 : d1 ≤ 9223372036854775807) (h3 : n2 ≤ 9223372036854775807) (h4 : d2 ≤ 9223372036854775807) (r1 : rightR n1 d1 t1 = true) (r2 : rightR n2 d2 t2 = false) :
    Calls Tryz.prog 50 #[.agg #[.int .i64 n1, .int .i64 d1, .int .i64 t1], .agg #[.int .i64 n2, .int .i64 d2, .int .i64 t2]] w fun e w' => e = .returned (⟨0, 0, 0, 1⟩ : Got).r ∧ Below w.heap.size w w' := by
  have R1 : Hid (rightR n1 d1 t1 = true) := r1
  have R2 : Hid (rightR n2 d2 t2 = false) := r2
  clear r1 r2
  have hA := TwoRAt.new w n1 d1 t1 n2 d2 t2
  go_enter Tryz.func50, Tryz.ntmps50
  go_wp2_with fail
  refine (rright_any n1 d1 t1 _ h1 h2).mono ?_
  rintro e w1 ⟨rfl, hb⟩
  rw [R1.out]
  replace hA := hA.below hb
  clear hb
  obtain ⟨c0, c1, c2, c3, c4, c5⟩ := hA.cells
  go_wp2_with fail
  refine (rright_any n2 d2 t2 _ h3 h4).mono ?_
  rintro e w2 ⟨rfl, hb⟩
  rw [R2.out]
  replace hA := hA.below hb
  clear hb c0 c1 c2 c3 c4 c5
  obtain ⟨c0, c1, c2, c3, c4, c5⟩ := hA.cells
  obtain ⟨hB, _, _, m0, m1, m2, m3, mf, mz⟩ := id hA
  go_wp2
  all_goals
    refine bodyPost_ret (v := (⟨0, 0, 0, 1⟩ : Got).r) (by simp [results, Tryz.results50, go_sem, Got.r, m0, m1, m2, m3]) rfl ⟨rfl, ?_⟩
    go_grown

set_option maxRecDepth 100000 in
set_option maxHeartbeats 1000000 in
theorem rmulF_zero1 (n1 d1 t1 n2 d2 t2 : Int) (w : World) (h1 : n1 ≤ 9223372036854775807) (h2 : d1 ≤ 9223372036854775807) (h3 : n2 ≤ 9223372036854775807) (h4 : d2 ≤ 9223372036854775807) (r1 : rightR n1 d1 t1 = true) (r2 : rightR n2 d2 t2 = true) (hz : n1 = 0) :
    Calls Tryz.prog 48 #[.agg #[.int .i64 n1, .int .i64 d1, .int .i64 t1], .agg #[.int .i64 n2, .int .i64 d2, .int .i64 t2]] w fun e w' => e = .returned (⟨0, 1, 0, 0⟩ : Got).r ∧ Below w.heap.size w w' := by
  have R1 : Hid (rightR n1 d1 t1 = true) := r1
  have R2 : Hid (rightR n2 d2 t2 = true) := r2
  clear r1 r2
  have zz : (n1 == 0) = true := by simp [hz]
  clear hz
  have hA := TwoRAt.new w n1 d1 t1 n2 d2 t2
  go_enter Tryz.func48, Tryz.ntmps48
  go_wp2_with fail
  refine (rright_any n1 d1 t1 _ h1 h2).mono ?_
  rintro e w1 ⟨rfl, hb⟩
  rw [R1.out]
  replace hA := hA.below hb
  clear hb
  obtain ⟨c0, c1, c2, c3, c4, c5⟩ := hA.cells
  go_wp2_with fail
  refine (rright_any n2 d2 t2 _ h3 h4).mono ?_
  rintro e w2 ⟨rfl, hb⟩
  rw [R2.out]
  replace hA := hA.below hb
  clear hb c0 c1 c2 c3 c4 c5
  obtain ⟨c0, c1, c2, c3, c4, c5⟩ := hA.cells
  obtain ⟨hB, _, _, m0, m1, m2, m3, mf, mz⟩ := id hA
  go_wp2
  all_goals
    refine bodyPost_ret (v := (⟨0, 1, 0, 0⟩ : Got).r) (by simp [results, Tryz.results48, go_sem, Got.r, m0, m1, m2, m3]) rfl ⟨rfl, ?_⟩
    go_grown

set_option maxRecDepth 100000 in
set_option maxHeartbeats 1000000 in
theorem rmulF_zero2 (n1 d1 t1 n2 d2 t2 : Int) (w : World) (h1 : n1 ≤ 9223372036854775807) (h2 : d1 ≤ 9223372036854775807) (h3 : n2 ≤ 9223372036854775807) (h4 : d2 ≤ 9223372036854775807) (r1 : rightR n1 d1 t1 = true) (r2 : rightR n2 d2 t2 = true) (hz1 : n1 ≠ 0) (hz : n2 = 0) :
    Calls Tryz.prog 48 #[.agg #[.int .i64 n1, .int .i64 d1, .int .i64 t1], .agg #[.int .i64 n2, .int .i64 d2, .int .i64 t2]] w fun e w' => e = .returned (⟨0, 1, 0, 0⟩ : Got).r ∧ Below w.heap.size w w' := by
  have R1 : Hid (rightR n1 d1 t1 = true) := r1
  have R2 : Hid (rightR n2 d2 t2 = true) := r2
  clear r1 r2
  have zz : (n2 == 0) = true := by simp [hz]
  have z1 : (n1 == 0) = false := by simpa using hz1
  clear hz hz1
  have hA := TwoRAt.new w n1 d1 t1 n2 d2 t2
  go_enter Tryz.func48, Tryz.ntmps48
  go_wp2_with fail
  refine (rright_any n1 d1 t1 _ h1 h2).mono ?_
  rintro e w1 ⟨rfl, hb⟩
  rw [R1.out]
  replace hA := hA.below hb
  clear hb
  obtain ⟨c0, c1, c2, c3, c4, c5⟩ := hA.cells
  go_wp2_with fail
  refine (rright_any n2 d2 t2 _ h3 h4).mono ?_
  rintro e w2 ⟨rfl, hb⟩
  rw [R2.out]
  replace hA := hA.below hb
  clear hb c0 c1 c2 c3 c4 c5
  obtain ⟨c0, c1, c2, c3, c4, c5⟩ := hA.cells
  obtain ⟨hB, _, _, m0, m1, m2, m3, mf, mz⟩ := id hA
  go_wp2
  all_goals
    refine bodyPost_ret (v := (⟨0, 1, 0, 0⟩ : Got).r) (by simp [results, Tryz.results48, go_sem, Got.r, m0, m1, m2, m3]) rfl ⟨rfl, ?_⟩
    go_grown

set_option maxRecDepth 100000 in
set_option maxHeartbeats 1000000 in
theorem rdivF_zero2 (n1 d1 t1 n2 d2 t2 : Int) (w : World) (h1 : n1 ≤ 9223372036854775807) (h2 : d1 ≤ 9223372036854775807) (h3 : n2 ≤ 9223372036854775807) (h4 : d2 ≤ 9223372036854775807) (r1 : rightR n1 d1 t1 = true) (r2 : rightR n2 d2 t2 = true) (hz : n2 = 0) :
    Calls Tryz.prog 50 #[.agg #[.int .i64 n1, .int .i64 d1, .int .i64 t1], .agg #[.int .i64 n2, .int .i64 d2, .int .i64 t2]] w fun e w' => e = .returned (⟨0, 0, 0, 11⟩ : Got).r ∧ Below w.heap.size w w' := by
  have R1 : Hid (rightR n1 d1 t1 = true) := r1
  have R2 : Hid (rightR n2 d2 t2 = true) := r2
  clear r1 r2
  have zz : (n2 == 0) = true := by simp [hz]
  clear hz
  have hA := TwoRAt.new w n1 d1 t1 n2 d2 t2
  go_enter Tryz.func50, Tryz.ntmps50
  go_wp2_with fail
  refine (rright_any n1 d1 t1 _ h1 h2).mono ?_
  rintro e w1 ⟨rfl, hb⟩
  rw [R1.out]
  replace hA := hA.below hb
  clear hb
  obtain ⟨c0, c1, c2, c3, c4, c5⟩ := hA.cells
  go_wp2_with fail
  refine (rright_any n2 d2 t2 _ h3 h4).mono ?_
  rintro e w2 ⟨rfl, hb⟩
  rw [R2.out]
  replace hA := hA.below hb
  clear hb c0 c1 c2 c3 c4 c5
  obtain ⟨c0, c1, c2, c3, c4, c5⟩ := hA.cells
  obtain ⟨hB, _, _, m0, m1, m2, m3, mf, mz⟩ := id hA
  go_wp2
  all_goals
    refine bodyPost_ret (v := (⟨0, 0, 0, 11⟩ : Got).r) (by simp [results, Tryz.results50, go_sem, Got.r, m0, m1, m2, m3]) rfl ⟨rfl, ?_⟩
    go_grown

set_option maxRecDepth 100000 in
set_option maxHeartbeats 1000000 in
theorem rdivF_zero1 (n1 d1 t1 n2 d2 t2 : Int) (w : World) (h1 : n1 ≤ 9223372036854775807) (h2 : d1 ≤ 9223372036854775807) (h3 : n2 ≤ 9223372036854775807) (h4 : d2 ≤ 9223372036854775807) (r1 : rightR n1 d1 t1 = true) (r2 : rightR n2 d2 t2 = true) (hz : n1 = 0) (hz2 : n2 ≠ 0) :
    Calls Tryz.prog 50 #[.agg #[.int .i64 n1, .int .i64 d1, .int .i64 t1], .agg #[.int .i64 n2, .int .i64 d2, .int .i64 t2]] w fun e w' => e = .returned (⟨0, 1, 0, 0⟩ : Got).r ∧ Below w.heap.size w w' := by
  have R1 : Hid (rightR n1 d1 t1 = true) := r1
  have R2 : Hid (rightR n2 d2 t2 = true) := r2
  clear r1 r2
  have zz : (n1 == 0) = true := by simp [hz]
  have z2 : (n2 == 0) = false := by simpa using hz2
  clear hz hz2
  have hA := TwoRAt.new w n1 d1 t1 n2 d2 t2
  go_enter Tryz.func50, Tryz.ntmps50
  go_wp2_with fail
  refine (rright_any n1 d1 t1 _ h1 h2).mono ?_
  rintro e w1 ⟨rfl, hb⟩
  rw [R1.out]
  replace hA := hA.below hb
  clear hb
  obtain ⟨c0, c1, c2, c3, c4, c5⟩ := hA.cells
  go_wp2_with fail
  refine (rright_any n2 d2 t2 _ h3 h4).mono ?_
  rintro e w2 ⟨rfl, hb⟩
  rw [R2.out]
  replace hA := hA.below hb
  clear hb c0 c1 c2 c3 c4 c5
  obtain ⟨c0, c1, c2, c3, c4, c5⟩ := hA.cells
  obtain ⟨hB, _, _, m0, m1, m2, m3, mf, mz⟩ := id hA
  go_wp2
  all_goals
    refine bodyPost_ret (v := (⟨0, 1, 0, 0⟩ : Got).r) (by simp [results, Tryz.results50, go_sem, Got.r, m0, m1, m2, m3]) rfl ⟨rfl, ?_⟩
    go_grown

set_option maxRecDepth 100000 in
set_option maxHeartbeats 1000000 in
theorem rmulF_right (n1 d1 t1 n2 d2 t2 : Int) (w : World) (h1 : n1 ≤ 9223372036854775807) (h2 : d1 ≤ 9223372036854775807) (h3 : n2 ≤ 9223372036854775807) (h4 : d2 ≤ 9223372036854775807) (r1 : rightR n1 d1 t1 = true) (r2 : rightR n2 d2 t2 = true) (hn1 : n1 ≠ 0) (hn2 : n2 ≠ 0) :
    Calls Tryz.prog 48 #[.agg #[.int .i64 n1, .int .i64 d1, .int .i64 t1], .agg #[.int .i64 n2, .int .i64 d2, .int .i64 t2]] w fun e w' => e = .returned (timesF (ofS n1 d1) (ofS n2 d2) (t1 + t2)).r ∧ Below w.heap.size w w' := by
  obtain ⟨x1, x2, x3, x4, x5⟩ := rightR_fine h1 h2 r1
  obtain ⟨y1, y2, y3, y4, y5⟩ := rightR_fine h3 h4 r2
  have ok1 := ofS_ok n1 d1 hn1 (by omega) x1 (by omega)
  have ok2 := ofS_ok n2 d2 hn2 (by omega) y1 (by omega)
  have R1 := Lib.hid r1
  have R2 := Lib.hid r2
  have Z1 := Lib.hid hn1
  have Z2 := Lib.hid hn2
  have D1 : Hid (d1 ≠ 0) := by show d1 ≠ 0; omega
  have D2 : Hid (d2 ≠ 0) := by show d2 ≠ 0; omega
  have z1 : (n1 == 0) = false := by simpa using hn1
  have z2 : (n2 == 0) = false := by simpa using hn2
  clear r1 r2 hn1 hn2
  have ne1 : ¬ w.heap.size = w.heap.size + 1 + 1 := by omega
  have ne2 : ¬ w.heap.size + 1 + 1 = w.heap.size := by omega
  have wt : IntKind.i64.wrap (t1 + t2) = t1 + t2 := IntWalk.i64_in _ ⟨by omega, by omega⟩
  have hA := TwoRAt.new w n1 d1 t1 n2 d2 t2
  go_enter Tryz.func48, Tryz.ntmps48
  go_wp2_with fail
  refine (rright_any n1 d1 t1 _ h1 h2).mono ?_
  rintro e w1 ⟨rfl, hb⟩
  rw [R1.out]
  replace hA := hA.below hb
  clear hb
  obtain ⟨c0, c1, c2, c3, c4, c5⟩ := hA.cells
  go_wp2_with fail
  refine (rright_any n2 d2 t2 _ h3 h4).mono ?_
  rintro e w2 ⟨rfl, hb⟩
  rw [R2.out]
  replace hA := hA.below hb
  clear hb c0 c1 c2 c3 c4 c5
  obtain ⟨c0, c1, c2, c3, c4, c5⟩ := hA.cells
  go_wp2_with fail
  clear c0 c1 c2 c3 c4 c5
  go_region_held3 (fun v => v.cell? ⟨w.heap.size, 0, none⟩ = some (.int .i64 n1) ∧ v.cell? ⟨w.heap.size, 1, none⟩ = some (.int .i64 d1) ∧ v.cell? ⟨w.heap.size, 2, none⟩ = some (.int .i64 t1) ∧ v.cell? ⟨w.heap.size + 1, 0, none⟩ = some (.int .i64 n2) ∧ v.cell? ⟨w.heap.size + 1, 1, none⟩ = some (.int .i64 d2) ∧ v.cell? ⟨w.heap.size + 1, 2, none⟩ = some (.int .i64 t2))
    (first | exact hA.drew.cells | exact hA.cells | go_keep)
    (first
      | (go_at_call_of 38 (Value.int IntKind.i64 n1); refine (of_any n1 d1 _ x1 (by omega) Z1.out D1.out).mono ?_; rintro e w3 ⟨rfl, hb⟩; replace hA := hA.drew.below hb; clear hb)
      | (go_at_call_of 38 (Value.int IntKind.i64 n2); refine (of_any n2 d2 _ y1 (by omega) Z2.out D2.out).mono ?_; rintro e w4 ⟨rfl, hb⟩; replace hA := hA.below hb; clear hb)
      | (go_at_call 78; refine (rtimes_any (ofS n1 d1) (ofS n2 d2) (t1 + t2) _ (ok1.more (by omega)) ((ok2.more (by omega))) (by omega) (by omega)).mono ?_; rintro e w6 ⟨rfl, hb⟩; replace hA := hA.below hb; clear hb; generalize hG : timesF (ofS n1 d1) (ofS n2 d2) (t1 + t2) = G; have HG := Lib.hid hG; clear hG; unfold Got.r; obtain ⟨c0, c1, c2, c3, c4, c5⟩ := hA.cells; obtain ⟨hB, _, _, m0, m1, m2, m3, mf, mz⟩ := id hA))
  go_wp2
  refine bodyPost_ret (v := G.r) (by simp [results, Tryz.results48, go_sem, Got.r, m0, m1, m2, m3]) rfl ⟨by rw [HG.out], ?_⟩
  go_grown

set_option maxRecDepth 100000 in
set_option maxHeartbeats 1000000 in
theorem rdivF_right (n1 d1 t1 n2 d2 t2 : Int) (w : World) (h1 : n1 ≤ 9223372036854775807) (h2 : d1 ≤ 9223372036854775807) (h3 : n2 ≤ 9223372036854775807) (h4 : d2 ≤ 9223372036854775807) (r1 : rightR n1 d1 t1 = true) (r2 : rightR n2 d2 t2 = true) (hn1 : n1 ≠ 0) (hn2 : n2 ≠ 0) :
    Calls Tryz.prog 50 #[.agg #[.int .i64 n1, .int .i64 d1, .int .i64 t1], .agg #[.int .i64 n2, .int .i64 d2, .int .i64 t2]] w fun e w' => e = .returned (timesF (ofS n1 d1) (turnS (ofS n2 d2)) (t1 - t2)).r ∧ Below w.heap.size w w' := by
  obtain ⟨x1, x2, x3, x4, x5⟩ := rightR_fine h1 h2 r1
  obtain ⟨y1, y2, y3, y4, y5⟩ := rightR_fine h3 h4 r2
  have ok1 := ofS_ok n1 d1 hn1 (by omega) x1 (by omega)
  have ok2 := ofS_ok n2 d2 hn2 (by omega) y1 (by omega)
  have R1 := Lib.hid r1
  have R2 := Lib.hid r2
  have Z1 := Lib.hid hn1
  have Z2 := Lib.hid hn2
  have D1 : Hid (d1 ≠ 0) := by show d1 ≠ 0; omega
  have D2 : Hid (d2 ≠ 0) := by show d2 ≠ 0; omega
  have z1 : (n1 == 0) = false := by simpa using hn1
  have z2 : (n2 == 0) = false := by simpa using hn2
  clear r1 r2 hn1 hn2
  have ne1 : ¬ w.heap.size = w.heap.size + 1 + 1 := by omega
  have ne2 : ¬ w.heap.size + 1 + 1 = w.heap.size := by omega
  have wt : IntKind.i64.wrap (t1 - t2) = t1 - t2 := IntWalk.i64_in _ ⟨by omega, by omega⟩
  have hA := TwoRAt.new w n1 d1 t1 n2 d2 t2
  go_enter Tryz.func50, Tryz.ntmps50
  go_wp2_with fail
  refine (rright_any n1 d1 t1 _ h1 h2).mono ?_
  rintro e w1 ⟨rfl, hb⟩
  rw [R1.out]
  replace hA := hA.below hb
  clear hb
  obtain ⟨c0, c1, c2, c3, c4, c5⟩ := hA.cells
  go_wp2_with fail
  refine (rright_any n2 d2 t2 _ h3 h4).mono ?_
  rintro e w2 ⟨rfl, hb⟩
  rw [R2.out]
  replace hA := hA.below hb
  clear hb c0 c1 c2 c3 c4 c5
  obtain ⟨c0, c1, c2, c3, c4, c5⟩ := hA.cells
  go_wp2_with fail
  clear c0 c1 c2 c3 c4 c5
  go_region_held3 (fun v => v.cell? ⟨w.heap.size, 0, none⟩ = some (.int .i64 n1) ∧ v.cell? ⟨w.heap.size, 1, none⟩ = some (.int .i64 d1) ∧ v.cell? ⟨w.heap.size, 2, none⟩ = some (.int .i64 t1) ∧ v.cell? ⟨w.heap.size + 1, 0, none⟩ = some (.int .i64 n2) ∧ v.cell? ⟨w.heap.size + 1, 1, none⟩ = some (.int .i64 d2) ∧ v.cell? ⟨w.heap.size + 1, 2, none⟩ = some (.int .i64 t2))
    (first | exact hA.drew.cells | exact hA.cells | go_keep)
    (first
      | (go_at_call_of 38 (Value.int IntKind.i64 n1); refine (of_any n1 d1 _ x1 (by omega) Z1.out D1.out).mono ?_; rintro e w3 ⟨rfl, hb⟩; replace hA := hA.drew.below hb; clear hb)
      | (go_at_call_of 38 (Value.int IntKind.i64 n2); refine (of_any n2 d2 _ y1 (by omega) Z2.out D2.out).mono ?_; rintro e w4 ⟨rfl, hb⟩; replace hA := hA.below hb; clear hb)
      | (go_at_call 79; refine (rturned_any (ofS n2 d2) _ (ok2.more (by omega))).mono ?_; rintro e w5 ⟨rfl, hb⟩; replace hA := hA.below hb; clear hb)
      | (go_at_call 78; refine (rtimes_any (ofS n1 d1) (turnS (ofS n2 d2)) (t1 - t2) _ (ok1.more (by omega)) (turnS_ok (ok2.more (by omega))) (by omega) (by omega)).mono ?_; rintro e w6 ⟨rfl, hb⟩; replace hA := hA.below hb; clear hb; generalize hG : timesF (ofS n1 d1) (turnS (ofS n2 d2)) (t1 - t2) = G; have HG := Lib.hid hG; clear hG; unfold Got.r; obtain ⟨c0, c1, c2, c3, c4, c5⟩ := hA.cells; obtain ⟨hB, _, _, m0, m1, m2, m3, mf, mz⟩ := id hA))
  go_wp2
  refine bodyPost_ret (v := G.r) (by simp [results, Tryz.results50, go_sem, Got.r, m0, m1, m2, m3]) rfl ⟨by rw [HG.out], ?_⟩
  go_grown

theorem rmulF_any (n1 d1 t1 n2 d2 t2 : Int) (w : World) (h1 : n1 ≤ 9223372036854775807) (h2 : d1 ≤ 9223372036854775807) (h3 : n2 ≤ 9223372036854775807) (h4 : d2 ≤ 9223372036854775807) :
    Calls Tryz.prog 48 #[.agg #[.int .i64 n1, .int .i64 d1, .int .i64 t1], .agg #[.int .i64 n2, .int .i64 d2, .int .i64 t2]] w fun e w' => e = .returned (mulR n1 d1 t1 n2 d2 t2).r ∧ Below w.heap.size w w' := by
  unfold mulR
  cases r1 : rightR n1 d1 t1 with
  | false =>
    rw [if_pos (.inl rfl)]
    cases r2 : rightR n2 d2 t2 with
    | false => exact rmulF_false_false n1 d1 t1 n2 d2 t2 w h1 h2 h3 h4 r1 r2
    | true => exact rmulF_false_true n1 d1 t1 n2 d2 t2 w h1 h2 h3 h4 r1 r2
  | true =>
    cases r2 : rightR n2 d2 t2 with
    | false => rw [if_pos (.inr rfl)]; exact rmulF_true_false n1 d1 t1 n2 d2 t2 w h1 h2 h3 h4 r1 r2
    | true =>
      rw [if_neg (by simp)]
      by_cases z1 : n1 = 0
      · rw [if_pos (.inl z1)]; exact rmulF_zero1 n1 d1 t1 n2 d2 t2 w h1 h2 h3 h4 r1 r2 z1
      by_cases z2 : n2 = 0
      · rw [if_pos (.inr z2)]; exact rmulF_zero2 n1 d1 t1 n2 d2 t2 w h1 h2 h3 h4 r1 r2 z1 z2
      · rw [if_neg (by omega)]; exact rmulF_right n1 d1 t1 n2 d2 t2 w h1 h2 h3 h4 r1 r2 z1 z2

theorem rdivF_any (n1 d1 t1 n2 d2 t2 : Int) (w : World) (h1 : n1 ≤ 9223372036854775807) (h2 : d1 ≤ 9223372036854775807) (h3 : n2 ≤ 9223372036854775807) (h4 : d2 ≤ 9223372036854775807) :
    Calls Tryz.prog 50 #[.agg #[.int .i64 n1, .int .i64 d1, .int .i64 t1], .agg #[.int .i64 n2, .int .i64 d2, .int .i64 t2]] w fun e w' => e = .returned (divR n1 d1 t1 n2 d2 t2).r ∧ Below w.heap.size w w' := by
  unfold divR
  cases r1 : rightR n1 d1 t1 with
  | false =>
    rw [if_pos (.inl rfl)]
    cases r2 : rightR n2 d2 t2 with
    | false => exact rdivF_false_false n1 d1 t1 n2 d2 t2 w h1 h2 h3 h4 r1 r2
    | true => exact rdivF_false_true n1 d1 t1 n2 d2 t2 w h1 h2 h3 h4 r1 r2
  | true =>
    cases r2 : rightR n2 d2 t2 with
    | false => rw [if_pos (.inr rfl)]; exact rdivF_true_false n1 d1 t1 n2 d2 t2 w h1 h2 h3 h4 r1 r2
    | true =>
      rw [if_neg (by simp)]
      by_cases z2 : n2 = 0
      · rw [if_pos z2]; exact rdivF_zero2 n1 d1 t1 n2 d2 t2 w h1 h2 h3 h4 r1 r2 z2
      rw [if_neg z2]
      by_cases z1 : n1 = 0
      · rw [if_pos z1]; exact rdivF_zero1 n1 d1 t1 n2 d2 t2 w h1 h2 h3 h4 r1 r2 z1 z2
      · rw [if_neg z1]; exact rdivF_right n1 d1 t1 n2 d2 t2 w h1 h2 h3 h4 r1 r2 z1 z2

end Go.Proofs.YtndinbefljajcaaGreatDoor.Frac

/-
  Contract of frac.Div, by one Lean function of the numbers; the world below stays as it was.
-/
import Derived.Test.YtfpopppapjfelaaDoorF6
namespace Go.Proofs.YtfpopppapjfelaaDoor.Frac
open Go.RowKit
open Go.Proofs.YtfpopppapjfelaaDoor.Whole
set_option linter.unusedVariables false

set_option maxRecDepth 100000 in
set_option maxHeartbeats 1000000 in
theorem div_right (n1 d1 t1 n2 d2 t2 : Int) (w : World) (hT : OfTen w) (h1 : n1 ≤ 9223372036854775807) (h2 : d1 ≤ 9223372036854775807) (h3 : n2 ≤ 9223372036854775807) (h4 : d2 ≤ 9223372036854775807) (r1 : rightB n1 d1 t1 = true) (r2 : rightB n2 d2 t2 = true) (h0 : n2 ≠ 0) :
    Calls Tryd.prog 18 #[.agg #[.int .i64 n1, .int .i64 d1, .int .i64 t1], .agg #[.int .i64 n2, .int .i64 d2, .int .i64 t2]] w fun e w' => e = .returned (joinP (partsP n1 d1 t1) 1 (turnP (partsP n2 d2 t2))).v ∧ Below w.heap.size w w' := by
  obtain ⟨x1, x2, x3, x4, x5⟩ := right_fine h1 h2 r1
  obtain ⟨y1, y2, y3, y4, y5⟩ := right_fine h3 h4 r2
  have ok1 := parts_ok n1 d1 t1 x1 x2 x3 (by omega) (by omega)
  have ok2 := parts_ok n2 d2 t2 y1 y2 y3 (by omega) (by omega)
  have ok3 := turn_ok ok2 (parts_ne n2 d2 t2 h0)
  have z0 : (n2 == 0) = false := by simpa using h0
  clear h0
  have R1 := Lib.hid r1
  have R2 := Lib.hid r2
  clear r1 r2
  have ne1 : ¬ w.heap.size = w.heap.size + 1 + 1 := by omega
  have ne2 : ¬ w.heap.size + 1 + 1 = w.heap.size := by omega
  have hA := TwoAt.new w n1 d1 t1 n2 d2 t2
  go_enter Tryd.func18, Tryd.ntmps18
  go_wp2_with fail
  refine (right_any n1 d1 t1 _ (hT.below hA.1) h1 h2).mono ?_
  rintro e w1 ⟨rfl, hb⟩
  rw [R1.out]
  replace hA := hA.below hb
  obtain ⟨c0, c1, c2, c3, c4, c5⟩ := hA.cells
  go_wp2_with fail
  clear hb
  refine (right_any n2 d2 t2 _ (hT.below hA.1) h3 h4).mono ?_
  rintro e w2 ⟨rfl, hb⟩
  rw [R2.out]
  replace hA := hA.below hb
  clear c0 c1 c2 c3 c4 c5 hb
  obtain ⟨c0, c1, c2, c3, c4, c5⟩ := hA.cells
  go_wp2
  clear c0 c1 c2 c3 c4 c5
  go_region_held3 (fun v => v.cell? ⟨w.heap.size, 0, none⟩ = some (.int .i64 n1) ∧ v.cell? ⟨w.heap.size, 1, none⟩ = some (.int .i64 d1) ∧ v.cell? ⟨w.heap.size, 2, none⟩ = some (.int .i64 t1) ∧ v.cell? ⟨w.heap.size + 1, 0, none⟩ = some (.int .i64 n2) ∧ v.cell? ⟨w.heap.size + 1, 1, none⟩ = some (.int .i64 d2) ∧ v.cell? ⟨w.heap.size + 1, 2, none⟩ = some (.int .i64 t2))
    (first | exact hA.drew.cells | exact hA.cells | go_keep)
    (first
      | (go_at_call_of 37 (Value.agg #[Value.int IntKind.i64 n1, Value.int IntKind.i64 d1, Value.int IntKind.i64 t1]); refine (partsOf_any n1 d1 t1 _ (hT.below hA.drew.1) x1 x4 x5).mono ?_; rintro e w3 ⟨rfl, hb⟩; replace hA := hA.drew.below hb; clear hb)
      | (go_at_call_of 37 (Value.agg #[Value.int IntKind.i64 n2, Value.int IntKind.i64 d2, Value.int IntKind.i64 t2]); refine (partsOf_any n2 d2 t2 _ (hT.below hA.1) y1 y4 y5).mono ?_; rintro e w4 ⟨rfl, hb⟩; replace hA := hA.below hb; clear hb)
      | (go_at_call 29; refine (turned_any (partsP n2 d2 t2) _ (ok2.more (by omega))).mono ?_; rintro e w45 ⟨rfl, hb⟩; replace hA := hA.below hb; clear hb)
      | (go_at_call 28; refine (times_at (turnP (partsP n2 d2 t2)) _).mono ?_; rintro e w5 ⟨rfl, hL, hb⟩; replace hA := hA.below hb; clear hb)
      | (go_at_call 26; refine (join_any _ _ 1 _ _ (hT.below hA.1) hL (ok1.more (by omega)) (ok3.more (by omega)) (by omega)).mono ?_; rintro e w6 ⟨rfl, hb⟩; replace hA := hA.below hb; clear hb hL; generalize hG : joinP _ 1 (turnP (partsP n2 d2 t2)) = G; have HG := Lib.hid hG; clear hG; unfold Got.v; obtain ⟨c0, c1, c2, c3, c4, c5⟩ := hA.cells; obtain ⟨hB, _, _, m0, m1, m2, mf, mz⟩ := id hA))
  go_wp2
  refine bodyPost_ret (v := G.v) (by simp [results, Tryd.results18, go_sem, Got.v, m0, m1, m2]) rfl ⟨by rw [HG.out], ?_⟩
  go_grown

set_option maxRecDepth 100000 in
set_option maxHeartbeats 1000000 in
theorem div_arg1 (n1 d1 t1 n2 d2 t2 : Int) (w : World) (hT : OfTen w) (h1 : n1 ≤ 9223372036854775807) (h2 : d1 ≤ 9223372036854775807) (r1 : rightB n1 d1 t1 = false) :
    Calls Tryd.prog 18 #[.agg #[.int .i64 n1, .int .i64 d1, .int .i64 t1], .agg #[.int .i64 n2, .int .i64 d2, .int .i64 t2]] w fun e w' => e = .returned (.tuple #[.agg #[.int .i64 0, .int .i64 0, .int .i64 0], .int .i64 1]) ∧ Below w.heap.size w w' := by
  have R1 := Lib.hid r1
  clear r1
  have hA := TwoAt.new w n1 d1 t1 n2 d2 t2
  go_enter Tryd.func18, Tryd.ntmps18
  go_wp2_with fail
  refine (right_any n1 d1 t1 _ (hT.below hA.1) h1 h2).mono ?_
  rintro e w1 ⟨rfl, hb⟩
  rw [R1.out]
  replace hA := hA.below hb
  obtain ⟨c0, c1, c2, c3, c4, c5⟩ := hA.cells
  obtain ⟨hB, _, _, m0, m1, m2, mf, mz⟩ := id hA
  clear hb
  go_wp2
  refine bodyPost_ret (v := .tuple #[.agg #[.int .i64 0, .int .i64 0, .int .i64 0], .int .i64 1]) (by simp [results, Tryd.results18, go_sem, m0, m1, m2]) rfl ⟨rfl, ?_⟩
  go_grown

set_option maxRecDepth 100000 in
set_option maxHeartbeats 1000000 in
theorem div_arg2 (n1 d1 t1 n2 d2 t2 : Int) (w : World) (hT : OfTen w) (h1 : n1 ≤ 9223372036854775807) (h2 : d1 ≤ 9223372036854775807) (h3 : n2 ≤ 9223372036854775807) (h4 : d2 ≤ 9223372036854775807) (r1 : rightB n1 d1 t1 = true) (r2 : rightB n2 d2 t2 = false) :
    Calls Tryd.prog 18 #[.agg #[.int .i64 n1, .int .i64 d1, .int .i64 t1], .agg #[.int .i64 n2, .int .i64 d2, .int .i64 t2]] w fun e w' => e = .returned (.tuple #[.agg #[.int .i64 0, .int .i64 0, .int .i64 0], .int .i64 1]) ∧ Below w.heap.size w w' := by
  have R1 := Lib.hid r1
  have R2 := Lib.hid r2
  clear r1 r2
  have hA := TwoAt.new w n1 d1 t1 n2 d2 t2
  go_enter Tryd.func18, Tryd.ntmps18
  go_wp2_with fail
  refine (right_any n1 d1 t1 _ (hT.below hA.1) h1 h2).mono ?_
  rintro e w1 ⟨rfl, hb⟩
  rw [R1.out]
  replace hA := hA.below hb
  obtain ⟨c0, c1, c2, c3, c4, c5⟩ := hA.cells
  clear hb
  go_wp2_with fail
  refine (right_any n2 d2 t2 _ (hT.below hA.1) h3 h4).mono ?_
  rintro e w2 ⟨rfl, hb⟩
  rw [R2.out]
  replace hA := hA.below hb
  obtain ⟨hB, _, _, m0, m1, m2, mf, mz⟩ := id hA
  clear hb c0 c1 c2 c3 c4 c5
  go_wp2
  refine bodyPost_ret (v := .tuple #[.agg #[.int .i64 0, .int .i64 0, .int .i64 0], .int .i64 1]) (by simp [results, Tryd.results18, go_sem, m0, m1, m2]) rfl ⟨rfl, ?_⟩
  go_grown

set_option maxRecDepth 100000 in
set_option maxHeartbeats 1000000 in
theorem div_zero (n1 d1 t1 d2 t2 : Int) (w : World) (hT : OfTen w) (h1 : n1 ≤ 9223372036854775807) (h2 : d1 ≤ 9223372036854775807) (h4 : d2 ≤ 9223372036854775807) (r1 : rightB n1 d1 t1 = true) (r2 : rightB 0 d2 t2 = true) :
    Calls Tryd.prog 18 #[.agg #[.int .i64 n1, .int .i64 d1, .int .i64 t1], .agg #[.int .i64 0, .int .i64 d2, .int .i64 t2]] w fun e w' => e = .returned (.tuple #[.agg #[.int .i64 0, .int .i64 0, .int .i64 0], .int .i64 11]) ∧ Below w.heap.size w w' := by
  have R1 := Lib.hid r1
  have R2 := Lib.hid r2
  clear r1 r2
  have hA := TwoAt.new w n1 d1 t1 0 d2 t2
  go_enter Tryd.func18, Tryd.ntmps18
  go_wp2_with fail
  refine (right_any n1 d1 t1 _ (hT.below hA.1) h1 h2).mono ?_
  rintro e w1 ⟨rfl, hb⟩
  rw [R1.out]
  replace hA := hA.below hb
  obtain ⟨c0, c1, c2, c3, c4, c5⟩ := hA.cells
  clear hb
  go_wp2_with fail
  refine (right_any 0 d2 t2 _ (hT.below hA.1) (by omega) h4).mono ?_
  rintro e w2 ⟨rfl, hb⟩
  rw [R2.out]
  replace hA := hA.below hb
  clear hb c0 c1 c2 c3 c4 c5
  obtain ⟨c0, c1, c2, c3, c4, c5⟩ := hA.cells
  obtain ⟨hB, _, _, m0, m1, m2, mf, mz⟩ := id hA
  go_wp2
  refine bodyPost_ret (v := .tuple #[.agg #[.int .i64 0, .int .i64 0, .int .i64 0], .int .i64 11]) (by simp [results, Tryd.results18, go_sem, m0, m1, m2]) rfl ⟨rfl, ?_⟩
  go_grown

theorem div_any (n1 d1 t1 n2 d2 t2 : Int) (w : World) (hT : OfTen w) (h1 : n1 ≤ 9223372036854775807) (h2 : d1 ≤ 9223372036854775807) (h3 : n2 ≤ 9223372036854775807) (h4 : d2 ≤ 9223372036854775807) :
    Calls Tryd.prog 18 #[.agg #[.int .i64 n1, .int .i64 d1, .int .i64 t1], .agg #[.int .i64 n2, .int .i64 d2, .int .i64 t2]] w fun e w' => e = .returned (divG n1 d1 t1 n2 d2 t2).v ∧ Below w.heap.size w w' := by
  unfold divG
  cases r1 : rightB n1 d1 t1 with
  | false => rw [if_pos (.inl rfl)]; exact div_arg1 n1 d1 t1 n2 d2 t2 w hT h1 h2 r1
  | true =>
    cases r2 : rightB n2 d2 t2 with
    | false => rw [if_pos (.inr rfl)]; exact div_arg2 n1 d1 t1 n2 d2 t2 w hT h1 h2 h3 h4 r1 r2
    | true =>
      rw [if_neg (by simp)]
      by_cases h0 : n2 = 0
      · rw [if_pos h0]; subst h0; exact div_zero n1 d1 t1 d2 t2 w hT h1 h2 h4 r1 r2
      · rw [if_neg h0]; exact div_right n1 d1 t1 n2 d2 t2 w hT h1 h2 h3 h4 r1 r2 h0

end Go.Proofs.YtfpopppapjfelaaDoor.Frac

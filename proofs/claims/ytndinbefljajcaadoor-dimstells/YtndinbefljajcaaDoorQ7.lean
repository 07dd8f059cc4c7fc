/-
  The walk of the law DimsTells: it returns true, for all dims, numbers and texts; old memory stays.
-/
import Derived.Test.YtndinbefljajcaaDoorQ5
import Derived.Test.YtndinbefljajcaaDoorQ6
namespace Go.Proofs.YtndinbefljajcaaDoor.Dims
open Go.RowKit Go.Shelf
set_option linter.unusedVariables false
set_option linter.unusedSimpArgs false

/-- How the world stands at the end of DimsTells. -/
def LawAt (w v : World) (q r : D7) (X : D7 × Bool) (bx bg : Nat) : Prop := Below w.heap.size w v ∧ Lies14 v w.heap.size q r ∧ Lies7 v bx X.1.get ∧ LiesG8 v bg X
theorem LawAt.go {w v v' : World} {q r : D7} {X : D7 × Bool} {bx bg : Nat} (h : LawAt w v q r X bx bg) (hb : Below v.heap.size v v') : LawAt w v' q r X bx bg :=
  ⟨Below.goB h.1 h.1.size hb, h.2.1.below hb h.2.1.2.2, h.2.2.1.below hb h.2.2.1.2.2, h.2.2.2.go hb⟩
theorem LawAt.drew {w v : World} {q r : D7} {X : D7 × Bool} {bx bg : Nat} (h : LawAt w v q r X bx bg) : LawAt w v.drew q r X bx bg := h.go (by go_grown)
theorem LawAt.cells {w v : World} {q r : D7} {X : D7 × Bool} {bx bg : Nat} (h : LawAt w v q r X bx bg) : v.cell? ⟨w.heap.size, 0, none⟩ = some (.int .i64 q.a0) ∧ v.cell? ⟨w.heap.size, 1, none⟩ = some (.int .i64 q.a1) ∧ v.cell? ⟨w.heap.size, 2, none⟩ = some (.int .i64 q.a2) ∧ v.cell? ⟨w.heap.size, 3, none⟩ = some (.int .i64 q.a3) ∧ v.cell? ⟨w.heap.size, 4, none⟩ = some (.int .i64 q.a4) ∧ v.cell? ⟨w.heap.size, 5, none⟩ = some (.int .i64 q.a5) ∧ v.cell? ⟨w.heap.size, 6, none⟩ = some (.int .i64 q.a6) ∧ v.cell? ⟨w.heap.size, 7, none⟩ = some (.int .i64 r.a0) ∧ v.cell? ⟨w.heap.size, 8, none⟩ = some (.int .i64 r.a1) ∧ v.cell? ⟨w.heap.size, 9, none⟩ = some (.int .i64 r.a2) ∧ v.cell? ⟨w.heap.size, 10, none⟩ = some (.int .i64 r.a3) ∧ v.cell? ⟨w.heap.size, 11, none⟩ = some (.int .i64 r.a4) ∧ v.cell? ⟨w.heap.size, 12, none⟩ = some (.int .i64 r.a5) ∧ v.cell? ⟨w.heap.size, 13, none⟩ = some (.int .i64 r.a6) ∧ v.cell? ⟨bx, 0, none⟩ = some (.int .i64 X.1.a0) ∧ v.cell? ⟨bx, 1, none⟩ = some (.int .i64 X.1.a1) ∧ v.cell? ⟨bx, 2, none⟩ = some (.int .i64 X.1.a2) ∧ v.cell? ⟨bx, 3, none⟩ = some (.int .i64 X.1.a3) ∧ v.cell? ⟨bx, 4, none⟩ = some (.int .i64 X.1.a4) ∧ v.cell? ⟨bx, 5, none⟩ = some (.int .i64 X.1.a5) ∧ v.cell? ⟨bx, 6, none⟩ = some (.int .i64 X.1.a6) ∧ v.cell? ⟨bg, 0, none⟩ = some (.int .i64 X.1.a0) ∧ v.cell? ⟨bg, 1, none⟩ = some (.int .i64 X.1.a1) ∧ v.cell? ⟨bg, 2, none⟩ = some (.int .i64 X.1.a2) ∧ v.cell? ⟨bg, 3, none⟩ = some (.int .i64 X.1.a3) ∧ v.cell? ⟨bg, 4, none⟩ = some (.int .i64 X.1.a4) ∧ v.cell? ⟨bg, 5, none⟩ = some (.int .i64 X.1.a5) ∧ v.cell? ⟨bg, 6, none⟩ = some (.int .i64 X.1.a6) ∧ v.cell? ⟨bg, 7, none⟩ = some (.bool X.2) := by
  obtain ⟨_, h1, h2, h3⟩ := h
  obtain ⟨a0, a1, a2, a3, a4, a5, a6⟩ := h1.fst
  obtain ⟨b0, b1, b2, b3, b4, b5, b6⟩ := h1.snd
  obtain ⟨c0, c1, c2, c3, c4, c5, c6⟩ := h2.cells
  obtain ⟨e0, e1, e2, e3, e4, e5, e6, e7⟩ := h3.cells
  exact ⟨a0, a1, a2, a3, a4, a5, a6, b0, b1, b2, b3, b4, b5, b6, c0, c1, c2, c3, c4, c5, c6, e0, e1, e2, e3, e4, e5, e6, e7⟩

theorem rest_in (x m : Int) (hm : 0 < m) : -m < x.tmod m ∧ x.tmod m < m := by
  constructor
  · have := Int.lt_tmod_of_pos x hm; omega
  · exact Int.tmod_lt_of_pos x hm

set_option maxRecDepth 100000 in
set_option maxHeartbeats 8000000 in
theorem tells_short (q r : D7) (n : Int) (s0 s : List UInt8) (w : World) (hE : Env w) (fq : Fine q) (fr : Fine r) (n0 : -9223372036854775808 ≤ n) (n1 : n ≤ 9223372036854775807) (hs : s = s0) (hl0 : s0.length ≤ 40) :
    Calls Tryd.prog 3 #[.agg #[.int .i64 q.a0, .int .i64 q.a1, .int .i64 q.a2, .int .i64 q.a3, .int .i64 q.a4, .int .i64 q.a5, .int .i64 q.a6, .int .i64 r.a0, .int .i64 r.a1, .int .i64 r.a2, .int .i64 r.a3, .int .i64 r.a4, .int .i64 r.a5, .int .i64 r.a6], .int .i64 n, .string (bs s0)] w fun e w' => e = .returned (.bool true) ∧ Below w.heap.size w w' := by
  have hl : s.length ≤ 40 := by rw [hs]; exact hl0
  have kR := fun V hV => read_any s (by omega) V hV
  have rR := fun V => rread_any s V (by omega)
  rw [readD_eq] at rR
  generalize readG s = X at *
  have z0 : (bs s0).size = s0.length := bs_size s0
  have z1 : ¬ (40 : Int) < (s0.length : Int) := by omega
  subst hs
  have m9 := rest_in n 9 (by omega)
  have m3 := rest_in n 3 (by omega)
  have k1 := fun V hV => tells_any q r n V hV fq fr n0 n1
  have nq9 := fun V => near_any q 99 V fq (by omega) (by omega)
  have nr9 := fun V => near_any r 99 V fr (by omega) (by omega)
  have nq5 := fun V => near_any q 50 V fq (by omega) (by omega)
  have nr4 := fun V => near_any r 49 V fr (by omega) (by omega)
  have k2 := fun V hV => tells_any (nearG q 99) (nearG r 99) (n.tmod 9) V hV (near_right q 99 (by omega) (by omega)).fine (near_right r 99 (by omega) (by omega)).fine (by omega) (by omega)
  have k3 := fun V hV => tells_any (nearG q 50) (nearG r 49) (n.tmod 3) V hV (near_right q 50 (by omega) (by omega)).fine (near_right r 49 (by omega) (by omega)).fine (by omega) (by omega)
  generalize nearG q 99 = Q9 at *
  generalize nearG r 99 = R9 at *
  generalize nearG q 50 = Q5 at *
  generalize nearG r 49 = R4 at *
  have lQ := Lies14.new w q r
  have hB : Below w.heap.size w (w.alloc (.cells #[.int .i64 q.a0, .int .i64 q.a1, .int .i64 q.a2, .int .i64 q.a3, .int .i64 q.a4, .int .i64 q.a5, .int .i64 q.a6, .int .i64 r.a0, .int .i64 r.a1, .int .i64 r.a2, .int .i64 r.a3, .int .i64 r.a4, .int .i64 r.a5, .int .i64 r.a6] 24)) := by go_grown
  simp only [D7.v, gotV] at kR rR k1 k2 k3 nq9 nr9 nq5 nr4
  go_enter Tryd.func3, Tryd.ntmps3
  go_wp2_with fail
  refine (awake_yes _ (hE.below hB)).mono ?_
  rintro e w1 ⟨rfl, hb⟩
  replace hB := Below.goB hB hB.size hb
  replace lQ := lQ.below hb lQ.2.2
  clear hb
  go_wp2_with fail
  refine (kR _ (hE.below hB)).mono ?_
  rintro e w2 ⟨rfl, hb⟩
  replace hB := Below.goB hB hB.size hb
  replace lQ := lQ.below hb lQ.2.2
  clear hb
  have lX := Lies7.new w2 X.1
  have hu : Below w2.heap.size w2 (w2.alloc (.cells #[.int .i64 X.1.a0, .int .i64 X.1.a1, .int .i64 X.1.a2, .int .i64 X.1.a3, .int .i64 X.1.a4, .int .i64 X.1.a5, .int .i64 X.1.a6] 23)) := by go_grown
  replace hB := Below.goB hB hB.size hu
  replace lQ := lQ.below hu lQ.2.2
  clear hu
  go_wp2_with fail
  generalize (w2.alloc (.cells #[.int .i64 X.1.a0, .int .i64 X.1.a1, .int .i64 X.1.a2, .int .i64 X.1.a3, .int .i64 X.1.a4, .int .i64 X.1.a5, .int .i64 X.1.a6] 23)) = V1 at *
  refine (rR _).mono ?_
  rintro e w3 ⟨rfl, hb⟩
  replace hB := Below.goB hB hB.size hb
  replace lQ := lQ.below hb lQ.2.2
  replace lX := lX.below hb lX.2.2
  clear hb
  have lG := LiesG8.new w3 X
  have hu : Below w3.heap.size w3 (w3.alloc (.cells #[.int .i64 X.1.a0, .int .i64 X.1.a1, .int .i64 X.1.a2, .int .i64 X.1.a3, .int .i64 X.1.a4, .int .i64 X.1.a5, .int .i64 X.1.a6, .bool X.2] 29)) := by go_grown
  replace hB := Below.goB hB hB.size hu
  replace lQ := lQ.below hu lQ.2.2
  replace lX := lX.below hu lX.2.2
  clear hu
  go_upto_region 6 with fail
  generalize (w3.alloc (.cells #[.int .i64 X.1.a0, .int .i64 X.1.a1, .int .i64 X.1.a2, .int .i64 X.1.a3, .int .i64 X.1.a4, .int .i64 X.1.a5, .int .i64 X.1.a6, .bool X.2] 29)) = V2 at *
  have hA : LawAt w V2 q r X w2.heap.size w3.heap.size := ⟨hB, lQ, lX, lG⟩
  have q1 := eq7 X.1.a0 X.1.a1 X.1.a2 X.1.a3 X.1.a4 X.1.a5 X.1.a6 X.1.a0 X.1.a1 X.1.a2 X.1.a3 X.1.a4 X.1.a5 X.1.a6
  rw [eqB_same] at q1
  have e1 : (X.2 == X.2) = true := by simp
  clear lQ lX lG hB kR rR
  generalize w2.heap.size = bx at *
  generalize w3.heap.size = bg at *
  go_region_held3 (fun v => v.cell? ⟨w.heap.size, 0, none⟩ = some (.int .i64 q.a0) ∧ v.cell? ⟨w.heap.size, 1, none⟩ = some (.int .i64 q.a1) ∧ v.cell? ⟨w.heap.size, 2, none⟩ = some (.int .i64 q.a2) ∧ v.cell? ⟨w.heap.size, 3, none⟩ = some (.int .i64 q.a3) ∧ v.cell? ⟨w.heap.size, 4, none⟩ = some (.int .i64 q.a4) ∧ v.cell? ⟨w.heap.size, 5, none⟩ = some (.int .i64 q.a5) ∧ v.cell? ⟨w.heap.size, 6, none⟩ = some (.int .i64 q.a6) ∧ v.cell? ⟨w.heap.size, 7, none⟩ = some (.int .i64 r.a0) ∧ v.cell? ⟨w.heap.size, 8, none⟩ = some (.int .i64 r.a1) ∧ v.cell? ⟨w.heap.size, 9, none⟩ = some (.int .i64 r.a2) ∧ v.cell? ⟨w.heap.size, 10, none⟩ = some (.int .i64 r.a3) ∧ v.cell? ⟨w.heap.size, 11, none⟩ = some (.int .i64 r.a4) ∧ v.cell? ⟨w.heap.size, 12, none⟩ = some (.int .i64 r.a5) ∧ v.cell? ⟨w.heap.size, 13, none⟩ = some (.int .i64 r.a6) ∧ v.cell? ⟨bx, 0, none⟩ = some (.int .i64 X.1.a0) ∧ v.cell? ⟨bx, 1, none⟩ = some (.int .i64 X.1.a1) ∧ v.cell? ⟨bx, 2, none⟩ = some (.int .i64 X.1.a2) ∧ v.cell? ⟨bx, 3, none⟩ = some (.int .i64 X.1.a3) ∧ v.cell? ⟨bx, 4, none⟩ = some (.int .i64 X.1.a4) ∧ v.cell? ⟨bx, 5, none⟩ = some (.int .i64 X.1.a5) ∧ v.cell? ⟨bx, 6, none⟩ = some (.int .i64 X.1.a6) ∧ v.cell? ⟨bg, 0, none⟩ = some (.int .i64 X.1.a0) ∧ v.cell? ⟨bg, 1, none⟩ = some (.int .i64 X.1.a1) ∧ v.cell? ⟨bg, 2, none⟩ = some (.int .i64 X.1.a2) ∧ v.cell? ⟨bg, 3, none⟩ = some (.int .i64 X.1.a3) ∧ v.cell? ⟨bg, 4, none⟩ = some (.int .i64 X.1.a4) ∧ v.cell? ⟨bg, 5, none⟩ = some (.int .i64 X.1.a5) ∧ v.cell? ⟨bg, 6, none⟩ = some (.int .i64 X.1.a6) ∧ v.cell? ⟨bg, 7, none⟩ = some (.bool X.2))
    (first | exact hA.drew.cells | exact hA.cells | go_keep)
    (first
      | (go_at_call_of 13 (Value.agg #[Value.int IntKind.i64 q.a0, Value.int IntKind.i64 q.a1, Value.int IntKind.i64 q.a2, Value.int IntKind.i64 q.a3, Value.int IntKind.i64 q.a4, Value.int IntKind.i64 q.a5, Value.int IntKind.i64 q.a6]); go_at_call_of 13 (Value.int IntKind.i64 99); refine (nq9 _).mono ?_; rintro e u ⟨rfl, hb⟩; (first | (replace hA := hA.go hb) | (replace hA := hA.drew.go hb)); clear hb)
      | (go_at_call_of 13 (Value.agg #[Value.int IntKind.i64 r.a0, Value.int IntKind.i64 r.a1, Value.int IntKind.i64 r.a2, Value.int IntKind.i64 r.a3, Value.int IntKind.i64 r.a4, Value.int IntKind.i64 r.a5, Value.int IntKind.i64 r.a6]); go_at_call_of 13 (Value.int IntKind.i64 99); refine (nr9 _).mono ?_; rintro e u ⟨rfl, hb⟩; (first | (replace hA := hA.go hb) | (replace hA := hA.drew.go hb)); clear hb)
      | (go_at_call_of 13 (Value.agg #[Value.int IntKind.i64 q.a0, Value.int IntKind.i64 q.a1, Value.int IntKind.i64 q.a2, Value.int IntKind.i64 q.a3, Value.int IntKind.i64 q.a4, Value.int IntKind.i64 q.a5, Value.int IntKind.i64 q.a6]); go_at_call_of 13 (Value.int IntKind.i64 50); refine (nq5 _).mono ?_; rintro e u ⟨rfl, hb⟩; (first | (replace hA := hA.go hb) | (replace hA := hA.drew.go hb)); clear hb)
      | (go_at_call_of 13 (Value.agg #[Value.int IntKind.i64 r.a0, Value.int IntKind.i64 r.a1, Value.int IntKind.i64 r.a2, Value.int IntKind.i64 r.a3, Value.int IntKind.i64 r.a4, Value.int IntKind.i64 r.a5, Value.int IntKind.i64 r.a6]); go_at_call_of 13 (Value.int IntKind.i64 49); refine (nr4 _).mono ?_; rintro e u ⟨rfl, hb⟩; (first | (replace hA := hA.go hb) | (replace hA := hA.drew.go hb)); clear hb)
      | (go_at_call_of 12 (Value.agg #[Value.int IntKind.i64 q.a0, Value.int IntKind.i64 q.a1, Value.int IntKind.i64 q.a2, Value.int IntKind.i64 q.a3, Value.int IntKind.i64 q.a4, Value.int IntKind.i64 q.a5, Value.int IntKind.i64 q.a6]); go_at_call_of 12 (Value.agg #[Value.int IntKind.i64 r.a0, Value.int IntKind.i64 r.a1, Value.int IntKind.i64 r.a2, Value.int IntKind.i64 r.a3, Value.int IntKind.i64 r.a4, Value.int IntKind.i64 r.a5, Value.int IntKind.i64 r.a6]); (first | refine (k1 _ (hE.below hA.1)).mono ?_ | refine (k1 _ (hE.below hA.drew.1)).mono ?_); rintro e u ⟨rfl, hb⟩; (first | (replace hA := hA.go hb) | (replace hA := hA.drew.go hb)); clear hb)
      | (go_at_call_of 12 (Value.agg #[Value.int IntKind.i64 Q9.a0, Value.int IntKind.i64 Q9.a1, Value.int IntKind.i64 Q9.a2, Value.int IntKind.i64 Q9.a3, Value.int IntKind.i64 Q9.a4, Value.int IntKind.i64 Q9.a5, Value.int IntKind.i64 Q9.a6]); go_at_call_of 12 (Value.agg #[Value.int IntKind.i64 R9.a0, Value.int IntKind.i64 R9.a1, Value.int IntKind.i64 R9.a2, Value.int IntKind.i64 R9.a3, Value.int IntKind.i64 R9.a4, Value.int IntKind.i64 R9.a5, Value.int IntKind.i64 R9.a6]); (first | refine (k2 _ (hE.below hA.1)).mono ?_ | refine (k2 _ (hE.below hA.drew.1)).mono ?_); rintro e u ⟨rfl, hb⟩; (first | (replace hA := hA.go hb) | (replace hA := hA.drew.go hb)); clear hb)
      | (go_at_call_of 12 (Value.agg #[Value.int IntKind.i64 Q5.a0, Value.int IntKind.i64 Q5.a1, Value.int IntKind.i64 Q5.a2, Value.int IntKind.i64 Q5.a3, Value.int IntKind.i64 Q5.a4, Value.int IntKind.i64 Q5.a5, Value.int IntKind.i64 Q5.a6]); go_at_call_of 12 (Value.agg #[Value.int IntKind.i64 R4.a0, Value.int IntKind.i64 R4.a1, Value.int IntKind.i64 R4.a2, Value.int IntKind.i64 R4.a3, Value.int IntKind.i64 R4.a4, Value.int IntKind.i64 R4.a5, Value.int IntKind.i64 R4.a6]); (first | refine (k3 _ (hE.below hA.1)).mono ?_ | refine (k3 _ (hE.below hA.drew.1)).mono ?_); rintro e u ⟨rfl, hb⟩; (first | (replace hA := hA.go hb) | (replace hA := hA.drew.go hb)); clear hb))
  all_goals go_wp2
  all_goals go_ret
  all_goals exact ⟨by simp, hA.1⟩

set_option maxRecDepth 100000 in
set_option maxHeartbeats 8000000 in
theorem tells_long (q r : D7) (n : Int) (s0 s : List UInt8) (w : World) (hE : Env w) (fq : Fine q) (fr : Fine r) (n0 : -9223372036854775808 ≤ n) (n1 : n ≤ 9223372036854775807) (hs : s = s0.take 40) (hl0 : 40 < s0.length) :
    Calls Tryd.prog 3 #[.agg #[.int .i64 q.a0, .int .i64 q.a1, .int .i64 q.a2, .int .i64 q.a3, .int .i64 q.a4, .int .i64 q.a5, .int .i64 q.a6, .int .i64 r.a0, .int .i64 r.a1, .int .i64 r.a2, .int .i64 r.a3, .int .i64 r.a4, .int .i64 r.a5, .int .i64 r.a6], .int .i64 n, .string (bs s0)] w fun e w' => e = .returned (.bool true) ∧ Below w.heap.size w w' := by
  have hl : s.length ≤ 40 := by rw [hs, List.length_take]; omega
  have kR := fun V hV => read_any s (by omega) V hV
  have rR := fun V => rread_any s V (by omega)
  rw [readD_eq] at rR
  generalize readG s = X at *
  have z0 : (bs s0).size = s0.length := bs_size s0
  have z1 : (40 : Int) < (s0.length : Int) := by omega
  have z2 : (40 : Int) ≤ (s0.length : Int) := by omega
  have z3 : 40 ≤ s0.length := by omega
  have ex : (bs s0).extract 0 40 = bs s := by rw [bs_extract, hs]; simp
  clear hs
  have m9 := rest_in n 9 (by omega)
  have m3 := rest_in n 3 (by omega)
  have k1 := fun V hV => tells_any q r n V hV fq fr n0 n1
  have nq9 := fun V => near_any q 99 V fq (by omega) (by omega)
  have nr9 := fun V => near_any r 99 V fr (by omega) (by omega)
  have nq5 := fun V => near_any q 50 V fq (by omega) (by omega)
  have nr4 := fun V => near_any r 49 V fr (by omega) (by omega)
  have k2 := fun V hV => tells_any (nearG q 99) (nearG r 99) (n.tmod 9) V hV (near_right q 99 (by omega) (by omega)).fine (near_right r 99 (by omega) (by omega)).fine (by omega) (by omega)
  have k3 := fun V hV => tells_any (nearG q 50) (nearG r 49) (n.tmod 3) V hV (near_right q 50 (by omega) (by omega)).fine (near_right r 49 (by omega) (by omega)).fine (by omega) (by omega)
  generalize nearG q 99 = Q9 at *
  generalize nearG r 99 = R9 at *
  generalize nearG q 50 = Q5 at *
  generalize nearG r 49 = R4 at *
  have lQ := Lies14.new w q r
  have hB : Below w.heap.size w (w.alloc (.cells #[.int .i64 q.a0, .int .i64 q.a1, .int .i64 q.a2, .int .i64 q.a3, .int .i64 q.a4, .int .i64 q.a5, .int .i64 q.a6, .int .i64 r.a0, .int .i64 r.a1, .int .i64 r.a2, .int .i64 r.a3, .int .i64 r.a4, .int .i64 r.a5, .int .i64 r.a6] 24)) := by go_grown
  simp only [D7.v, gotV] at kR rR k1 k2 k3 nq9 nr9 nq5 nr4
  go_enter Tryd.func3, Tryd.ntmps3
  go_wp2_with fail
  refine (awake_yes _ (hE.below hB)).mono ?_
  rintro e w1 ⟨rfl, hb⟩
  replace hB := Below.goB hB hB.size hb
  replace lQ := lQ.below hb lQ.2.2
  clear hb
  go_wp2_with fail
  try rw [ex]
  refine (kR _ (hE.below hB)).mono ?_
  rintro e w2 ⟨rfl, hb⟩
  replace hB := Below.goB hB hB.size hb
  replace lQ := lQ.below hb lQ.2.2
  clear hb
  have lX := Lies7.new w2 X.1
  have hu : Below w2.heap.size w2 (w2.alloc (.cells #[.int .i64 X.1.a0, .int .i64 X.1.a1, .int .i64 X.1.a2, .int .i64 X.1.a3, .int .i64 X.1.a4, .int .i64 X.1.a5, .int .i64 X.1.a6] 23)) := by go_grown
  replace hB := Below.goB hB hB.size hu
  replace lQ := lQ.below hu lQ.2.2
  clear hu
  go_wp2_with fail
  generalize (w2.alloc (.cells #[.int .i64 X.1.a0, .int .i64 X.1.a1, .int .i64 X.1.a2, .int .i64 X.1.a3, .int .i64 X.1.a4, .int .i64 X.1.a5, .int .i64 X.1.a6] 23)) = V1 at *
  refine (rR _).mono ?_
  rintro e w3 ⟨rfl, hb⟩
  replace hB := Below.goB hB hB.size hb
  replace lQ := lQ.below hb lQ.2.2
  replace lX := lX.below hb lX.2.2
  clear hb
  have lG := LiesG8.new w3 X
  have hu : Below w3.heap.size w3 (w3.alloc (.cells #[.int .i64 X.1.a0, .int .i64 X.1.a1, .int .i64 X.1.a2, .int .i64 X.1.a3, .int .i64 X.1.a4, .int .i64 X.1.a5, .int .i64 X.1.a6, .bool X.2] 29)) := by go_grown
  replace hB := Below.goB hB hB.size hu
  replace lQ := lQ.below hu lQ.2.2
  replace lX := lX.below hu lX.2.2
  clear hu
  go_upto_region 6 with fail
  generalize (w3.alloc (.cells #[.int .i64 X.1.a0, .int .i64 X.1.a1, .int .i64 X.1.a2, .int .i64 X.1.a3, .int .i64 X.1.a4, .int .i64 X.1.a5, .int .i64 X.1.a6, .bool X.2] 29)) = V2 at *
  have hA : LawAt w V2 q r X w2.heap.size w3.heap.size := ⟨hB, lQ, lX, lG⟩
  have q1 := eq7 X.1.a0 X.1.a1 X.1.a2 X.1.a3 X.1.a4 X.1.a5 X.1.a6 X.1.a0 X.1.a1 X.1.a2 X.1.a3 X.1.a4 X.1.a5 X.1.a6
  rw [eqB_same] at q1
  have e1 : (X.2 == X.2) = true := by simp
  clear lQ lX lG hB kR rR
  generalize w2.heap.size = bx at *
  generalize w3.heap.size = bg at *
  go_region_held3 (fun v => v.cell? ⟨w.heap.size, 0, none⟩ = some (.int .i64 q.a0) ∧ v.cell? ⟨w.heap.size, 1, none⟩ = some (.int .i64 q.a1) ∧ v.cell? ⟨w.heap.size, 2, none⟩ = some (.int .i64 q.a2) ∧ v.cell? ⟨w.heap.size, 3, none⟩ = some (.int .i64 q.a3) ∧ v.cell? ⟨w.heap.size, 4, none⟩ = some (.int .i64 q.a4) ∧ v.cell? ⟨w.heap.size, 5, none⟩ = some (.int .i64 q.a5) ∧ v.cell? ⟨w.heap.size, 6, none⟩ = some (.int .i64 q.a6) ∧ v.cell? ⟨w.heap.size, 7, none⟩ = some (.int .i64 r.a0) ∧ v.cell? ⟨w.heap.size, 8, none⟩ = some (.int .i64 r.a1) ∧ v.cell? ⟨w.heap.size, 9, none⟩ = some (.int .i64 r.a2) ∧ v.cell? ⟨w.heap.size, 10, none⟩ = some (.int .i64 r.a3) ∧ v.cell? ⟨w.heap.size, 11, none⟩ = some (.int .i64 r.a4) ∧ v.cell? ⟨w.heap.size, 12, none⟩ = some (.int .i64 r.a5) ∧ v.cell? ⟨w.heap.size, 13, none⟩ = some (.int .i64 r.a6) ∧ v.cell? ⟨bx, 0, none⟩ = some (.int .i64 X.1.a0) ∧ v.cell? ⟨bx, 1, none⟩ = some (.int .i64 X.1.a1) ∧ v.cell? ⟨bx, 2, none⟩ = some (.int .i64 X.1.a2) ∧ v.cell? ⟨bx, 3, none⟩ = some (.int .i64 X.1.a3) ∧ v.cell? ⟨bx, 4, none⟩ = some (.int .i64 X.1.a4) ∧ v.cell? ⟨bx, 5, none⟩ = some (.int .i64 X.1.a5) ∧ v.cell? ⟨bx, 6, none⟩ = some (.int .i64 X.1.a6) ∧ v.cell? ⟨bg, 0, none⟩ = some (.int .i64 X.1.a0) ∧ v.cell? ⟨bg, 1, none⟩ = some (.int .i64 X.1.a1) ∧ v.cell? ⟨bg, 2, none⟩ = some (.int .i64 X.1.a2) ∧ v.cell? ⟨bg, 3, none⟩ = some (.int .i64 X.1.a3) ∧ v.cell? ⟨bg, 4, none⟩ = some (.int .i64 X.1.a4) ∧ v.cell? ⟨bg, 5, none⟩ = some (.int .i64 X.1.a5) ∧ v.cell? ⟨bg, 6, none⟩ = some (.int .i64 X.1.a6) ∧ v.cell? ⟨bg, 7, none⟩ = some (.bool X.2))
    (first | exact hA.drew.cells | exact hA.cells | go_keep)
    (first
      | (go_at_call_of 13 (Value.agg #[Value.int IntKind.i64 q.a0, Value.int IntKind.i64 q.a1, Value.int IntKind.i64 q.a2, Value.int IntKind.i64 q.a3, Value.int IntKind.i64 q.a4, Value.int IntKind.i64 q.a5, Value.int IntKind.i64 q.a6]); go_at_call_of 13 (Value.int IntKind.i64 99); refine (nq9 _).mono ?_; rintro e u ⟨rfl, hb⟩; (first | (replace hA := hA.go hb) | (replace hA := hA.drew.go hb)); clear hb)
      | (go_at_call_of 13 (Value.agg #[Value.int IntKind.i64 r.a0, Value.int IntKind.i64 r.a1, Value.int IntKind.i64 r.a2, Value.int IntKind.i64 r.a3, Value.int IntKind.i64 r.a4, Value.int IntKind.i64 r.a5, Value.int IntKind.i64 r.a6]); go_at_call_of 13 (Value.int IntKind.i64 99); refine (nr9 _).mono ?_; rintro e u ⟨rfl, hb⟩; (first | (replace hA := hA.go hb) | (replace hA := hA.drew.go hb)); clear hb)
      | (go_at_call_of 13 (Value.agg #[Value.int IntKind.i64 q.a0, Value.int IntKind.i64 q.a1, Value.int IntKind.i64 q.a2, Value.int IntKind.i64 q.a3, Value.int IntKind.i64 q.a4, Value.int IntKind.i64 q.a5, Value.int IntKind.i64 q.a6]); go_at_call_of 13 (Value.int IntKind.i64 50); refine (nq5 _).mono ?_; rintro e u ⟨rfl, hb⟩; (first | (replace hA := hA.go hb) | (replace hA := hA.drew.go hb)); clear hb)
      | (go_at_call_of 13 (Value.agg #[Value.int IntKind.i64 r.a0, Value.int IntKind.i64 r.a1, Value.int IntKind.i64 r.a2, Value.int IntKind.i64 r.a3, Value.int IntKind.i64 r.a4, Value.int IntKind.i64 r.a5, Value.int IntKind.i64 r.a6]); go_at_call_of 13 (Value.int IntKind.i64 49); refine (nr4 _).mono ?_; rintro e u ⟨rfl, hb⟩; (first | (replace hA := hA.go hb) | (replace hA := hA.drew.go hb)); clear hb)
      | (go_at_call_of 12 (Value.agg #[Value.int IntKind.i64 q.a0, Value.int IntKind.i64 q.a1, Value.int IntKind.i64 q.a2, Value.int IntKind.i64 q.a3, Value.int IntKind.i64 q.a4, Value.int IntKind.i64 q.a5, Value.int IntKind.i64 q.a6]); go_at_call_of 12 (Value.agg #[Value.int IntKind.i64 r.a0, Value.int IntKind.i64 r.a1, Value.int IntKind.i64 r.a2, Value.int IntKind.i64 r.a3, Value.int IntKind.i64 r.a4, Value.int IntKind.i64 r.a5, Value.int IntKind.i64 r.a6]); (first | refine (k1 _ (hE.below hA.1)).mono ?_ | refine (k1 _ (hE.below hA.drew.1)).mono ?_); rintro e u ⟨rfl, hb⟩; (first | (replace hA := hA.go hb) | (replace hA := hA.drew.go hb)); clear hb)
      | (go_at_call_of 12 (Value.agg #[Value.int IntKind.i64 Q9.a0, Value.int IntKind.i64 Q9.a1, Value.int IntKind.i64 Q9.a2, Value.int IntKind.i64 Q9.a3, Value.int IntKind.i64 Q9.a4, Value.int IntKind.i64 Q9.a5, Value.int IntKind.i64 Q9.a6]); go_at_call_of 12 (Value.agg #[Value.int IntKind.i64 R9.a0, Value.int IntKind.i64 R9.a1, Value.int IntKind.i64 R9.a2, Value.int IntKind.i64 R9.a3, Value.int IntKind.i64 R9.a4, Value.int IntKind.i64 R9.a5, Value.int IntKind.i64 R9.a6]); (first | refine (k2 _ (hE.below hA.1)).mono ?_ | refine (k2 _ (hE.below hA.drew.1)).mono ?_); rintro e u ⟨rfl, hb⟩; (first | (replace hA := hA.go hb) | (replace hA := hA.drew.go hb)); clear hb)
      | (go_at_call_of 12 (Value.agg #[Value.int IntKind.i64 Q5.a0, Value.int IntKind.i64 Q5.a1, Value.int IntKind.i64 Q5.a2, Value.int IntKind.i64 Q5.a3, Value.int IntKind.i64 Q5.a4, Value.int IntKind.i64 Q5.a5, Value.int IntKind.i64 Q5.a6]); go_at_call_of 12 (Value.agg #[Value.int IntKind.i64 R4.a0, Value.int IntKind.i64 R4.a1, Value.int IntKind.i64 R4.a2, Value.int IntKind.i64 R4.a3, Value.int IntKind.i64 R4.a4, Value.int IntKind.i64 R4.a5, Value.int IntKind.i64 R4.a6]); (first | refine (k3 _ (hE.below hA.1)).mono ?_ | refine (k3 _ (hE.below hA.drew.1)).mono ?_); rintro e u ⟨rfl, hb⟩; (first | (replace hA := hA.go hb) | (replace hA := hA.drew.go hb)); clear hb))
  all_goals go_wp2
  all_goals go_ret
  all_goals exact ⟨by simp, hA.1⟩

theorem tells_law (a0 a1 a2 a3 a4 a5 a6 a7 a8 a9 a10 a11 a12 a13 n : Int) (s : ByteArray) (w : World) (hE : Env w) (b_a0 : -9223372036854775808 ≤ a0 ∧ a0 ≤ 9223372036854775807) (b_a1 : -9223372036854775808 ≤ a1 ∧ a1 ≤ 9223372036854775807) (b_a2 : -9223372036854775808 ≤ a2 ∧ a2 ≤ 9223372036854775807) (b_a3 : -9223372036854775808 ≤ a3 ∧ a3 ≤ 9223372036854775807) (b_a4 : -9223372036854775808 ≤ a4 ∧ a4 ≤ 9223372036854775807) (b_a5 : -9223372036854775808 ≤ a5 ∧ a5 ≤ 9223372036854775807) (b_a6 : -9223372036854775808 ≤ a6 ∧ a6 ≤ 9223372036854775807) (b_a7 : -9223372036854775808 ≤ a7 ∧ a7 ≤ 9223372036854775807) (b_a8 : -9223372036854775808 ≤ a8 ∧ a8 ≤ 9223372036854775807) (b_a9 : -9223372036854775808 ≤ a9 ∧ a9 ≤ 9223372036854775807) (b_a10 : -9223372036854775808 ≤ a10 ∧ a10 ≤ 9223372036854775807) (b_a11 : -9223372036854775808 ≤ a11 ∧ a11 ≤ 9223372036854775807) (b_a12 : -9223372036854775808 ≤ a12 ∧ a12 ≤ 9223372036854775807) (b_a13 : -9223372036854775808 ≤ a13 ∧ a13 ≤ 9223372036854775807) (b_n : -9223372036854775808 ≤ n ∧ n ≤ 9223372036854775807) (hs : s.size ≤ maxLen) :
    Calls Tryd.prog 3 #[.agg #[.int .i64 a0, .int .i64 a1, .int .i64 a2, .int .i64 a3, .int .i64 a4, .int .i64 a5, .int .i64 a6, .int .i64 a7, .int .i64 a8, .int .i64 a9, .int .i64 a10, .int .i64 a11, .int .i64 a12, .int .i64 a13], .int .i64 n, .string s] w fun e w' => e = .returned (.bool true) ∧ Below w.heap.size w w' := by
  have e : bs s.data.toList = s := by cases s; simp [bs]
  rw [← e]
  by_cases h : s.data.toList.length ≤ 40
  · exact tells_short ⟨a0, a1, a2, a3, a4, a5, a6⟩ ⟨a7, a8, a9, a10, a11, a12, a13⟩ n s.data.toList _ w hE (seven (p := fun i => -9223372036854775808 ≤ D7.get ⟨a0, a1, a2, a3, a4, a5, a6⟩ i ∧ D7.get ⟨a0, a1, a2, a3, a4, a5, a6⟩ i ≤ 9223372036854775807) b_a0 b_a1 b_a2 b_a3 b_a4 b_a5 b_a6) (seven (p := fun i => -9223372036854775808 ≤ D7.get ⟨a7, a8, a9, a10, a11, a12, a13⟩ i ∧ D7.get ⟨a7, a8, a9, a10, a11, a12, a13⟩ i ≤ 9223372036854775807) b_a7 b_a8 b_a9 b_a10 b_a11 b_a12 b_a13) b_n.1 b_n.2 rfl h
  · exact tells_long ⟨a0, a1, a2, a3, a4, a5, a6⟩ ⟨a7, a8, a9, a10, a11, a12, a13⟩ n s.data.toList _ w hE (seven (p := fun i => -9223372036854775808 ≤ D7.get ⟨a0, a1, a2, a3, a4, a5, a6⟩ i ∧ D7.get ⟨a0, a1, a2, a3, a4, a5, a6⟩ i ≤ 9223372036854775807) b_a0 b_a1 b_a2 b_a3 b_a4 b_a5 b_a6) (seven (p := fun i => -9223372036854775808 ≤ D7.get ⟨a7, a8, a9, a10, a11, a12, a13⟩ i ∧ D7.get ⟨a7, a8, a9, a10, a11, a12, a13⟩ i ≤ 9223372036854775807) b_a7 b_a8 b_a9 b_a10 b_a11 b_a12 b_a13) b_n.1 b_n.2 rfl (by omega)

end Go.Proofs.YtndinbefljajcaaDoor.Dims

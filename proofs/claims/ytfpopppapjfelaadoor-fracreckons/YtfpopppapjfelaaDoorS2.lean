/-
  The walk of drachmlaw02.FracReckons: it returns true, whatever its arguments are; the world below stays as it was.
-/
import Derived.Test.YtfpopppapjfelaaDoorS3
import Derived.Test.YtfpopppapjfelaaDoorG9
namespace Go.Proofs.YtfpopppapjfelaaDoor.Frac
open Go.RowKit
open Go.Proofs.YtfpopppapjfelaaDoor.Whole
set_option linter.unusedVariables false

theorem Below.goo {w v v1 : World} (hB : Below w.heap.size w v) (hb : Below v.heap.size v v1) (o : Obj) : Below w.heap.size w (v1.alloc o) := by
  have h := Below.go hB hb
  have hz := h.size
  go_grown
theorem LiesG.step {v v1 : World} {b : Nat} {g : Got} (h : LiesG v b g) (hb : Below v.heap.size v v1) (o : Obj) : LiesG (v1.alloc o) b g := by
  have h1 := h.below hb h.2.2.2.2
  exact h1.below (B := v1.heap.size) (by go_grown) h1.2.2.2.2

set_option maxRecDepth 100000 in
set_option maxHeartbeats 2000000 in
theorem reckons_any (n1 d1 t1 n2 d2 t2 k : Int) (w : World) (hT : OfTen w) (h1 : n1 ≤ 9223372036854775807) (h2 : d1 ≤ 9223372036854775807) (h3 : n2 ≤ 9223372036854775807) (h4 : d2 ≤ 9223372036854775807) :
    Calls Tryd.prog 15 #[.agg #[.int .i64 n1, .int .i64 d1, .int .i64 t1], .agg #[.int .i64 n2, .int .i64 d2, .int .i64 t2], .int .i64 k] w fun e w' => e = .returned (.bool true) ∧ Below w.heap.size w w' := by
  have E1 := Lib.hid (mul_eq n1 d1 t1 n2 d2 t2 h1 h2 h3 h4)
  have E2 := Lib.hid (div_eq n1 d1 t1 n2 d2 t2 h1 h2 h3 h4)
  have E3 := Lib.hid (pow_eq n1 d1 t1 k h1 h2)
  have hB : Below w.heap.size w ((w.alloc (.cells #[.int .i64 n1, .int .i64 d1, .int .i64 t1] 24)).alloc (.cells #[.int .i64 n2, .int .i64 d2, .int .i64 t2] 24)) := by go_grown
  have la : LiesF ((w.alloc (.cells #[.int .i64 n1, .int .i64 d1, .int .i64 t1] 24)).alloc (.cells #[.int .i64 n2, .int .i64 d2, .int .i64 t2] 24)) w.heap.size n1 d1 t1 := (LiesF.new w n1 d1 t1).put _
  have lb : LiesF ((w.alloc (.cells #[.int .i64 n1, .int .i64 d1, .int .i64 t1] 24)).alloc (.cells #[.int .i64 n2, .int .i64 d2, .int .i64 t2] 24)) (w.heap.size + 1) n2 d2 t2 := by
    have := LiesF.new (w.alloc (.cells #[.int .i64 n1, .int .i64 d1, .int .i64 t1] 24)) n2 d2 t2
    simpa using this
  go_enter Tryd.func15, Tryd.ntmps15
  obtain ⟨a0, a1, a2, _⟩ := id la
  obtain ⟨b0, b1, b2, _⟩ := id lb
  go_wp2_with fail
  refine (mul_any _ _ _ _ _ _ _ (hT.below hB) h1 h2 h3 h4).mono ?_
  rintro e w1 ⟨rfl, hb⟩
  generalize mulG n1 d1 t1 n2 d2 t2 = M at *
  unfold Got.v
  replace la := (la.go hb).put (.cells #[.int .i64 M.n, .int .i64 M.d, .int .i64 M.t] 24)
  replace lb := (lb.go hb).put (.cells #[.int .i64 M.n, .int .i64 M.d, .int .i64 M.t] 24)
  have lx := LiesF.new w1 M.n M.d M.t
  replace hB := Below.goo hB hb (.cells #[.int .i64 M.n, .int .i64 M.d, .int .i64 M.t] 24)
  clear hb a0 a1 a2 b0 b1 b2
  obtain ⟨a0, a1, a2, _⟩ := id la
  obtain ⟨b0, b1, b2, _⟩ := id lb
  go_wp2_with fail
  refine (div_any _ _ _ _ _ _ _ (hT.below hB) h1 h2 h3 h4).mono ?_
  rintro e w2 ⟨rfl, hb⟩
  generalize divG n1 d1 t1 n2 d2 t2 = Q at *
  unfold Got.v
  replace la := (la.go hb).put (.cells #[.int .i64 Q.n, .int .i64 Q.d, .int .i64 Q.t] 24)
  replace lb := (lb.go hb).put (.cells #[.int .i64 Q.n, .int .i64 Q.d, .int .i64 Q.t] 24)
  replace lx := (lx.go hb).put (.cells #[.int .i64 Q.n, .int .i64 Q.d, .int .i64 Q.t] 24)
  have ly := LiesF.new w2 Q.n Q.d Q.t
  replace hB := Below.goo hB hb (.cells #[.int .i64 Q.n, .int .i64 Q.d, .int .i64 Q.t] 24)
  clear hb a0 a1 a2 b0 b1 b2
  obtain ⟨a0, a1, a2, _⟩ := id la
  obtain ⟨b0, b1, b2, _⟩ := id lb
  go_wp2_with fail
  refine (pow_any _ _ _ _ _ (hT.below hB) h1 h2).mono ?_
  rintro e w3 ⟨rfl, hb⟩
  generalize powG n1 d1 t1 k = P at *
  unfold Got.v
  replace la := (la.go hb).put (.cells #[.int .i64 P.n, .int .i64 P.d, .int .i64 P.t] 24)
  replace lb := (lb.go hb).put (.cells #[.int .i64 P.n, .int .i64 P.d, .int .i64 P.t] 24)
  replace lx := (lx.go hb).put (.cells #[.int .i64 P.n, .int .i64 P.d, .int .i64 P.t] 24)
  replace ly := (ly.go hb).put (.cells #[.int .i64 P.n, .int .i64 P.d, .int .i64 P.t] 24)
  have lz := LiesF.new w3 P.n P.d P.t
  replace hB := Below.goo hB hb (.cells #[.int .i64 P.n, .int .i64 P.d, .int .i64 P.t] 24)
  clear hb a0 a1 a2 b0 b1 b2
  obtain ⟨a0, a1, a2, _⟩ := id la
  obtain ⟨b0, b1, b2, _⟩ := id lb
  go_wp2_with fail
  refine (rmulF_any _ _ _ _ _ _ _ h1 h2 h3 h4).mono ?_
  rintro e w4 ⟨rfl, hb⟩
  rw [← E1.out]
  unfold Got.r
  replace la := (la.go hb).put (.cells #[.int .i64 M.n, .int .i64 M.d, .int .i64 M.t, .int .i64 M.e] 30)
  replace lb := (lb.go hb).put (.cells #[.int .i64 M.n, .int .i64 M.d, .int .i64 M.t, .int .i64 M.e] 30)
  replace lx := (lx.go hb).put (.cells #[.int .i64 M.n, .int .i64 M.d, .int .i64 M.t, .int .i64 M.e] 30)
  replace ly := (ly.go hb).put (.cells #[.int .i64 M.n, .int .i64 M.d, .int .i64 M.t, .int .i64 M.e] 30)
  replace lz := (lz.go hb).put (.cells #[.int .i64 M.n, .int .i64 M.d, .int .i64 M.t, .int .i64 M.e] 30)
  have lp := LiesG.new w4 M
  replace hB := Below.goo hB hb (.cells #[.int .i64 M.n, .int .i64 M.d, .int .i64 M.t, .int .i64 M.e] 30)
  clear hb a0 a1 a2 b0 b1 b2
  obtain ⟨a0, a1, a2, _⟩ := id la
  obtain ⟨b0, b1, b2, _⟩ := id lb
  go_wp2_with fail
  refine (rdivF_any _ _ _ _ _ _ _ h1 h2 h3 h4).mono ?_
  rintro e w5 ⟨rfl, hb⟩
  rw [← E2.out]
  unfold Got.r
  replace la := (la.go hb).put (.cells #[.int .i64 Q.n, .int .i64 Q.d, .int .i64 Q.t, .int .i64 Q.e] 30)
  replace lb := (lb.go hb).put (.cells #[.int .i64 Q.n, .int .i64 Q.d, .int .i64 Q.t, .int .i64 Q.e] 30)
  replace lx := (lx.go hb).put (.cells #[.int .i64 Q.n, .int .i64 Q.d, .int .i64 Q.t, .int .i64 Q.e] 30)
  replace ly := (ly.go hb).put (.cells #[.int .i64 Q.n, .int .i64 Q.d, .int .i64 Q.t, .int .i64 Q.e] 30)
  replace lz := (lz.go hb).put (.cells #[.int .i64 Q.n, .int .i64 Q.d, .int .i64 Q.t, .int .i64 Q.e] 30)
  replace lp := lp.step hb (.cells #[.int .i64 Q.n, .int .i64 Q.d, .int .i64 Q.t, .int .i64 Q.e] 30)
  have lq := LiesG.new w5 Q
  replace hB := Below.goo hB hb (.cells #[.int .i64 Q.n, .int .i64 Q.d, .int .i64 Q.t, .int .i64 Q.e] 30)
  clear hb a0 a1 a2 b0 b1 b2
  obtain ⟨a0, a1, a2, _⟩ := id la
  obtain ⟨b0, b1, b2, _⟩ := id lb
  go_wp2_with fail
  refine (rpow_any _ _ _ _ _ h1 h2).mono ?_
  rintro e w6 ⟨rfl, hb⟩
  rw [← E3.out]
  unfold Got.r
  replace la := (la.go hb).put (.cells #[.int .i64 P.n, .int .i64 P.d, .int .i64 P.t, .int .i64 P.e] 30)
  replace lb := (lb.go hb).put (.cells #[.int .i64 P.n, .int .i64 P.d, .int .i64 P.t, .int .i64 P.e] 30)
  replace lx := (lx.go hb).put (.cells #[.int .i64 P.n, .int .i64 P.d, .int .i64 P.t, .int .i64 P.e] 30)
  replace ly := (ly.go hb).put (.cells #[.int .i64 P.n, .int .i64 P.d, .int .i64 P.t, .int .i64 P.e] 30)
  replace lz := (lz.go hb).put (.cells #[.int .i64 P.n, .int .i64 P.d, .int .i64 P.t, .int .i64 P.e] 30)
  replace lp := lp.step hb (.cells #[.int .i64 P.n, .int .i64 P.d, .int .i64 P.t, .int .i64 P.e] 30)
  replace lq := lq.step hb (.cells #[.int .i64 P.n, .int .i64 P.d, .int .i64 P.t, .int .i64 P.e] 30)
  have lr := LiesG.new w6 P
  replace hB := Below.goo hB hb (.cells #[.int .i64 P.n, .int .i64 P.d, .int .i64 P.t, .int .i64 P.e] 30)
  clear hb a0 a1 a2 b0 b1 b2
  obtain ⟨x0, x1, x2, _⟩ := id lx
  obtain ⟨y0, y1, y2, _⟩ := id ly
  obtain ⟨z0, z1, z2, _⟩ := id lz
  obtain ⟨p0, p1, p2, p3, _⟩ := id lp
  obtain ⟨q0, q1, q2, q3, _⟩ := id lq
  obtain ⟨r0, r1, r2, r3, _⟩ := id lr
  clear la lb lx ly lz lp lq lr E1 E2 E3
  go_wp2
  go_ret
  exact ⟨by simp, hB⟩

/-- How the world stands within FracReckons: both arguments in boxes. -/
def RkAt (w v : World) (a0 a1 a2 a3 a4 a5 b0 b1 b2 b3 b4 b5 : Int) : Prop := Below w.heap.size w v ∧ Lies6 v w.heap.size a0 a1 a2 a3 a4 a5 ∧ Lies6 v (w.heap.size + 1) b0 b1 b2 b3 b4 b5
theorem RkAt.below {w v v' : World} {a0 a1 a2 a3 a4 a5 b0 b1 b2 b3 b4 b5 : Int} (h : RkAt w v a0 a1 a2 a3 a4 a5 b0 b1 b2 b3 b4 b5) (hb : Below v.heap.size v v') : RkAt w v' a0 a1 a2 a3 a4 a5 b0 b1 b2 b3 b4 b5 :=
  ⟨Below.go h.1 hb, h.2.1.go hb, h.2.2.go hb⟩
theorem RkAt.drew {w v : World} {a0 a1 a2 a3 a4 a5 b0 b1 b2 b3 b4 b5 : Int} (h : RkAt w v a0 a1 a2 a3 a4 a5 b0 b1 b2 b3 b4 b5) : RkAt w v.drew a0 a1 a2 a3 a4 a5 b0 b1 b2 b3 b4 b5 := h.below (by go_grown)
theorem RkAt.cells {w v : World} {a0 a1 a2 a3 a4 a5 b0 b1 b2 b3 b4 b5 : Int} (h : RkAt w v a0 a1 a2 a3 a4 a5 b0 b1 b2 b3 b4 b5) :
    v.cell? ⟨w.heap.size, 0, none⟩ = some (.int .i64 a0) ∧ v.cell? ⟨w.heap.size, 1, none⟩ = some (.int .i64 a1) ∧ v.cell? ⟨w.heap.size, 2, none⟩ = some (.int .i64 a2) ∧ v.cell? ⟨w.heap.size, 3, none⟩ = some (.int .i64 a3) ∧ v.cell? ⟨w.heap.size, 4, none⟩ = some (.int .i64 a4) ∧ v.cell? ⟨w.heap.size, 5, none⟩ = some (.int .i64 a5) ∧ v.cell? ⟨w.heap.size + 1, 0, none⟩ = some (.int .i64 b0) ∧ v.cell? ⟨w.heap.size + 1, 1, none⟩ = some (.int .i64 b1) ∧ v.cell? ⟨w.heap.size + 1, 2, none⟩ = some (.int .i64 b2) ∧ v.cell? ⟨w.heap.size + 1, 3, none⟩ = some (.int .i64 b3) ∧ v.cell? ⟨w.heap.size + 1, 4, none⟩ = some (.int .i64 b4) ∧ v.cell? ⟨w.heap.size + 1, 5, none⟩ = some (.int .i64 b5) := by
  obtain ⟨_, ⟨h0, h1, h2, h3, h4, h5, _⟩, ⟨k0, k1, k2, k3, k4, k5, _⟩⟩ := h
  exact ⟨h0, h1, h2, h3, h4, h5, k0, k1, k2, k3, k4, k5⟩

set_option maxRecDepth 100000 in
set_option maxHeartbeats 2000000 in
theorem reckons_walk (a0 a1 a2 a3 a4 a5 b0 b1 b2 b3 b4 b5 k : Int) (w : World) (hT : OfTen w) (ha0 : -9223372036854775808 ≤ a0 ∧ a0 ≤ 9223372036854775807) (ha1 : -9223372036854775808 ≤ a1 ∧ a1 ≤ 9223372036854775807) (ha2 : -9223372036854775808 ≤ a2 ∧ a2 ≤ 9223372036854775807) (ha3 : -9223372036854775808 ≤ a3 ∧ a3 ≤ 9223372036854775807) (ha4 : -9223372036854775808 ≤ a4 ∧ a4 ≤ 9223372036854775807) (ha5 : -9223372036854775808 ≤ a5 ∧ a5 ≤ 9223372036854775807) (hb0 : -9223372036854775808 ≤ b0 ∧ b0 ≤ 9223372036854775807) (hb1 : -9223372036854775808 ≤ b1 ∧ b1 ≤ 9223372036854775807) (hb2 : -9223372036854775808 ≤ b2 ∧ b2 ≤ 9223372036854775807) (hb3 : -9223372036854775808 ≤ b3 ∧ b3 ≤ 9223372036854775807) (hb4 : -9223372036854775808 ≤ b4 ∧ b4 ≤ 9223372036854775807) (hb5 : -9223372036854775808 ≤ b5 ∧ b5 ≤ 9223372036854775807) (hk : -9223372036854775808 ≤ k ∧ k ≤ 9223372036854775807) :
    Calls Tryd.prog 4 #[.agg #[.int .i64 a0, .int .i64 a1, .int .i64 a2, .int .i64 a3, .int .i64 a4, .int .i64 a5], .agg #[.int .i64 b0, .int .i64 b1, .int .i64 b2, .int .i64 b3, .int .i64 b4, .int .i64 b5], .int .i64 k] w fun e w' => e = .returned (.bool true) ∧ Below w.heap.size w w' := by
  obtain ⟨s1, s2⟩ := spec_small a0 a1 a2 ha0.2 ha1.2
  obtain ⟨s3, s4⟩ := spec_small a3 a4 a5 ha3.2 ha4.2
  have hA : RkAt w ((w.alloc (.cells #[.int .i64 a0, .int .i64 a1, .int .i64 a2, .int .i64 a3, .int .i64 a4, .int .i64 a5] 34)).alloc (.cells #[.int .i64 b0, .int .i64 b1, .int .i64 b2, .int .i64 b3, .int .i64 b4, .int .i64 b5] 35)) a0 a1 a2 a3 a4 a5 b0 b1 b2 b3 b4 b5 := by
    refine ⟨by go_grown, ⟨?_, ?_, ?_, ?_, ?_, ?_, ?_⟩, ⟨?_, ?_, ?_, ?_, ?_, ?_, ?_⟩⟩
    all_goals simp [go_sem]
  go_enter Tryd.func4, Tryd.ntmps4
  go_wp2_with fail
  refine (awake2_yes _ (hT.below hA.1)).mono ?_
  rintro e w1 ⟨rfl, hb⟩
  replace hA := hA.below hb
  clear hb
  go_wp2_with fail
  go_region_held3 (fun v => v.cell? ⟨w.heap.size, 0, none⟩ = some (.int .i64 a0) ∧ v.cell? ⟨w.heap.size, 1, none⟩ = some (.int .i64 a1) ∧ v.cell? ⟨w.heap.size, 2, none⟩ = some (.int .i64 a2) ∧ v.cell? ⟨w.heap.size, 3, none⟩ = some (.int .i64 a3) ∧ v.cell? ⟨w.heap.size, 4, none⟩ = some (.int .i64 a4) ∧ v.cell? ⟨w.heap.size, 5, none⟩ = some (.int .i64 a5) ∧ v.cell? ⟨w.heap.size + 1, 0, none⟩ = some (.int .i64 b0) ∧ v.cell? ⟨w.heap.size + 1, 1, none⟩ = some (.int .i64 b1) ∧ v.cell? ⟨w.heap.size + 1, 2, none⟩ = some (.int .i64 b2) ∧ v.cell? ⟨w.heap.size + 1, 3, none⟩ = some (.int .i64 b3) ∧ v.cell? ⟨w.heap.size + 1, 4, none⟩ = some (.int .i64 b4) ∧ v.cell? ⟨w.heap.size + 1, 5, none⟩ = some (.int .i64 b5))
    (first | exact hA.drew.cells | exact hA.cells | go_keep)
    (first
      | (go_at_call_of 16 (Value.agg #[Value.int IntKind.i64 a0, Value.int IntKind.i64 a1, Value.int IntKind.i64 a2]); refine (spec_any a0 a1 a2 _ ha0.2 ha1.2 ha2.1 ha2.2).mono ?_; rintro e w2 ⟨rfl, hb⟩; (first | (replace hA := hA.below hb) | (replace hA := hA.drew.below hb)); clear hb)
      | (go_at_call_of 16 (Value.agg #[Value.int IntKind.i64 a3, Value.int IntKind.i64 a4, Value.int IntKind.i64 a5]); refine (spec_any a3 a4 a5 _ ha3.2 ha4.2 ha5.1 ha5.2).mono ?_; rintro e w3 ⟨rfl, hb⟩; replace hA := hA.below hb; clear hb)
      | (go_at_call_of 15 (Value.int IntKind.i64 k); refine (reckons_any _ _ _ _ _ _ k _ (hT.below hA.1) s1 s2 s3 s4).mono ?_; rintro e w4 ⟨rfl, hb⟩; replace hA := hA.below hb; clear hb)
      | (go_at_call_of 15 (Value.agg #[Value.int IntKind.i64 b3, Value.int IntKind.i64 b4, Value.int IntKind.i64 b5]); refine (reckons_any b0 b1 b2 b3 b4 b5 _ _ (hT.below hA.1) hb0.2 hb1.2 hb3.2 hb4.2).mono ?_; rintro e w5 ⟨rfl, hb⟩; replace hA := hA.below hb; clear hb)
      | (go_at_call_of 15 (Value.agg #[Value.int IntKind.i64 b0, Value.int IntKind.i64 b1, Value.int IntKind.i64 b2]); refine (reckons_any _ _ _ b0 b1 b2 _ _ (hT.below hA.1) s1 s2 hb0.2 hb1.2).mono ?_; rintro e w6 ⟨rfl, hb⟩; replace hA := hA.below hb; clear hb))
  all_goals go_wp2
  all_goals go_ret
  all_goals exact ⟨by simp, hA.1⟩

end Go.Proofs.YtfpopppapjfelaaDoor.Frac

/-
  The walk of the law DimsTimes: it returns true, for every argument of its kind; old memory stays.
-/
import Derived.Test.YtjklbnakgkffnaaDoorDA
namespace Go.Proofs.YtjklbnakgkffnaaDoor.Dims
open Go.RowKit Go.Shelf
set_option linter.unusedVariables false
set_option linter.unusedSimpArgs false

/-- Fourteen powers lie in a block: those of two dims. -/
def Lies14 (W : World) (b : Nat) (x y : D7) : Prop := (∀ j, j < 7 → W.cell? ⟨b, j, none⟩ = some (.int .i64 (x.get j))) ∧ (∀ j, j < 7 → W.cell? ⟨b, 7 + j, none⟩ = some (.int .i64 (y.get j))) ∧ b < W.heap.size
theorem Lies14.below {W W' : World} {b B : Nat} {x y : D7} (h : Lies14 W b x y) (hb : Below B W W') (hB : b < B) : Lies14 W' b x y :=
  ⟨fun j hj => (hb.cell (p := ⟨b, j, none⟩) hB).trans (h.1 j hj), fun j hj => (hb.cell (p := ⟨b, 7 + j, none⟩) hB).trans (h.2.1 j hj), by have := hb.size; have := h.2.2; omega⟩
theorem Lies14.new (W : World) (x y : D7) : Lies14 (W.alloc (.cells #[.int .i64 x.a0, .int .i64 x.a1, .int .i64 x.a2, .int .i64 x.a3, .int .i64 x.a4, .int .i64 x.a5, .int .i64 x.a6, .int .i64 y.a0, .int .i64 y.a1, .int .i64 y.a2, .int .i64 y.a3, .int .i64 y.a4, .int .i64 y.a5, .int .i64 y.a6] 40)) W.heap.size x y := by
  refine ⟨?_, ?_, by simp⟩
  · refine seven ?_ ?_ ?_ ?_ ?_ ?_ ?_ <;> simp [go_sem, D7.get]
  · refine seven ?_ ?_ ?_ ?_ ?_ ?_ ?_ <;> simp [go_sem, D7.get]
theorem Lies14.fst {W : World} {b : Nat} {x y : D7} (h : Lies14 W b x y) : W.cell? ⟨b, 0, none⟩ = some (.int .i64 x.a0) ∧ W.cell? ⟨b, 1, none⟩ = some (.int .i64 x.a1) ∧ W.cell? ⟨b, 2, none⟩ = some (.int .i64 x.a2) ∧ W.cell? ⟨b, 3, none⟩ = some (.int .i64 x.a3) ∧ W.cell? ⟨b, 4, none⟩ = some (.int .i64 x.a4) ∧ W.cell? ⟨b, 5, none⟩ = some (.int .i64 x.a5) ∧ W.cell? ⟨b, 6, none⟩ = some (.int .i64 x.a6) :=
  ⟨h.1 0 (by omega), h.1 1 (by omega), h.1 2 (by omega), h.1 3 (by omega), h.1 4 (by omega), h.1 5 (by omega), h.1 6 (by omega)⟩
theorem Lies14.snd {W : World} {b : Nat} {x y : D7} (h : Lies14 W b x y) : W.cell? ⟨b, 7, none⟩ = some (.int .i64 y.a0) ∧ W.cell? ⟨b, 8, none⟩ = some (.int .i64 y.a1) ∧ W.cell? ⟨b, 9, none⟩ = some (.int .i64 y.a2) ∧ W.cell? ⟨b, 10, none⟩ = some (.int .i64 y.a3) ∧ W.cell? ⟨b, 11, none⟩ = some (.int .i64 y.a4) ∧ W.cell? ⟨b, 12, none⟩ = some (.int .i64 y.a5) ∧ W.cell? ⟨b, 13, none⟩ = some (.int .i64 y.a6) :=
  ⟨h.2.1 0 (by omega), h.2.1 1 (by omega), h.2.1 2 (by omega), h.2.1 3 (by omega), h.2.1 4 (by omega), h.2.1 5 (by omega), h.2.1 6 (by omega)⟩

theorem reckon_yes {a b : D7} {put : Int → Int → Int} (ra : Right a) (rb : Right b) (ro : Right (dOf (fun i => put (a.get i) (b.get i)))) : reckonG a b put = (dOf (fun i => put (a.get i) (b.get i)), true) := by
  unfold reckonG; rw [if_pos ⟨ra, rb, ro⟩]

/-- Each power is at most m away from 0. -/
def Upto (a : D7) (m : Int) : Prop := ∀ i, i < 7 → -m ≤ a.get i ∧ a.get i ≤ m
theorem Upto.right {a : D7} {m : Int} (h : Upto a m) (hm : m ≤ 99) : Right a := fun i hi => by have := h i hi; omega
theorem mul_upto {x y m k : Int} (hx : -m ≤ x ∧ x ≤ m) (hy : -k ≤ y ∧ y ≤ k) (hm : 0 ≤ m) : -(m * k) ≤ x * y ∧ x * y ≤ m * k := by
  have h1 : x.natAbs ≤ m.natAbs := by omega
  have h2 : y.natAbs ≤ k.natAbs := by omega
  have h3 := Nat.mul_le_mul h1 h2
  rw [← Int.natAbs_mul, ← Int.natAbs_mul] at h3
  have hk : 0 ≤ m * k := Int.mul_nonneg hm (by omega)
  omega
/-- So many times, at most four times, of at most m. -/
def timD (a : D7) (n : Int) : D7 := dOf (fun i => a.get i * n)
def sumD (a b : D7) : D7 := dOf (fun i => a.get i + b.get i)
theorem tim_upto {a : D7} {m n k : Int} (h : Upto a m) (hn : -k ≤ n ∧ n ≤ k) (hm : 0 ≤ m) : Upto (timD a n) (m * k) := fun i hi => by
  unfold timD; rw [get_of _ i hi]; exact mul_upto (h i hi) hn hm
theorem sum_upto {a b : D7} {m k : Int} (h : Upto a m) (g : Upto b k) : Upto (sumD a b) (m + k) := fun i hi => by
  unfold sumD; rw [get_of _ i hi]; have := h i hi; have := g i hi; omega
theorem times_yes {a : D7} {m n k : Int} (h : Upto a m) (hn : -k ≤ n ∧ n ≤ k) (hm : 0 ≤ m) (hm9 : m ≤ 99) (hk : k ≤ 100) (hmk : m * k ≤ 99) : timesG a n = (timD a n, true) := by
  have hw : within n 100 = n := within_in (by omega) (by omega)
  unfold timesG
  rw [hw]
  exact reckon_yes (h.right hm9) (h.right hm9) ((tim_upto h hn hm).right hmk)
theorem add_yes {a b : D7} {m k : Int} (h : Upto a m) (g : Upto b k) (hm : m ≤ 99) (hk : k ≤ 99) (hmk : m + k ≤ 99) : addG a b = (sumD a b, true) :=
  reckon_yes (h.right hm) (g.right hk) ((sum_upto h g).right hmk)
theorem tim_tim (a : D7) (i k : Int) : timD (timD a i) k = timD a (i * k) := by
  refine d_ext fun j hj => ?_
  unfold timD
  rw [get_of _ j hj, get_of _ j hj, get_of _ j hj, Int.mul_assoc]
theorem tim_sum (a b : D7) (i : Int) : timD (sumD a b) i = sumD (timD a i) (timD b i) := by
  refine d_ext fun j hj => ?_
  unfold timD sumD
  rw [get_of _ j hj, get_of _ j hj, get_of _ j hj, get_of _ j hj, get_of _ j hj, Int.add_mul]

set_option maxRecDepth 100000 in
set_option maxHeartbeats 4000000 in
theorem times_walk (q r : D7) (m n : Int) (w : World) (hE : Env w) (fq : Fine q) (fr : Fine r) (bm : -9223372036854775808 ≤ m ∧ m ≤ 9223372036854775807) (bn : -9223372036854775808 ≤ n ∧ n ≤ 9223372036854775807) :
    Calls Tryd.prog 10 #[.agg #[.int .i64 q.a0, .int .i64 q.a1, .int .i64 q.a2, .int .i64 q.a3, .int .i64 q.a4, .int .i64 q.a5, .int .i64 q.a6, .int .i64 r.a0, .int .i64 r.a1, .int .i64 r.a2, .int .i64 r.a3, .int .i64 r.a4, .int .i64 r.a5, .int .i64 r.a6], .int .i64 m, .int .i64 n] w fun e w' => e = .returned (.bool true) ∧ Below w.heap.size w w' := by
  have lQ := Lies14.new w q r
  have hB : Below w.heap.size w (w.alloc (.cells #[.int .i64 q.a0, .int .i64 q.a1, .int .i64 q.a2, .int .i64 q.a3, .int .i64 q.a4, .int .i64 q.a5, .int .i64 q.a6, .int .i64 r.a0, .int .i64 r.a1, .int .i64 r.a2, .int .i64 r.a3, .int .i64 r.a4, .int .i64 r.a5, .int .i64 r.a6] 40)) := by go_grown
  have m1 : -5 < m.tmod 5 := Int.lt_tmod_of_pos m (by omega)
  have m2 : m.tmod 5 < 5 := Int.tmod_lt_of_pos m (by omega)
  have n1 : -5 < n.tmod 5 := Int.lt_tmod_of_pos n (by omega)
  have n2 : n.tmod 5 < 5 := Int.tmod_lt_of_pos n (by omega)
  have nQ := near_any q 4
  have nR := near_any r 4
  have uP : Upto (nearG q 4) 4 := fun i hi => near_get q 4 i hi (by omega)
  have uC : Upto (nearG r 4) 4 := fun i hi => near_get r 4 i hi (by omega)
  generalize nearG q 4 = P at *
  generalize nearG r 4 = C at *
  have hik := mul_upto (m := 4) (k := 4) (show -4 ≤ m.tmod 5 ∧ m.tmod 5 ≤ 4 by omega) (show -4 ≤ n.tmod 5 ∧ n.tmod 5 ≤ 4 by omega) (by omega)
  have hik1 : -16 ≤ m.tmod 5 * n.tmod 5 := by omega
  have hik2 : m.tmod 5 * n.tmod 5 ≤ 16 := by omega
  generalize hi : m.tmod 5 = i at *
  generalize hk : n.tmod 5 = k at *
  have hi4 : -4 ≤ i ∧ i ≤ 4 := by omega
  have hk4 : -4 ≤ k ∧ k ≤ 4 := by omega
  have y1 := times_yes uP hi4 (by omega) (by omega) (by omega) (by omega)
  have uX := tim_upto uP hi4 (by omega)
  have y2 := times_yes uX hk4 (by omega) (by omega) (by omega) (by omega)
  have y3 := times_yes (n := i * k) (k := 16) uP (by omega) (by omega) (by omega) (by omega) (by omega)
  have y4 := add_yes uP uC (by omega) (by omega) (by omega)
  have uS := sum_upto uP uC
  have y5 := times_yes uS hi4 (by omega) (by omega) (by omega) (by omega)
  have y6 := times_yes uC hi4 (by omega) (by omega) (by omega) (by omega)
  have uV := tim_upto uC hi4 (by omega)
  have y7 := add_yes uX uV (by omega) (by omega) (by omega)
  have c1 := times_any P i
  have c2 := times_any (timD P i) k
  have c3 := times_any P (i * k)
  have c4 := add_any P C
  have c5 := times_any (sumD P C) i
  have c6 := times_any C i
  have c7 := add_any (timD P i) (timD C i)
  rw [y1] at c1
  rw [y2] at c2
  rw [y3] at c3
  rw [y4] at c4
  rw [y5] at c5
  rw [y6] at c6
  rw [y7] at c7
  have q1 := eqB_same (timD P (i * k))
  have q2 := eqB_same (sumD (timD P i) (timD C i))
  rw [tim_tim] at c2
  rw [tim_sum] at c5
  have f1 := (uP.right (by omega)).fine
  have f2 := (uC.right (by omega)).fine
  have f3 := (uX.right (by omega)).fine
  have f4 := (uS.right (by omega)).fine
  have f5 := (uV.right (by omega)).fine
  clear y1 y2 y3 y4 y5 y6 y7 uP uC uX uS uV
  generalize timD P (i * k) = Y at *
  generalize sumD (timD P i) (timD C i) = T at *
  generalize timD P i = X at *
  generalize timD C i = V at *
  generalize sumD P C = S at *
  have eq := eq7
  simp only [D7.v] at nQ nR c1 c2 c3 c4 c5 c6 c7
  obtain ⟨a0, a1, a2, a3, a4, a5, a6⟩ := lQ.fst
  go_enter Tryd.func10, Tryd.ntmps10
  go_wp2_with fail
  refine (awake_yes _ (hE.below hB)).mono ?_
  rintro e w1 ⟨rfl, hb⟩
  replace lQ := lQ.below hb lQ.2.2
  replace hB := Below.goB hB hB.size hb
  clear hb a0 a1 a2 a3 a4 a5 a6
  obtain ⟨a0, a1, a2, a3, a4, a5, a6⟩ := lQ.fst
  go_wp2_with fail
  refine (nQ _ fq (by omega) (by omega)).mono ?_
  rintro e w2 ⟨rfl, hb⟩
  have lP := Lies7.new w2 P
  replace lQ := (lQ.below hb lQ.2.2).below (W' := w2.alloc (.cells #[.int .i64 P.a0, .int .i64 P.a1, .int .i64 P.a2, .int .i64 P.a3, .int .i64 P.a4, .int .i64 P.a5, .int .i64 P.a6] 39)) (B := w2.heap.size) (by go_grown) (Nat.lt_of_lt_of_le lQ.2.2 hb.size)
  replace hB : Below w.heap.size w (w2.alloc (.cells #[.int .i64 P.a0, .int .i64 P.a1, .int .i64 P.a2, .int .i64 P.a3, .int .i64 P.a4, .int .i64 P.a5, .int .i64 P.a6] 39)) := Below.goB (Below.goB hB hB.size hb) (Nat.le_trans hB.size hb.size) (by go_grown)
  clear hb a0 a1 a2 a3 a4 a5 a6
  obtain ⟨a0, a1, a2, a3, a4, a5, a6⟩ := lQ.snd
  go_wp2_with fail
  generalize w2.alloc (.cells #[.int .i64 P.a0, .int .i64 P.a1, .int .i64 P.a2, .int .i64 P.a3, .int .i64 P.a4, .int .i64 P.a5, .int .i64 P.a6] 39) = U0 at *
  refine (nR _ fr (by omega) (by omega)).mono ?_
  rintro e w3 ⟨rfl, hb⟩
  have lC := Lies7.new w3 C
  replace lP := (lP.below hb lP.2.2).alloc (.cells #[.int .i64 C.a0, .int .i64 C.a1, .int .i64 C.a2, .int .i64 C.a3, .int .i64 C.a4, .int .i64 C.a5, .int .i64 C.a6] 39)
  replace hB : Below w.heap.size w (w3.alloc (.cells #[.int .i64 C.a0, .int .i64 C.a1, .int .i64 C.a2, .int .i64 C.a3, .int .i64 C.a4, .int .i64 C.a5, .int .i64 C.a6] 39)) := Below.goB (Below.goB hB hB.size hb) (Nat.le_trans hB.size hb.size) (by go_grown)
  clear hb a0 a1 a2 a3 a4 a5 a6 lQ
  obtain ⟨a0, a1, a2, a3, a4, a5, a6⟩ := lP.cells
  simp only [D7.get] at a0 a1 a2 a3 a4 a5 a6
  go_wp2_with fail
  clear a0 a1 a2 a3 a4 a5 a6
  generalize w3.alloc (.cells #[.int .i64 C.a0, .int .i64 C.a1, .int .i64 C.a2, .int .i64 C.a3, .int .i64 C.a4, .int .i64 C.a5, .int .i64 C.a6] 39) = U1 at *
  refine (c1 U1 f1 (by omega) (by omega)).mono ?_
  rintro e w4 ⟨rfl, hb⟩
  have lX := Lies7.new w4 X
  replace lP := (lP.below hb lP.2.2).alloc (.cells #[.int .i64 X.a0, .int .i64 X.a1, .int .i64 X.a2, .int .i64 X.a3, .int .i64 X.a4, .int .i64 X.a5, .int .i64 X.a6] 39)
  replace lC := (lC.below hb lC.2.2).alloc (.cells #[.int .i64 X.a0, .int .i64 X.a1, .int .i64 X.a2, .int .i64 X.a3, .int .i64 X.a4, .int .i64 X.a5, .int .i64 X.a6] 39)
  replace hB : Below w.heap.size w (w4.alloc (.cells #[.int .i64 X.a0, .int .i64 X.a1, .int .i64 X.a2, .int .i64 X.a3, .int .i64 X.a4, .int .i64 X.a5, .int .i64 X.a6] 39)) := Below.goB (Below.goB hB hB.size hb) (Nat.le_trans hB.size hb.size) (by go_grown)
  clear hb
  obtain ⟨a0, a1, a2, a3, a4, a5, a6⟩ := lX.cells
  simp only [D7.get] at a0 a1 a2 a3 a4 a5 a6
  go_wp2_with fail
  clear a0 a1 a2 a3 a4 a5 a6
  generalize w4.alloc (.cells #[.int .i64 X.a0, .int .i64 X.a1, .int .i64 X.a2, .int .i64 X.a3, .int .i64 X.a4, .int .i64 X.a5, .int .i64 X.a6] 39) = U2 at *
  refine (c2 U2 f3 (by omega) (by omega)).mono ?_
  rintro e w5 ⟨rfl, hb⟩
  have lY := Lies7.new w5 Y
  replace lP := (lP.below hb lP.2.2).alloc (.cells #[.int .i64 Y.a0, .int .i64 Y.a1, .int .i64 Y.a2, .int .i64 Y.a3, .int .i64 Y.a4, .int .i64 Y.a5, .int .i64 Y.a6] 39)
  replace lC := (lC.below hb lC.2.2).alloc (.cells #[.int .i64 Y.a0, .int .i64 Y.a1, .int .i64 Y.a2, .int .i64 Y.a3, .int .i64 Y.a4, .int .i64 Y.a5, .int .i64 Y.a6] 39)
  replace lX := (lX.below hb lX.2.2).alloc (.cells #[.int .i64 Y.a0, .int .i64 Y.a1, .int .i64 Y.a2, .int .i64 Y.a3, .int .i64 Y.a4, .int .i64 Y.a5, .int .i64 Y.a6] 39)
  replace hB : Below w.heap.size w (w5.alloc (.cells #[.int .i64 Y.a0, .int .i64 Y.a1, .int .i64 Y.a2, .int .i64 Y.a3, .int .i64 Y.a4, .int .i64 Y.a5, .int .i64 Y.a6] 39)) := Below.goB (Below.goB hB hB.size hb) (Nat.le_trans hB.size hb.size) (by go_grown)
  clear hb
  obtain ⟨a0, a1, a2, a3, a4, a5, a6⟩ := lP.cells
  simp only [D7.get] at a0 a1 a2 a3 a4 a5 a6
  go_wp2_with fail
  clear a0 a1 a2 a3 a4 a5 a6
  generalize w5.alloc (.cells #[.int .i64 Y.a0, .int .i64 Y.a1, .int .i64 Y.a2, .int .i64 Y.a3, .int .i64 Y.a4, .int .i64 Y.a5, .int .i64 Y.a6] 39) = U3 at *
  refine (c3 U3 f1 (by omega) (by omega)).mono ?_
  rintro e w6 ⟨rfl, hb⟩
  have lZ := Lies7.new w6 Y
  replace lP := (lP.below hb lP.2.2).alloc (.cells #[.int .i64 Y.a0, .int .i64 Y.a1, .int .i64 Y.a2, .int .i64 Y.a3, .int .i64 Y.a4, .int .i64 Y.a5, .int .i64 Y.a6] 39)
  replace lC := (lC.below hb lC.2.2).alloc (.cells #[.int .i64 Y.a0, .int .i64 Y.a1, .int .i64 Y.a2, .int .i64 Y.a3, .int .i64 Y.a4, .int .i64 Y.a5, .int .i64 Y.a6] 39)
  replace lX := (lX.below hb lX.2.2).alloc (.cells #[.int .i64 Y.a0, .int .i64 Y.a1, .int .i64 Y.a2, .int .i64 Y.a3, .int .i64 Y.a4, .int .i64 Y.a5, .int .i64 Y.a6] 39)
  replace lY := (lY.below hb lY.2.2).alloc (.cells #[.int .i64 Y.a0, .int .i64 Y.a1, .int .i64 Y.a2, .int .i64 Y.a3, .int .i64 Y.a4, .int .i64 Y.a5, .int .i64 Y.a6] 39)
  replace hB : Below w.heap.size w (w6.alloc (.cells #[.int .i64 Y.a0, .int .i64 Y.a1, .int .i64 Y.a2, .int .i64 Y.a3, .int .i64 Y.a4, .int .i64 Y.a5, .int .i64 Y.a6] 39)) := Below.goB (Below.goB hB hB.size hb) (Nat.le_trans hB.size hb.size) (by go_grown)
  clear hb
  obtain ⟨a0, a1, a2, a3, a4, a5, a6⟩ := lP.cells
  simp only [D7.get] at a0 a1 a2 a3 a4 a5 a6
  obtain ⟨b0, b1, b2, b3, b4, b5, b6⟩ := lC.cells
  simp only [D7.get] at b0 b1 b2 b3 b4 b5 b6
  go_wp2_with fail
  clear a0 a1 a2 a3 a4 a5 a6 b0 b1 b2 b3 b4 b5 b6
  generalize w6.alloc (.cells #[.int .i64 Y.a0, .int .i64 Y.a1, .int .i64 Y.a2, .int .i64 Y.a3, .int .i64 Y.a4, .int .i64 Y.a5, .int .i64 Y.a6] 39) = U4 at *
  refine (c4 U4 f1 f2).mono ?_
  rintro e w7 ⟨rfl, hb⟩
  have lS := Lies7.new w7 S
  replace lP := (lP.below hb lP.2.2).alloc (.cells #[.int .i64 S.a0, .int .i64 S.a1, .int .i64 S.a2, .int .i64 S.a3, .int .i64 S.a4, .int .i64 S.a5, .int .i64 S.a6] 39)
  replace lC := (lC.below hb lC.2.2).alloc (.cells #[.int .i64 S.a0, .int .i64 S.a1, .int .i64 S.a2, .int .i64 S.a3, .int .i64 S.a4, .int .i64 S.a5, .int .i64 S.a6] 39)
  replace lX := (lX.below hb lX.2.2).alloc (.cells #[.int .i64 S.a0, .int .i64 S.a1, .int .i64 S.a2, .int .i64 S.a3, .int .i64 S.a4, .int .i64 S.a5, .int .i64 S.a6] 39)
  replace lY := (lY.below hb lY.2.2).alloc (.cells #[.int .i64 S.a0, .int .i64 S.a1, .int .i64 S.a2, .int .i64 S.a3, .int .i64 S.a4, .int .i64 S.a5, .int .i64 S.a6] 39)
  replace lZ := (lZ.below hb lZ.2.2).alloc (.cells #[.int .i64 S.a0, .int .i64 S.a1, .int .i64 S.a2, .int .i64 S.a3, .int .i64 S.a4, .int .i64 S.a5, .int .i64 S.a6] 39)
  replace hB : Below w.heap.size w (w7.alloc (.cells #[.int .i64 S.a0, .int .i64 S.a1, .int .i64 S.a2, .int .i64 S.a3, .int .i64 S.a4, .int .i64 S.a5, .int .i64 S.a6] 39)) := Below.goB (Below.goB hB hB.size hb) (Nat.le_trans hB.size hb.size) (by go_grown)
  clear hb
  obtain ⟨a0, a1, a2, a3, a4, a5, a6⟩ := lS.cells
  simp only [D7.get] at a0 a1 a2 a3 a4 a5 a6
  go_wp2_with fail
  clear a0 a1 a2 a3 a4 a5 a6
  generalize w7.alloc (.cells #[.int .i64 S.a0, .int .i64 S.a1, .int .i64 S.a2, .int .i64 S.a3, .int .i64 S.a4, .int .i64 S.a5, .int .i64 S.a6] 39) = U5 at *
  refine (c5 U5 f4 (by omega) (by omega)).mono ?_
  rintro e w8 ⟨rfl, hb⟩
  have lT := Lies7.new w8 T
  replace lP := (lP.below hb lP.2.2).alloc (.cells #[.int .i64 T.a0, .int .i64 T.a1, .int .i64 T.a2, .int .i64 T.a3, .int .i64 T.a4, .int .i64 T.a5, .int .i64 T.a6] 39)
  replace lC := (lC.below hb lC.2.2).alloc (.cells #[.int .i64 T.a0, .int .i64 T.a1, .int .i64 T.a2, .int .i64 T.a3, .int .i64 T.a4, .int .i64 T.a5, .int .i64 T.a6] 39)
  replace lX := (lX.below hb lX.2.2).alloc (.cells #[.int .i64 T.a0, .int .i64 T.a1, .int .i64 T.a2, .int .i64 T.a3, .int .i64 T.a4, .int .i64 T.a5, .int .i64 T.a6] 39)
  replace lY := (lY.below hb lY.2.2).alloc (.cells #[.int .i64 T.a0, .int .i64 T.a1, .int .i64 T.a2, .int .i64 T.a3, .int .i64 T.a4, .int .i64 T.a5, .int .i64 T.a6] 39)
  replace lZ := (lZ.below hb lZ.2.2).alloc (.cells #[.int .i64 T.a0, .int .i64 T.a1, .int .i64 T.a2, .int .i64 T.a3, .int .i64 T.a4, .int .i64 T.a5, .int .i64 T.a6] 39)
  replace lS := (lS.below hb lS.2.2).alloc (.cells #[.int .i64 T.a0, .int .i64 T.a1, .int .i64 T.a2, .int .i64 T.a3, .int .i64 T.a4, .int .i64 T.a5, .int .i64 T.a6] 39)
  replace hB : Below w.heap.size w (w8.alloc (.cells #[.int .i64 T.a0, .int .i64 T.a1, .int .i64 T.a2, .int .i64 T.a3, .int .i64 T.a4, .int .i64 T.a5, .int .i64 T.a6] 39)) := Below.goB (Below.goB hB hB.size hb) (Nat.le_trans hB.size hb.size) (by go_grown)
  clear hb
  obtain ⟨a0, a1, a2, a3, a4, a5, a6⟩ := lC.cells
  simp only [D7.get] at a0 a1 a2 a3 a4 a5 a6
  go_wp2_with fail
  clear a0 a1 a2 a3 a4 a5 a6
  generalize w8.alloc (.cells #[.int .i64 T.a0, .int .i64 T.a1, .int .i64 T.a2, .int .i64 T.a3, .int .i64 T.a4, .int .i64 T.a5, .int .i64 T.a6] 39) = U6 at *
  refine (c6 U6 f2 (by omega) (by omega)).mono ?_
  rintro e w9 ⟨rfl, hb⟩
  have lV := Lies7.new w9 V
  replace lP := (lP.below hb lP.2.2).alloc (.cells #[.int .i64 V.a0, .int .i64 V.a1, .int .i64 V.a2, .int .i64 V.a3, .int .i64 V.a4, .int .i64 V.a5, .int .i64 V.a6] 39)
  replace lC := (lC.below hb lC.2.2).alloc (.cells #[.int .i64 V.a0, .int .i64 V.a1, .int .i64 V.a2, .int .i64 V.a3, .int .i64 V.a4, .int .i64 V.a5, .int .i64 V.a6] 39)
  replace lX := (lX.below hb lX.2.2).alloc (.cells #[.int .i64 V.a0, .int .i64 V.a1, .int .i64 V.a2, .int .i64 V.a3, .int .i64 V.a4, .int .i64 V.a5, .int .i64 V.a6] 39)
  replace lY := (lY.below hb lY.2.2).alloc (.cells #[.int .i64 V.a0, .int .i64 V.a1, .int .i64 V.a2, .int .i64 V.a3, .int .i64 V.a4, .int .i64 V.a5, .int .i64 V.a6] 39)
  replace lZ := (lZ.below hb lZ.2.2).alloc (.cells #[.int .i64 V.a0, .int .i64 V.a1, .int .i64 V.a2, .int .i64 V.a3, .int .i64 V.a4, .int .i64 V.a5, .int .i64 V.a6] 39)
  replace lS := (lS.below hb lS.2.2).alloc (.cells #[.int .i64 V.a0, .int .i64 V.a1, .int .i64 V.a2, .int .i64 V.a3, .int .i64 V.a4, .int .i64 V.a5, .int .i64 V.a6] 39)
  replace lT := (lT.below hb lT.2.2).alloc (.cells #[.int .i64 V.a0, .int .i64 V.a1, .int .i64 V.a2, .int .i64 V.a3, .int .i64 V.a4, .int .i64 V.a5, .int .i64 V.a6] 39)
  replace hB : Below w.heap.size w (w9.alloc (.cells #[.int .i64 V.a0, .int .i64 V.a1, .int .i64 V.a2, .int .i64 V.a3, .int .i64 V.a4, .int .i64 V.a5, .int .i64 V.a6] 39)) := Below.goB (Below.goB hB hB.size hb) (Nat.le_trans hB.size hb.size) (by go_grown)
  clear hb
  obtain ⟨a0, a1, a2, a3, a4, a5, a6⟩ := lX.cells
  simp only [D7.get] at a0 a1 a2 a3 a4 a5 a6
  obtain ⟨b0, b1, b2, b3, b4, b5, b6⟩ := lV.cells
  simp only [D7.get] at b0 b1 b2 b3 b4 b5 b6
  go_wp2_with fail
  clear a0 a1 a2 a3 a4 a5 a6 b0 b1 b2 b3 b4 b5 b6
  generalize w9.alloc (.cells #[.int .i64 V.a0, .int .i64 V.a1, .int .i64 V.a2, .int .i64 V.a3, .int .i64 V.a4, .int .i64 V.a5, .int .i64 V.a6] 39) = U7 at *
  refine (c7 U7 f3 f5).mono ?_
  rintro e wa ⟨rfl, hb⟩
  have lW := Lies7.new wa T
  replace lP := (lP.below hb lP.2.2).alloc (.cells #[.int .i64 T.a0, .int .i64 T.a1, .int .i64 T.a2, .int .i64 T.a3, .int .i64 T.a4, .int .i64 T.a5, .int .i64 T.a6] 39)
  replace lC := (lC.below hb lC.2.2).alloc (.cells #[.int .i64 T.a0, .int .i64 T.a1, .int .i64 T.a2, .int .i64 T.a3, .int .i64 T.a4, .int .i64 T.a5, .int .i64 T.a6] 39)
  replace lX := (lX.below hb lX.2.2).alloc (.cells #[.int .i64 T.a0, .int .i64 T.a1, .int .i64 T.a2, .int .i64 T.a3, .int .i64 T.a4, .int .i64 T.a5, .int .i64 T.a6] 39)
  replace lY := (lY.below hb lY.2.2).alloc (.cells #[.int .i64 T.a0, .int .i64 T.a1, .int .i64 T.a2, .int .i64 T.a3, .int .i64 T.a4, .int .i64 T.a5, .int .i64 T.a6] 39)
  replace lZ := (lZ.below hb lZ.2.2).alloc (.cells #[.int .i64 T.a0, .int .i64 T.a1, .int .i64 T.a2, .int .i64 T.a3, .int .i64 T.a4, .int .i64 T.a5, .int .i64 T.a6] 39)
  replace lS := (lS.below hb lS.2.2).alloc (.cells #[.int .i64 T.a0, .int .i64 T.a1, .int .i64 T.a2, .int .i64 T.a3, .int .i64 T.a4, .int .i64 T.a5, .int .i64 T.a6] 39)
  replace lT := (lT.below hb lT.2.2).alloc (.cells #[.int .i64 T.a0, .int .i64 T.a1, .int .i64 T.a2, .int .i64 T.a3, .int .i64 T.a4, .int .i64 T.a5, .int .i64 T.a6] 39)
  replace lV := (lV.below hb lV.2.2).alloc (.cells #[.int .i64 T.a0, .int .i64 T.a1, .int .i64 T.a2, .int .i64 T.a3, .int .i64 T.a4, .int .i64 T.a5, .int .i64 T.a6] 39)
  replace hB : Below w.heap.size w (wa.alloc (.cells #[.int .i64 T.a0, .int .i64 T.a1, .int .i64 T.a2, .int .i64 T.a3, .int .i64 T.a4, .int .i64 T.a5, .int .i64 T.a6] 39)) := Below.goB (Below.goB hB hB.size hb) (Nat.le_trans hB.size hb.size) (by go_grown)
  clear hb
  obtain ⟨a0, a1, a2, a3, a4, a5, a6⟩ := lY.cells
  simp only [D7.get] at a0 a1 a2 a3 a4 a5 a6
  obtain ⟨b0, b1, b2, b3, b4, b5, b6⟩ := lZ.cells
  simp only [D7.get] at b0 b1 b2 b3 b4 b5 b6
  obtain ⟨d0, d1, d2, d3, d4, d5, d6⟩ := lT.cells
  simp only [D7.get] at d0 d1 d2 d3 d4 d5 d6
  obtain ⟨g0, g1, g2, g3, g4, g5, g6⟩ := lW.cells
  simp only [D7.get] at g0 g1 g2 g3 g4 g5 g6
  go_wp2
  go_ret
  exact ⟨rfl, hB⟩

theorem times_law (a0 a1 a2 a3 a4 a5 a6 a7 a8 a9 a10 a11 a12 a13 m n : Int) (w : World) (hE : Env w) (b0 : -9223372036854775808 ≤ a0 ∧ a0 ≤ 9223372036854775807) (b1 : -9223372036854775808 ≤ a1 ∧ a1 ≤ 9223372036854775807) (b2 : -9223372036854775808 ≤ a2 ∧ a2 ≤ 9223372036854775807) (b3 : -9223372036854775808 ≤ a3 ∧ a3 ≤ 9223372036854775807) (b4 : -9223372036854775808 ≤ a4 ∧ a4 ≤ 9223372036854775807) (b5 : -9223372036854775808 ≤ a5 ∧ a5 ≤ 9223372036854775807) (b6 : -9223372036854775808 ≤ a6 ∧ a6 ≤ 9223372036854775807) (b7 : -9223372036854775808 ≤ a7 ∧ a7 ≤ 9223372036854775807) (b8 : -9223372036854775808 ≤ a8 ∧ a8 ≤ 9223372036854775807) (b9 : -9223372036854775808 ≤ a9 ∧ a9 ≤ 9223372036854775807) (b10 : -9223372036854775808 ≤ a10 ∧ a10 ≤ 9223372036854775807) (b11 : -9223372036854775808 ≤ a11 ∧ a11 ≤ 9223372036854775807) (b12 : -9223372036854775808 ≤ a12 ∧ a12 ≤ 9223372036854775807) (b13 : -9223372036854775808 ≤ a13 ∧ a13 ≤ 9223372036854775807) (bm : -9223372036854775808 ≤ m ∧ m ≤ 9223372036854775807) (bn : -9223372036854775808 ≤ n ∧ n ≤ 9223372036854775807) :
    Calls Tryd.prog 10 #[.agg #[.int .i64 a0, .int .i64 a1, .int .i64 a2, .int .i64 a3, .int .i64 a4, .int .i64 a5, .int .i64 a6, .int .i64 a7, .int .i64 a8, .int .i64 a9, .int .i64 a10, .int .i64 a11, .int .i64 a12, .int .i64 a13], .int .i64 m, .int .i64 n] w fun e w' => e = .returned (.bool true) ∧ Below w.heap.size w w' :=
  times_walk ⟨a0, a1, a2, a3, a4, a5, a6⟩ ⟨a7, a8, a9, a10, a11, a12, a13⟩ m n w hE (seven b0 b1 b2 b3 b4 b5 b6) (seven b7 b8 b9 b10 b11 b12 b13) bm bn

end Go.Proofs.YtjklbnakgkffnaaDoor.Dims

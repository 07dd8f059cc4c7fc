/-
  The walk of the law DimsTimes: it returns true, for every argument of its kind; old memory stays.
-/
import Derived.Test.YtndinbefljajcaaDoorDA
namespace Go.Proofs.YtndinbefljajcaaDoor.Dims
open Go.RowKit Go.Shelf
set_option linter.unusedVariables false
set_option linter.unusedSimpArgs false

/-- Fourteen powers lie in a block: those of two dims. -/
def Lies14 (W : World) (b : Nat) (x y : D7) : Prop := (∀ j, j < 7 → W.cell? ⟨b, j, none⟩ = some (.int .i64 (x.get j))) ∧ (∀ j, j < 7 → W.cell? ⟨b, 7 + j, none⟩ = some (.int .i64 (y.get j))) ∧ b < W.heap.size
theorem Lies14.below {W W' : World} {b B : Nat} {x y : D7} (h : Lies14 W b x y) (hb : Below B W W') (hB : b < B) : Lies14 W' b x y :=
  ⟨fun j hj => (hb.cell (p := ⟨b, j, none⟩) hB).trans (h.1 j hj), fun j hj => (hb.cell (p := ⟨b, 7 + j, none⟩) hB).trans (h.2.1 j hj), by have := hb.size; have := h.2.2; omega⟩
theorem Lies14.new (W : World) (x y : D7) : Lies14 (W.alloc (.cells #[.int .i64 x.a0, .int .i64 x.a1, .int .i64 x.a2, .int .i64 x.a3, .int .i64 x.a4, .int .i64 x.a5, .int .i64 x.a6, .int .i64 y.a0, .int .i64 y.a1, .int .i64 y.a2, .int .i64 y.a3, .int .i64 y.a4, .int .i64 y.a5, .int .i64 y.a6] 24)) W.heap.size x y := by
  refine ⟨?_, ?_, by simp⟩
  · refine seven ?_ ?_ ?_ ?_ ?_ ?_ ?_ <;> simp [go_sem, D7.get]
  · refine seven ?_ ?_ ?_ ?_ ?_ ?_ ?_ <;> simp [go_sem, D7.get]
theorem Lies14.fst {W : World} {b : Nat} {x y : D7} (h : Lies14 W b x y) : W.cell? ⟨b, 0, none⟩ = some (.int .i64 x.a0) ∧ W.cell? ⟨b, 1, none⟩ = some (.int .i64 x.a1) ∧ W.cell? ⟨b, 2, none⟩ = some (.int .i64 x.a2) ∧ W.cell? ⟨b, 3, none⟩ = some (.int .i64 x.a3) ∧ W.cell? ⟨b, 4, none⟩ = some (.int .i64 x.a4) ∧ W.cell? ⟨b, 5, none⟩ = some (.int .i64 x.a5) ∧ W.cell? ⟨b, 6, none⟩ = some (.int .i64 x.a6) :=
  ⟨h.1 0 (by omega), h.1 1 (by omega), h.1 2 (by omega), h.1 3 (by omega), h.1 4 (by omega), h.1 5 (by omega), h.1 6 (by omega)⟩
theorem Lies14.snd {W : World} {b : Nat} {x y : D7} (h : Lies14 W b x y) : W.cell? ⟨b, 7, none⟩ = some (.int .i64 y.a0) ∧ W.cell? ⟨b, 8, none⟩ = some (.int .i64 y.a1) ∧ W.cell? ⟨b, 9, none⟩ = some (.int .i64 y.a2) ∧ W.cell? ⟨b, 10, none⟩ = some (.int .i64 y.a3) ∧ W.cell? ⟨b, 11, none⟩ = some (.int .i64 y.a4) ∧ W.cell? ⟨b, 12, none⟩ = some (.int .i64 y.a5) ∧ W.cell? ⟨b, 13, none⟩ = some (.int .i64 y.a6) :=
  ⟨h.2.1 0 (by omega), h.2.1 1 (by omega), h.2.1 2 (by omega), h.2.1 3 (by omega), h.2.1 4 (by omega), h.2.1 5 (by omega), h.2.1 6 (by omega)⟩

theorem reckon_yes {a b : D7} {put : Int → Int → Int} (ra : Right a) (rb : Right b) (ro : Right (dOf (fun i => put (a.get i) (b.get i)))) : reckonG a b put = (dOf (fun i => put (a.get i) (b.get i)), true) := by
  unfold reckonG; rw [if_pos ⟨ra, rb, ro⟩]

/-- Each power is at most m away from 0. -/
def Upto (a : D7) (m : Int) : Prop := ∀ i, i < 7 → -m ≤ a.get i ∧ a.get i ≤ m
theorem Upto.right {a : D7} {m : Int} (h : Upto a m) (hm : m ≤ 99) : Right a := fun i hi => by have := h i hi; omega
theorem mul_upto {x y m k : Int} (hx : -m ≤ x ∧ x ≤ m) (hy : -k ≤ y ∧ y ≤ k) (hm : 0 ≤ m) : -(m * k) ≤ x * y ∧ x * y ≤ m * k := by
  have h1 : x.natAbs ≤ m.natAbs := by omega
  have h2 : y.natAbs ≤ k.natAbs := by omega
  have h3 := Nat.mul_le_mul h1 h2
  rw [← Int.natAbs_mul, ← Int.natAbs_mul] at h3
  have hk : 0 ≤ m * k := Int.mul_nonneg hm (by omega)
  omega
/-- So many times, at most four times, of at most m. -/
def timD (a : D7) (n : Int) : D7 := dOf (fun i => a.get i * n)
def sumD (a b : D7) : D7 := dOf (fun i => a.get i + b.get i)
theorem tim_upto {a : D7} {m n k : Int} (h : Upto a m) (hn : -k ≤ n ∧ n ≤ k) (hm : 0 ≤ m) : Upto (timD a n) (m * k) := fun i hi => by
  unfold timD; rw [get_of _ i hi]; exact mul_upto (h i hi) hn hm
theorem sum_upto {a b : D7} {m k : Int} (h : Upto a m) (g : Upto b k) : Upto (sumD a b) (m + k) := fun i hi => by
  unfold sumD; rw [get_of _ i hi]; have := h i hi; have := g i hi; omega
theorem times_yes {a : D7} {m n k : Int} (h : Upto a m) (hn : -k ≤ n ∧ n ≤ k) (hm : 0 ≤ m) (hm9 : m ≤ 99) (hk : k ≤ 100) (hmk : m * k ≤ 99) : timesG a n = (timD a n, true) := by
  have hw : within n 100 = n := within_in (by omega) (by omega)
  unfold timesG
  rw [hw]
  exact reckon_yes (h.right hm9) (h.right hm9) ((tim_upto h hn hm).right hmk)
theorem add_yes {a b : D7} {m k : Int} (h : Upto a m) (g : Upto b k) (hm : m ≤ 99) (hk : k ≤ 99) (hmk : m + k ≤ 99) : addG a b = (sumD a b, true) :=
  reckon_yes (h.right hm) (g.right hk) ((sum_upto h g).right hmk)
theorem tim_tim (a : D7) (i k : Int) : timD (timD a i) k = timD a (i * k) := by
  refine d_ext fun j hj => ?_
  unfold timD
  rw [get_of _ j hj, get_of _ j hj, get_of _ j hj, Int.mul_assoc]
theorem tim_sum (a b : D7) (i : Int) : timD (sumD a b) i = sumD (timD a i) (timD b i) := by
  refine d_ext fun j hj => ?_
  unfold timD sumD
  rw [get_of _ j hj, get_of _ j hj, get_of _ j hj, get_of _ j hj, get_of _ j hj, Int.add_mul]

end Go.Proofs.YtndinbefljajcaaDoor.Dims

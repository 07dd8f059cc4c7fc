/-
  The walk of the law DimsBack: it returns true, for every argument of its kind; old memory stays.
-/
import Derived.Test.YtndinbefljajcaaDoorDT
namespace Go.Proofs.YtndinbefljajcaaDoor.Dims
open Go.RowKit Go.Shelf
set_option linter.unusedVariables false
set_option linter.unusedSimpArgs false

theorem reckon_no {a b : D7} {put : Int → Int → Int} (h : ¬ (Right a ∧ Right b ∧ Right (dOf (fun i => put (a.get i) (b.get i))))) : reckonG a b put = (dZero, false) := by
  unfold reckonG; rw [if_neg h]
theorem sum_comm (a b : D7) : sumD a b = sumD b a := by
  refine d_ext fun j hj => ?_
  unfold sumD
  rw [get_of _ j hj, get_of _ j hj, Int.add_comm]
open Classical in
theorem add_is (a b : D7) (ra : Right a) (rb : Right b) : addG a b = if Right (sumD a b) then (sumD a b, true) else (dZero, false) := by
  by_cases h : Right (sumD a b)
  · rw [if_pos h]; exact reckon_yes ra rb h
  · rw [if_neg h]; exact reckon_no (fun h' => h h'.2.2)
theorem sub_back (a b : D7) (ra : Right a) (rb : Right b) (rs : Right (sumD a b)) : subG (sumD a b) b = (a, true) := by
  have e : dOf (fun i => (sumD a b).get i - b.get i) = a := by
    refine d_ext fun j hj => ?_
    rw [get_of _ j hj]
    unfold sumD
    rw [get_of _ j hj]
    omega
  unfold subG
  rw [reckon_yes rs rb (by rw [e]; exact ra), e]
theorem tim_zero (a : D7) : timD a 0 = dZero := by
  refine d_ext fun j hj => ?_
  unfold timD
  rw [get_of _ j hj, zero_get, Int.mul_zero]
theorem sum_tim (a : D7) (k : Nat) : sumD (timD a k) a = timD a (k + 1 : Nat) := by
  refine d_ext fun j hj => ?_
  unfold timD sumD
  rw [get_of _ j hj, get_of _ j hj, get_of _ j hj, Int.natCast_add, Int.mul_add]
  simp
theorem tim_mono (a : D7) (k n : Nat) (h : k ≤ n) (hr : Right (timD a n)) : Right (timD a k) := by
  intro i hi
  have h1 := hr i hi
  unfold timD at h1 ⊢
  rw [get_of _ i hi] at h1 ⊢
  have h2 : (a.get i * (k : Int)).natAbs ≤ (a.get i * (n : Int)).natAbs := by
    rw [Int.natAbs_mul, Int.natAbs_mul]
    exact Nat.mul_le_mul_left _ (by omega)
  omega
theorem tim_neg (a : D7) (n : Int) : Right (timD a (-n)) ↔ Right (timD a n) := by
  constructor
  · intro h i hi
    have h1 := h i hi
    unfold timD at h1 ⊢
    rw [get_of _ i hi] at h1 ⊢
    rw [Int.mul_neg] at h1
    omega
  · intro h i hi
    have h1 := h i hi
    unfold timD at h1 ⊢
    rw [get_of _ i hi] at h1 ⊢
    rw [Int.mul_neg]
    omega
theorem sum_neg (a : D7) (n : Int) : sumD (timD a n) (timD a (-n)) = dZero := by
  refine d_ext fun j hj => ?_
  unfold timD sumD
  rw [get_of _ j hj, get_of _ j hj, get_of _ j hj, zero_get, Int.mul_neg]
  omega
open Classical in
theorem times_is (a : D7) (n : Int) (ra : Right a) (h0 : -100 ≤ n) (h1 : n ≤ 100) : timesG a n = if Right (timD a n) then (timD a n, true) else (dZero, false) := by
  have hw : within n 100 = n := within_in (by omega) (by omega)
  unfold timesG
  rw [hw]
  by_cases h : Right (timD a n)
  · rw [if_pos h]; exact reckon_yes ra ra h
  · rw [if_neg h]; exact reckon_no (fun h' => h h'.2.2)
open Classical in
theorem add_zero : addG dZero dZero = (dZero, true) := by
  have e : sumD dZero dZero = dZero := by
    refine d_ext fun j hj => ?_
    unfold sumD
    rw [get_of _ j hj, zero_get]
    rfl
  rw [add_is _ _ zero_right zero_right, e, if_pos zero_right]

theorem Lies7.otherPut {W : World} {b : Nat} {x : Nat → Int} (h : Lies7 W b x) (b' : Nat) (O : D7) (hn : b' ≠ b) : Lies7 (((((((W.setCell ⟨b', 0, none⟩ (.int .i64 O.a0)).setCell ⟨b', 1, none⟩ (.int .i64 O.a1)).setCell ⟨b', 2, none⟩ (.int .i64 O.a2)).setCell ⟨b', 3, none⟩ (.int .i64 O.a3)).setCell ⟨b', 4, none⟩ (.int .i64 O.a4)).setCell ⟨b', 5, none⟩ (.int .i64 O.a5)).setCell ⟨b', 6, none⟩ (.int .i64 O.a6)) b x :=
  ((((((h.other b' 0 _ hn).other b' 1 _ hn).other b' 2 _ hn).other b' 3 _ hn).other b' 4 _ hn).other b' 5 _ hn).other b' 6 _ hn

/-- Where the rounds are: so many times, or beyond the limits. -/
def BackI (P : D7) (N : Nat) (f : Bool) (k : Nat) (S : D7) : Prop := k ≤ N ∧ ((f = true ∧ S = timD P k ∧ Right (timD P k)) ∨ (f = false ∧ S = dZero ∧ ¬ Right (timD P N)))

end Go.Proofs.YtndinbefljajcaaDoor.Dims

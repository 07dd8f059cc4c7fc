/-
  The walk of the law DimsBack: it returns true, for every argument of its kind; old memory stays.
-/
import Derived.Test.YtjklbnakgkffnaaDoorDT
namespace Go.Proofs.YtjklbnakgkffnaaDoor.Dims
open Go.RowKit Go.Shelf
set_option linter.unusedVariables false
set_option linter.unusedSimpArgs false

theorem reckon_no {a b : D7} {put : Int → Int → Int} (h : ¬ (Right a ∧ Right b ∧ Right (dOf (fun i => put (a.get i) (b.get i))))) : reckonG a b put = (dZero, false) := by
  unfold reckonG; rw [if_neg h]
theorem sum_comm (a b : D7) : sumD a b = sumD b a := by
  refine d_ext fun j hj => ?_
  unfold sumD
  rw [get_of _ j hj, get_of _ j hj, Int.add_comm]
open Classical in
theorem add_is (a b : D7) (ra : Right a) (rb : Right b) : addG a b = if Right (sumD a b) then (sumD a b, true) else (dZero, false) := by
  by_cases h : Right (sumD a b)
  · rw [if_pos h]; exact reckon_yes ra rb h
  · rw [if_neg h]; exact reckon_no (fun h' => h h'.2.2)
theorem sub_back (a b : D7) (ra : Right a) (rb : Right b) (rs : Right (sumD a b)) : subG (sumD a b) b = (a, true) := by
  have e : dOf (fun i => (sumD a b).get i - b.get i) = a := by
    refine d_ext fun j hj => ?_
    rw [get_of _ j hj]
    unfold sumD
    rw [get_of _ j hj]
    omega
  unfold subG
  rw [reckon_yes rs rb (by rw [e]; exact ra), e]
theorem tim_zero (a : D7) : timD a 0 = dZero := by
  refine d_ext fun j hj => ?_
  unfold timD
  rw [get_of _ j hj, zero_get, Int.mul_zero]
theorem sum_tim (a : D7) (k : Nat) : sumD (timD a k) a = timD a (k + 1 : Nat) := by
  refine d_ext fun j hj => ?_
  unfold timD sumD
  rw [get_of _ j hj, get_of _ j hj, get_of _ j hj, Int.natCast_add, Int.mul_add]
  simp
theorem tim_mono (a : D7) (k n : Nat) (h : k ≤ n) (hr : Right (timD a n)) : Right (timD a k) := by
  intro i hi
  have h1 := hr i hi
  unfold timD at h1 ⊢
  rw [get_of _ i hi] at h1 ⊢
  have h2 : (a.get i * (k : Int)).natAbs ≤ (a.get i * (n : Int)).natAbs := by
    rw [Int.natAbs_mul, Int.natAbs_mul]
    exact Nat.mul_le_mul_left _ (by omega)
  omega
theorem tim_neg (a : D7) (n : Int) : Right (timD a (-n)) ↔ Right (timD a n) := by
  constructor
  · intro h i hi
    have h1 := h i hi
    unfold timD at h1 ⊢
    rw [get_of _ i hi] at h1 ⊢
    rw [Int.mul_neg] at h1
    omega
  · intro h i hi
    have h1 := h i hi
    unfold timD at h1 ⊢
    rw [get_of _ i hi] at h1 ⊢
    rw [Int.mul_neg]
    omega
theorem sum_neg (a : D7) (n : Int) : sumD (timD a n) (timD a (-n)) = dZero := by
  refine d_ext fun j hj => ?_
  unfold timD sumD
  rw [get_of _ j hj, get_of _ j hj, get_of _ j hj, zero_get, Int.mul_neg]
  omega
open Classical in
theorem times_is (a : D7) (n : Int) (ra : Right a) (h0 : -100 ≤ n) (h1 : n ≤ 100) : timesG a n = if Right (timD a n) then (timD a n, true) else (dZero, false) := by
  have hw : within n 100 = n := within_in (by omega) (by omega)
  unfold timesG
  rw [hw]
  by_cases h : Right (timD a n)
  · rw [if_pos h]; exact reckon_yes ra ra h
  · rw [if_neg h]; exact reckon_no (fun h' => h h'.2.2)
open Classical in
theorem add_zero : addG dZero dZero = (dZero, true) := by
  have e : sumD dZero dZero = dZero := by
    refine d_ext fun j hj => ?_
    unfold sumD
    rw [get_of _ j hj, zero_get]
    rfl
  rw [add_is _ _ zero_right zero_right, e, if_pos zero_right]

theorem Lies7.otherPut {W : World} {b : Nat} {x : Nat → Int} (h : Lies7 W b x) (b' : Nat) (O : D7) (hn : b' ≠ b) : Lies7 (((((((W.setCell ⟨b', 0, none⟩ (.int .i64 O.a0)).setCell ⟨b', 1, none⟩ (.int .i64 O.a1)).setCell ⟨b', 2, none⟩ (.int .i64 O.a2)).setCell ⟨b', 3, none⟩ (.int .i64 O.a3)).setCell ⟨b', 4, none⟩ (.int .i64 O.a4)).setCell ⟨b', 5, none⟩ (.int .i64 O.a5)).setCell ⟨b', 6, none⟩ (.int .i64 O.a6)) b x :=
  ((((((h.other b' 0 _ hn).other b' 1 _ hn).other b' 2 _ hn).other b' 3 _ hn).other b' 4 _ hn).other b' 5 _ hn).other b' 6 _ hn

/-- Where the rounds are: so many times, or beyond the limits. -/
def BackI (P : D7) (N : Nat) (f : Bool) (k : Nat) (S : D7) : Prop := k ≤ N ∧ ((f = true ∧ S = timD P k ∧ Right (timD P k)) ∨ (f = false ∧ S = dZero ∧ ¬ Right (timD P N)))

open Classical in
set_option maxRecDepth 100000 in
set_option maxHeartbeats 8000000 in
theorem back_yes (q r : D7) (often : Int) (w : World) (hE : Env w) (fq : Fine q) (fr : Fine r) (bo : -9223372036854775808 ≤ often ∧ often ≤ 9223372036854775807) (hone : Right (sumD (nearG q 99) (nearG r 99))) :
    Calls Tryd.prog 6 #[.agg #[.int .i64 q.a0, .int .i64 q.a1, .int .i64 q.a2, .int .i64 q.a3, .int .i64 q.a4, .int .i64 q.a5, .int .i64 q.a6, .int .i64 r.a0, .int .i64 r.a1, .int .i64 r.a2, .int .i64 r.a3, .int .i64 r.a4, .int .i64 r.a5, .int .i64 r.a6], .int .i64 often] w fun e w' => e = .returned (.bool true) ∧ Below w.heap.size w w' := by
  have lQ := Lies14.new w q r
  have hB : Below w.heap.size w (w.alloc (.cells #[.int .i64 q.a0, .int .i64 q.a1, .int .i64 q.a2, .int .i64 q.a3, .int .i64 q.a4, .int .i64 q.a5, .int .i64 q.a6, .int .i64 r.a0, .int .i64 r.a1, .int .i64 r.a2, .int .i64 r.a3, .int .i64 r.a4, .int .i64 r.a5, .int .i64 r.a6] 40)) := by go_grown
  have o1 : -10 < often.tmod 10 := Int.lt_tmod_of_pos often (by omega)
  have o2 : often.tmod 10 < 10 := Int.tmod_lt_of_pos often (by omega)
  obtain ⟨N, hN, hN9⟩ : ∃ N : Nat, (often.tmod 10 + 10) % 10 = (N : Int) ∧ N ≤ 9 := ⟨((often.tmod 10 + 10) % 10).toNat, by omega, by omega⟩
  have nQ := near_any q 99
  have nR := near_any r 99
  have rP := near_right q 99 (by omega) (by omega)
  have rC := near_right r 99 (by omega) (by omega)
  generalize nearG q 99 = P at *
  generalize nearG r 99 = C at *
  have c1 := add_any P C
  have c2 := add_any C P
  rw [add_is P C rP rC] at c1
  rw [add_is C P rC rP, ← sum_comm] at c2
  have c3 := sub_any (sumD P C) C
  rw [if_pos hone] at c1 c2
  rw [sub_back P C rP rC hone] at c3
  have fX := hone.fine
  have qx := eqB_same (sumD P C)
  have qp := eqB_same P
  generalize sumD P C = X at *
  have t1 := times_any P N
  have t2 := times_any P (-N)
  rw [times_is P N rP (by omega) (by omega)] at t1
  rw [times_is P (-N) rP (by omega) (by omega)] at t2
  have fP := rP.fine
  have fC := rC.fine
  have hsum := fun (S : D7) => add_any S P
  have eq := eq7
  have nq := ne7
  simp only [D7.v] at nQ nR c1 c2 c3
  obtain ⟨a0, a1, a2, a3, a4, a5, a6⟩ := lQ.fst
  go_enter Tryd.func6, Tryd.ntmps6
  go_wp2_with fail
  refine (awake_yes _ (hE.below hB)).mono ?_
  rintro e w1 ⟨rfl, hb⟩
  replace lQ := lQ.below hb lQ.2.2
  replace hB := Below.goB hB hB.size hb
  clear hb a0 a1 a2 a3 a4 a5 a6
  obtain ⟨a0, a1, a2, a3, a4, a5, a6⟩ := lQ.fst
  go_wp2_with fail
  refine (nQ _ fq (by omega) (by omega)).mono ?_
  rintro e w2 ⟨rfl, hb⟩
  have lP := Lies7.new w2 P
  have lP2 : w2.heap.size < w2.heap.size + 1 := Nat.lt_succ_self _
  replace lQ := (lQ.below hb lQ.2.2).below (W' := w2.alloc (.cells #[.int .i64 P.a0, .int .i64 P.a1, .int .i64 P.a2, .int .i64 P.a3, .int .i64 P.a4, .int .i64 P.a5, .int .i64 P.a6] 39)) (B := w2.heap.size) (by go_grown) (Nat.lt_of_lt_of_le lQ.2.2 hb.size)
  replace hB : Below w.heap.size w (w2.alloc (.cells #[.int .i64 P.a0, .int .i64 P.a1, .int .i64 P.a2, .int .i64 P.a3, .int .i64 P.a4, .int .i64 P.a5, .int .i64 P.a6] 39)) := Below.goB (Below.goB hB hB.size hb) (Nat.le_trans hB.size hb.size) (by go_grown)
  clear hb a0 a1 a2 a3 a4 a5 a6
  obtain ⟨a0, a1, a2, a3, a4, a5, a6⟩ := lQ.snd
  go_wp2_with fail
  generalize w2.alloc (.cells #[.int .i64 P.a0, .int .i64 P.a1, .int .i64 P.a2, .int .i64 P.a3, .int .i64 P.a4, .int .i64 P.a5, .int .i64 P.a6] 39) = U0 at *
  refine (nR _ fr (by omega) (by omega)).mono ?_
  rintro e w3 ⟨rfl, hb⟩
  have lC := Lies7.new w3 C
  replace lP := (lP.below hb lP.2.2).alloc (.cells #[.int .i64 C.a0, .int .i64 C.a1, .int .i64 C.a2, .int .i64 C.a3, .int .i64 C.a4, .int .i64 C.a5, .int .i64 C.a6] 39)
  replace hB : Below w.heap.size w (w3.alloc (.cells #[.int .i64 C.a0, .int .i64 C.a1, .int .i64 C.a2, .int .i64 C.a3, .int .i64 C.a4, .int .i64 C.a5, .int .i64 C.a6] 39)) := Below.goB (Below.goB hB hB.size hb) (Nat.le_trans hB.size hb.size) (by go_grown)
  clear hb a0 a1 a2 a3 a4 a5 a6 lQ
  obtain ⟨a0, a1, a2, a3, a4, a5, a6⟩ := lP.cells
  simp only [D7.get] at a0 a1 a2 a3 a4 a5 a6
  go_wp2_with fail
  clear a0 a1 a2 a3 a4 a5 a6
  generalize w3.alloc (.cells #[.int .i64 C.a0, .int .i64 C.a1, .int .i64 C.a2, .int .i64 C.a3, .int .i64 C.a4, .int .i64 C.a5, .int .i64 C.a6] 39) = U1 at *
  refine (c1 U1 fP fC).mono ?_
  rintro e w4 ⟨rfl, hb⟩
  have lX := Lies7.new w4 X
  replace lP := (lP.below hb lP.2.2).alloc (.cells #[.int .i64 X.a0, .int .i64 X.a1, .int .i64 X.a2, .int .i64 X.a3, .int .i64 X.a4, .int .i64 X.a5, .int .i64 X.a6] 39)
  replace lC := (lC.below hb lC.2.2).alloc (.cells #[.int .i64 X.a0, .int .i64 X.a1, .int .i64 X.a2, .int .i64 X.a3, .int .i64 X.a4, .int .i64 X.a5, .int .i64 X.a6] 39)
  replace hB : Below w.heap.size w (w4.alloc (.cells #[.int .i64 X.a0, .int .i64 X.a1, .int .i64 X.a2, .int .i64 X.a3, .int .i64 X.a4, .int .i64 X.a5, .int .i64 X.a6] 39)) := Below.goB (Below.goB hB hB.size hb) (Nat.le_trans hB.size hb.size) (by go_grown)
  clear hb
  obtain ⟨a0, a1, a2, a3, a4, a5, a6⟩ := lC.cells
  simp only [D7.get] at a0 a1 a2 a3 a4 a5 a6
  obtain ⟨b0, b1, b2, b3, b4, b5, b6⟩ := lP.cells
  simp only [D7.get] at b0 b1 b2 b3 b4 b5 b6
  go_wp2_with fail
  clear a0 a1 a2 a3 a4 a5 a6 b0 b1 b2 b3 b4 b5 b6
  generalize w4.alloc (.cells #[.int .i64 X.a0, .int .i64 X.a1, .int .i64 X.a2, .int .i64 X.a3, .int .i64 X.a4, .int .i64 X.a5, .int .i64 X.a6] 39) = U2 at *
  refine (c2 U2 fC fP).mono ?_
  rintro e w5 ⟨rfl, hb⟩
  have lY := Lies7.new w5 X
  replace lP := (lP.below hb lP.2.2).alloc (.cells #[.int .i64 X.a0, .int .i64 X.a1, .int .i64 X.a2, .int .i64 X.a3, .int .i64 X.a4, .int .i64 X.a5, .int .i64 X.a6] 39)
  replace lC := (lC.below hb lC.2.2).alloc (.cells #[.int .i64 X.a0, .int .i64 X.a1, .int .i64 X.a2, .int .i64 X.a3, .int .i64 X.a4, .int .i64 X.a5, .int .i64 X.a6] 39)
  replace lX := (lX.below hb lX.2.2).alloc (.cells #[.int .i64 X.a0, .int .i64 X.a1, .int .i64 X.a2, .int .i64 X.a3, .int .i64 X.a4, .int .i64 X.a5, .int .i64 X.a6] 39)
  replace hB : Below w.heap.size w (w5.alloc (.cells #[.int .i64 X.a0, .int .i64 X.a1, .int .i64 X.a2, .int .i64 X.a3, .int .i64 X.a4, .int .i64 X.a5, .int .i64 X.a6] 39)) := Below.goB (Below.goB hB hB.size hb) (Nat.le_trans hB.size hb.size) (by go_grown)
  clear hb
  obtain ⟨a0, a1, a2, a3, a4, a5, a6⟩ := lX.cells
  simp only [D7.get] at a0 a1 a2 a3 a4 a5 a6
  obtain ⟨b0, b1, b2, b3, b4, b5, b6⟩ := lY.cells
  simp only [D7.get] at b0 b1 b2 b3 b4 b5 b6
  obtain ⟨d0, d1, d2, d3, d4, d5, d6⟩ := lC.cells
  simp only [D7.get] at d0 d1 d2 d3 d4 d5 d6
  go_wp2_with fail
  clear a0 a1 a2 a3 a4 a5 a6 b0 b1 b2 b3 b4 b5 b6 d0 d1 d2 d3 d4 d5 d6
  generalize w5.alloc (.cells #[.int .i64 X.a0, .int .i64 X.a1, .int .i64 X.a2, .int .i64 X.a3, .int .i64 X.a4, .int .i64 X.a5, .int .i64 X.a6] 39) = U3 at *
  refine (c3 U3 fX fC).mono ?_
  rintro e w6 ⟨rfl, hb⟩
  have lK := Lies7.new w6 P
  replace lP := (lP.below hb lP.2.2).alloc (.cells #[.int .i64 P.a0, .int .i64 P.a1, .int .i64 P.a2, .int .i64 P.a3, .int .i64 P.a4, .int .i64 P.a5, .int .i64 P.a6] 39)
  replace lC := (lC.below hb lC.2.2).alloc (.cells #[.int .i64 P.a0, .int .i64 P.a1, .int .i64 P.a2, .int .i64 P.a3, .int .i64 P.a4, .int .i64 P.a5, .int .i64 P.a6] 39)
  replace lX := (lX.below hb lX.2.2).alloc (.cells #[.int .i64 P.a0, .int .i64 P.a1, .int .i64 P.a2, .int .i64 P.a3, .int .i64 P.a4, .int .i64 P.a5, .int .i64 P.a6] 39)
  replace lY := (lY.below hb lY.2.2).alloc (.cells #[.int .i64 P.a0, .int .i64 P.a1, .int .i64 P.a2, .int .i64 P.a3, .int .i64 P.a4, .int .i64 P.a5, .int .i64 P.a6] 39)
  replace hB : Below w.heap.size w (w6.alloc (.cells #[.int .i64 P.a0, .int .i64 P.a1, .int .i64 P.a2, .int .i64 P.a3, .int .i64 P.a4, .int .i64 P.a5, .int .i64 P.a6] 39)) := Below.goB (Below.goB hB hB.size hb) (Nat.le_trans hB.size hb.size) (by go_grown)
  clear hb
  obtain ⟨a0, a1, a2, a3, a4, a5, a6⟩ := lK.cells
  simp only [D7.get] at a0 a1 a2 a3 a4 a5 a6
  obtain ⟨b0, b1, b2, b3, b4, b5, b6⟩ := lP.cells
  simp only [D7.get] at b0 b1 b2 b3 b4 b5 b6
  replace lP2 : w2.heap.size < w6.heap.size + 1 := by have := lP.2.2; simpa only [World.size_alloc] using this
  have hw6 : w.heap.size ≤ w6.heap.size + 1 := by have := hB.size; simpa only [World.size_alloc] using this
  go_wp2
  have lS := Lies7.new (w6.alloc (.cells #[.int .i64 P.a0, .int .i64 P.a1, .int .i64 P.a2, .int .i64 P.a3, .int .i64 P.a4, .int .i64 P.a5, .int .i64 P.a6] 39)) dZero
  simp only [dZero, World.size_alloc] at lS
  replace lP := lP.alloc (.cells #[.int .i64 0, .int .i64 0, .int .i64 0, .int .i64 0, .int .i64 0, .int .i64 0, .int .i64 0] 39)
  replace hB : Below w.heap.size w ((w6.alloc (.cells #[.int .i64 P.a0, .int .i64 P.a1, .int .i64 P.a2, .int .i64 P.a3, .int .i64 P.a4, .int .i64 P.a5, .int .i64 P.a6] 39)).alloc (.cells #[.int .i64 0, .int .i64 0, .int .i64 0, .int .i64 0, .int .i64 0, .int .i64 0, .int .i64 0] 39)) := Below.goB hB hB.size (by go_grown)
  have hne : w6.heap.size + 1 ≠ w2.heap.size := by
    have := lP2
    omega
  clear lX lY lK lC c1 c2 c3 nQ nR
  try clear a0 a1 a2 a3 a4 a5 a6 b0 b1 b2 b3 b4 b5 b6
  generalize ((w6.alloc (.cells #[.int .i64 P.a0, .int .i64 P.a1, .int .i64 P.a2, .int .i64 P.a3, .int .i64 P.a4, .int .i64 P.a5, .int .i64 P.a6] 39)).alloc (.cells #[.int .i64 0, .int .i64 0, .int .i64 0, .int .i64 0, .int .i64 0, .int .i64 0, .int .i64 0] 39)) = V0 at *
  rw [hN]
  clear hN o1 o2
  go_loopw [16, 17] (fun f i wr => ∃ (fb : Bool) (k : Nat) (S : D7), f = .bool fb ∧ i = .int .i64 k ∧ Hid (BackI P N fb k S) ∧ Lies7 wr (w6.heap.size + 1) S.get ∧ Lies7 wr w2.heap.size P.get ∧ Below w.heap.size w wr) (fun _ i _ => (10 - intOf i).toNat)
  case atStart => exact ⟨true, 0, dZero, rfl, rfl, ⟨by omega, .inl ⟨rfl, (tim_zero P).symm, by rw [show ((0 : Nat) : Int) = 0 from rfl, tim_zero]; exact zero_right⟩⟩, lS, lP, hB⟩
  case round =>
    clear lS lP hB
    obtain ⟨fb, k, S, rfl, rfl, hI, lS, lP, hB⟩ := hrel
    obtain ⟨hk, hst⟩ := hI.out
    rcases hst with ⟨rfl, hS, hr⟩ | ⟨rfl, hS, hr⟩
    · by_cases hkN : k < N
      · have hkN' : (k : Int) < (N : Int) := by omega
        have cs : addG S P = if Right (timD P (k + 1 : Nat)) then (timD P (k + 1 : Nat), true) else (dZero, false) := by
          rw [hS, add_is _ _ hr rP, sum_tim]
        have c5 := hsum S
        have fS : Fine S := by rw [hS]; exact hr.fine
        rw [cs] at c5
        have HS := Lib.hid hS
        clear cs hI hS t1 t2 hsum
        by_cases h2 : Right (timD P (k + 1 : Nat))
        · rw [if_pos h2] at c5
          have HT := Lib.hid (rfl : timD P (k + 1 : Nat) = timD P (k + 1 : Nat))
          generalize hT : timD P (k + 1 : Nat) = T at c5
          have HTT := Lib.hid hT
          clear hT
          simp only [D7.v] at c5
          obtain ⟨a0, a1, a2, a3, a4, a5, a6⟩ := lS.cells
          simp only [D7.get] at a0 a1 a2 a3 a4 a5 a6
          obtain ⟨b0, b1, b2, b3, b4, b5, b6⟩ := lP.cells
          simp only [D7.get] at b0 b1 b2 b3 b4 b5 b6
          go_wp2_with fail
          refine (c5 _ fS fP).mono ?_
          rintro e v ⟨rfl, hb⟩
          replace lS := lS.below hb lS.2.2
          replace lP := lP.below hb lP.2.2
          replace hB := Below.goB hB hB.size hb
          clear a0 a1 a2 a3 a4 a5 a6 b0 b1 b2 b3 b4 b5 b6
          clear hb
          obtain ⟨a0, a1, a2, a3, a4, a5, a6⟩ := lS.cells
          simp only [D7.get] at a0 a1 a2 a3 a4 a5 a6
          have mf := lS.2.1
          go_wp2
          go_roundw
          case rel => exact ⟨true, k + 1, T, rfl, rfl, ⟨by omega, .inl ⟨rfl, HTT.out.symm, h2⟩⟩, lS.put T, lP.otherPut _ T hne, (by go_grown)⟩
          case measure => simp only [intOf]; omega
        · rw [if_neg h2] at c5
          simp only [D7.v, dZero] at c5
          obtain ⟨a0, a1, a2, a3, a4, a5, a6⟩ := lS.cells
          simp only [D7.get] at a0 a1 a2 a3 a4 a5 a6
          obtain ⟨b0, b1, b2, b3, b4, b5, b6⟩ := lP.cells
          simp only [D7.get] at b0 b1 b2 b3 b4 b5 b6
          go_wp2_with fail
          refine (c5 _ fS fP).mono ?_
          rintro e v ⟨rfl, hb⟩
          replace lS := lS.below hb lS.2.2
          replace lP := lP.below hb lP.2.2
          replace hB := Below.goB hB hB.size hb
          clear a0 a1 a2 a3 a4 a5 a6 b0 b1 b2 b3 b4 b5 b6
          clear hb
          obtain ⟨a0, a1, a2, a3, a4, a5, a6⟩ := lS.cells
          simp only [D7.get] at a0 a1 a2 a3 a4 a5 a6
          have mf := lS.2.1
          go_wp2
          go_roundw
          case rel => exact ⟨false, k + 1, dZero, rfl, rfl, ⟨by omega, .inr ⟨rfl, rfl, fun h => h2 (tim_mono P (k + 1) N (by omega) h)⟩⟩, lS.put dZero, lP.otherPut _ dZero hne, (by go_grown)⟩
          case measure => simp only [intOf]; omega
      · have hkN' : ¬ (k : Int) < (N : Int) := by omega
        obtain rfl : k = N := by omega
        rw [if_pos hr] at t1
        rw [if_pos ((tim_neg P k).2 hr)] at t2
        have c6 := add_any (timD P k) (timD P (-k))
        rw [add_is _ _ hr ((tim_neg P k).2 hr), sum_neg, if_pos zero_right] at c6
        have fZ := hr.fine
        have fM := ((tim_neg P k).2 hr).fine
        rw [← hS] at t1 c6 fZ
        have qs := eqB_same S
        clear hS hI hr hsum
        generalize timD P (-k) = M at *
        simp only [D7.v] at t1 t2 c6
        simp only [dZero] at c6
        obtain ⟨a0, a1, a2, a3, a4, a5, a6⟩ := lP.cells
        simp only [D7.get] at a0 a1 a2 a3 a4 a5 a6
        go_wp2_with fail
        refine (t1 _ fP (by omega) (by omega)).mono ?_
        rintro e v1 ⟨rfl, hb⟩
        have lZ := Lies7.new v1 S
        replace lP := (lP.below hb lP.2.2).alloc (.cells #[.int .i64 S.a0, .int .i64 S.a1, .int .i64 S.a2, .int .i64 S.a3, .int .i64 S.a4, .int .i64 S.a5, .int .i64 S.a6] 39)
        replace lS := (lS.below hb lS.2.2).alloc (.cells #[.int .i64 S.a0, .int .i64 S.a1, .int .i64 S.a2, .int .i64 S.a3, .int .i64 S.a4, .int .i64 S.a5, .int .i64 S.a6] 39)
        replace hB : Below w.heap.size w (v1.alloc (.cells #[.int .i64 S.a0, .int .i64 S.a1, .int .i64 S.a2, .int .i64 S.a3, .int .i64 S.a4, .int .i64 S.a5, .int .i64 S.a6] 39)) := Below.goB (Below.goB hB hB.size hb) (Nat.le_trans hB.size hb.size) (by go_grown)
        clear hb a0 a1 a2 a3 a4 a5 a6
        obtain ⟨a0, a1, a2, a3, a4, a5, a6⟩ := lP.cells
        simp only [D7.get] at a0 a1 a2 a3 a4 a5 a6
        go_wp2_with fail
        clear a0 a1 a2 a3 a4 a5 a6
        generalize v1.alloc (.cells #[.int .i64 S.a0, .int .i64 S.a1, .int .i64 S.a2, .int .i64 S.a3, .int .i64 S.a4, .int .i64 S.a5, .int .i64 S.a6] 39) = V1 at *
        refine (t2 _ fP (by omega) (by omega)).mono ?_
        rintro e v2 ⟨rfl, hb⟩
        have lM := Lies7.new v2 M
        replace lZ := (lZ.below hb lZ.2.2).alloc (.cells #[.int .i64 M.a0, .int .i64 M.a1, .int .i64 M.a2, .int .i64 M.a3, .int .i64 M.a4, .int .i64 M.a5, .int .i64 M.a6] 39)
        replace lS := (lS.below hb lS.2.2).alloc (.cells #[.int .i64 M.a0, .int .i64 M.a1, .int .i64 M.a2, .int .i64 M.a3, .int .i64 M.a4, .int .i64 M.a5, .int .i64 M.a6] 39)
        replace hB : Below w.heap.size w (v2.alloc (.cells #[.int .i64 M.a0, .int .i64 M.a1, .int .i64 M.a2, .int .i64 M.a3, .int .i64 M.a4, .int .i64 M.a5, .int .i64 M.a6] 39)) := Below.goB (Below.goB hB hB.size hb) (Nat.le_trans hB.size hb.size) (by go_grown)
        clear hb
        obtain ⟨a0, a1, a2, a3, a4, a5, a6⟩ := lZ.cells
        simp only [D7.get] at a0 a1 a2 a3 a4 a5 a6
        obtain ⟨b0, b1, b2, b3, b4, b5, b6⟩ := lM.cells
        simp only [D7.get] at b0 b1 b2 b3 b4 b5 b6
        go_wp2_with fail
        clear a0 a1 a2 a3 a4 a5 a6 b0 b1 b2 b3 b4 b5 b6
        generalize v2.alloc (.cells #[.int .i64 M.a0, .int .i64 M.a1, .int .i64 M.a2, .int .i64 M.a3, .int .i64 M.a4, .int .i64 M.a5, .int .i64 M.a6] 39) = V2 at *
        refine (c6 _ fZ fM).mono ?_
        rintro e v3 ⟨rfl, hb⟩
        have lO := Lies7.new v3 dZero
        simp only [dZero] at lO
        replace lZ := (lZ.below hb lZ.2.2).alloc (.cells #[.int .i64 0, .int .i64 0, .int .i64 0, .int .i64 0, .int .i64 0, .int .i64 0, .int .i64 0] 39)
        replace lS := (lS.below hb lS.2.2).alloc (.cells #[.int .i64 0, .int .i64 0, .int .i64 0, .int .i64 0, .int .i64 0, .int .i64 0, .int .i64 0] 39)
        replace hB : Below w.heap.size w (v3.alloc (.cells #[.int .i64 0, .int .i64 0, .int .i64 0, .int .i64 0, .int .i64 0, .int .i64 0, .int .i64 0] 39)) := Below.goB (Below.goB hB hB.size hb) (Nat.le_trans hB.size hb.size) (by go_grown)
        clear hb
        obtain ⟨a0, a1, a2, a3, a4, a5, a6⟩ := lZ.cells
        simp only [D7.get] at a0 a1 a2 a3 a4 a5 a6
        obtain ⟨b0, b1, b2, b3, b4, b5, b6⟩ := lS.cells
        simp only [D7.get] at b0 b1 b2 b3 b4 b5 b6
        obtain ⟨d0, d1, d2, d3, d4, d5, d6⟩ := lO.cells
        simp only [D7.get] at d0 d1 d2 d3 d4 d5 d6
        have qz := eqB_same dZero
        simp only [dZero] at qz
        go_wp2
        go_ret
        exact ⟨rfl, hB⟩
    · rw [if_neg hr] at t1
      rw [if_neg (fun h => hr ((tim_neg P N).1 h))] at t2
      have c6 := add_any dZero dZero
      rw [add_zero] at c6
      have fZ := zero_right.fine
      have fM := zero_right.fine
      clear hI hr hsum
      simp only [D7.v, dZero] at t1 t2 c6
      simp only [dZero] at fZ fM
      rcases Classical.em ((k : Int) < (N : Int)) with hkN' | hkN'
      all_goals
        obtain ⟨a0, a1, a2, a3, a4, a5, a6⟩ := lP.cells
        simp only [D7.get] at a0 a1 a2 a3 a4 a5 a6
        go_wp2_with fail
        refine (t1 _ fP (by omega) (by omega)).mono ?_
        rintro e v1 ⟨rfl, hb⟩
        have lZ := Lies7.new v1 dZero
        simp only [dZero] at lZ
        replace lP := (lP.below hb lP.2.2).alloc (.cells #[.int .i64 0, .int .i64 0, .int .i64 0, .int .i64 0, .int .i64 0, .int .i64 0, .int .i64 0] 39)
        replace lS := (lS.below hb lS.2.2).alloc (.cells #[.int .i64 0, .int .i64 0, .int .i64 0, .int .i64 0, .int .i64 0, .int .i64 0, .int .i64 0] 39)
        replace hB : Below w.heap.size w (v1.alloc (.cells #[.int .i64 0, .int .i64 0, .int .i64 0, .int .i64 0, .int .i64 0, .int .i64 0, .int .i64 0] 39)) := Below.goB (Below.goB hB hB.size hb) (Nat.le_trans hB.size hb.size) (by go_grown)
        clear hb a0 a1 a2 a3 a4 a5 a6
        obtain ⟨a0, a1, a2, a3, a4, a5, a6⟩ := lP.cells
        simp only [D7.get] at a0 a1 a2 a3 a4 a5 a6
        go_wp2_with fail
        clear a0 a1 a2 a3 a4 a5 a6
        generalize v1.alloc (.cells #[.int .i64 0, .int .i64 0, .int .i64 0, .int .i64 0, .int .i64 0, .int .i64 0, .int .i64 0] 39) = V1 at *
        refine (t2 _ fP (by omega) (by omega)).mono ?_
        rintro e v2 ⟨rfl, hb⟩
        have lM := Lies7.new v2 dZero
        simp only [dZero] at lM
        replace lZ := (lZ.below hb lZ.2.2).alloc (.cells #[.int .i64 0, .int .i64 0, .int .i64 0, .int .i64 0, .int .i64 0, .int .i64 0, .int .i64 0] 39)
        replace lS := (lS.below hb lS.2.2).alloc (.cells #[.int .i64 0, .int .i64 0, .int .i64 0, .int .i64 0, .int .i64 0, .int .i64 0, .int .i64 0] 39)
        replace hB : Below w.heap.size w (v2.alloc (.cells #[.int .i64 0, .int .i64 0, .int .i64 0, .int .i64 0, .int .i64 0, .int .i64 0, .int .i64 0] 39)) := Below.goB (Below.goB hB hB.size hb) (Nat.le_trans hB.size hb.size) (by go_grown)
        clear hb
        obtain ⟨a0, a1, a2, a3, a4, a5, a6⟩ := lZ.cells
        simp only [D7.get] at a0 a1 a2 a3 a4 a5 a6
        obtain ⟨b0, b1, b2, b3, b4, b5, b6⟩ := lM.cells
        simp only [D7.get] at b0 b1 b2 b3 b4 b5 b6
        go_wp2_with fail
        clear a0 a1 a2 a3 a4 a5 a6 b0 b1 b2 b3 b4 b5 b6
        generalize v2.alloc (.cells #[.int .i64 0, .int .i64 0, .int .i64 0, .int .i64 0, .int .i64 0, .int .i64 0, .int .i64 0] 39) = V2 at *
        refine (c6 _ fZ fM).mono ?_
        rintro e v3 ⟨rfl, hb⟩
        have lO := Lies7.new v3 dZero
        simp only [dZero] at lO
        replace lZ := (lZ.below hb lZ.2.2).alloc (.cells #[.int .i64 0, .int .i64 0, .int .i64 0, .int .i64 0, .int .i64 0, .int .i64 0, .int .i64 0] 39)
        replace lS := (lS.below hb lS.2.2).alloc (.cells #[.int .i64 0, .int .i64 0, .int .i64 0, .int .i64 0, .int .i64 0, .int .i64 0, .int .i64 0] 39)
        replace hB : Below w.heap.size w (v3.alloc (.cells #[.int .i64 0, .int .i64 0, .int .i64 0, .int .i64 0, .int .i64 0, .int .i64 0, .int .i64 0] 39)) := Below.goB (Below.goB hB hB.size hb) (Nat.le_trans hB.size hb.size) (by go_grown)
        clear hb
        obtain ⟨a0, a1, a2, a3, a4, a5, a6⟩ := lZ.cells
        simp only [D7.get] at a0 a1 a2 a3 a4 a5 a6
        obtain ⟨b0, b1, b2, b3, b4, b5, b6⟩ := lS.cells
        simp only [D7.get] at b0 b1 b2 b3 b4 b5 b6
        obtain ⟨d0, d1, d2, d3, d4, d5, d6⟩ := lO.cells
        simp only [D7.get] at d0 d1 d2 d3 d4 d5 d6
        have qz := eqB_same dZero
        simp only [dZero] at qz
        go_wp2
        go_ret
        exact ⟨rfl, hB⟩

open Classical in
set_option maxRecDepth 100000 in
set_option maxHeartbeats 8000000 in
theorem back_no (q r : D7) (often : Int) (w : World) (hE : Env w) (fq : Fine q) (fr : Fine r) (bo : -9223372036854775808 ≤ often ∧ often ≤ 9223372036854775807) (hone : ¬ Right (sumD (nearG q 99) (nearG r 99))) :
    Calls Tryd.prog 6 #[.agg #[.int .i64 q.a0, .int .i64 q.a1, .int .i64 q.a2, .int .i64 q.a3, .int .i64 q.a4, .int .i64 q.a5, .int .i64 q.a6, .int .i64 r.a0, .int .i64 r.a1, .int .i64 r.a2, .int .i64 r.a3, .int .i64 r.a4, .int .i64 r.a5, .int .i64 r.a6], .int .i64 often] w fun e w' => e = .returned (.bool true) ∧ Below w.heap.size w w' := by
  have lQ := Lies14.new w q r
  have hB : Below w.heap.size w (w.alloc (.cells #[.int .i64 q.a0, .int .i64 q.a1, .int .i64 q.a2, .int .i64 q.a3, .int .i64 q.a4, .int .i64 q.a5, .int .i64 q.a6, .int .i64 r.a0, .int .i64 r.a1, .int .i64 r.a2, .int .i64 r.a3, .int .i64 r.a4, .int .i64 r.a5, .int .i64 r.a6] 40)) := by go_grown
  have o1 : -10 < often.tmod 10 := Int.lt_tmod_of_pos often (by omega)
  have o2 : often.tmod 10 < 10 := Int.tmod_lt_of_pos often (by omega)
  obtain ⟨N, hN, hN9⟩ : ∃ N : Nat, (often.tmod 10 + 10) % 10 = (N : Int) ∧ N ≤ 9 := ⟨((often.tmod 10 + 10) % 10).toNat, by omega, by omega⟩
  have nQ := near_any q 99
  have nR := near_any r 99
  have rP := near_right q 99 (by omega) (by omega)
  have rC := near_right r 99 (by omega) (by omega)
  generalize nearG q 99 = P at *
  generalize nearG r 99 = C at *
  have c1 := add_any P C
  have c2 := add_any C P
  rw [add_is P C rP rC] at c1
  rw [add_is C P rC rP, ← sum_comm] at c2
  have c3 := sub_any dZero C
  rw [if_neg hone] at c1 c2
  have fX := zero_right.fine
  have qx := eqB_same dZero
  generalize (subG dZero C).2 = ok at *
  generalize (subG dZero C).1 = G at *
  simp only [dZero] at c1 c2 c3 fX qx
  have t1 := times_any P N
  have t2 := times_any P (-N)
  rw [times_is P N rP (by omega) (by omega)] at t1
  rw [times_is P (-N) rP (by omega) (by omega)] at t2
  have fP := rP.fine
  have fC := rC.fine
  have hsum := fun (S : D7) => add_any S P
  have eq := eq7
  have nq := ne7
  simp only [D7.v] at nQ nR c1 c2 c3
  obtain ⟨a0, a1, a2, a3, a4, a5, a6⟩ := lQ.fst
  go_enter Tryd.func6, Tryd.ntmps6
  go_wp2_with fail
  refine (awake_yes _ (hE.below hB)).mono ?_
  rintro e w1 ⟨rfl, hb⟩
  replace lQ := lQ.below hb lQ.2.2
  replace hB := Below.goB hB hB.size hb
  clear hb a0 a1 a2 a3 a4 a5 a6
  obtain ⟨a0, a1, a2, a3, a4, a5, a6⟩ := lQ.fst
  go_wp2_with fail
  refine (nQ _ fq (by omega) (by omega)).mono ?_
  rintro e w2 ⟨rfl, hb⟩
  have lP := Lies7.new w2 P
  have lP2 : w2.heap.size < w2.heap.size + 1 := Nat.lt_succ_self _
  replace lQ := (lQ.below hb lQ.2.2).below (W' := w2.alloc (.cells #[.int .i64 P.a0, .int .i64 P.a1, .int .i64 P.a2, .int .i64 P.a3, .int .i64 P.a4, .int .i64 P.a5, .int .i64 P.a6] 39)) (B := w2.heap.size) (by go_grown) (Nat.lt_of_lt_of_le lQ.2.2 hb.size)
  replace hB : Below w.heap.size w (w2.alloc (.cells #[.int .i64 P.a0, .int .i64 P.a1, .int .i64 P.a2, .int .i64 P.a3, .int .i64 P.a4, .int .i64 P.a5, .int .i64 P.a6] 39)) := Below.goB (Below.goB hB hB.size hb) (Nat.le_trans hB.size hb.size) (by go_grown)
  clear hb a0 a1 a2 a3 a4 a5 a6
  obtain ⟨a0, a1, a2, a3, a4, a5, a6⟩ := lQ.snd
  go_wp2_with fail
  generalize w2.alloc (.cells #[.int .i64 P.a0, .int .i64 P.a1, .int .i64 P.a2, .int .i64 P.a3, .int .i64 P.a4, .int .i64 P.a5, .int .i64 P.a6] 39) = U0 at *
  refine (nR _ fr (by omega) (by omega)).mono ?_
  rintro e w3 ⟨rfl, hb⟩
  have lC := Lies7.new w3 C
  replace lP := (lP.below hb lP.2.2).alloc (.cells #[.int .i64 C.a0, .int .i64 C.a1, .int .i64 C.a2, .int .i64 C.a3, .int .i64 C.a4, .int .i64 C.a5, .int .i64 C.a6] 39)
  replace hB : Below w.heap.size w (w3.alloc (.cells #[.int .i64 C.a0, .int .i64 C.a1, .int .i64 C.a2, .int .i64 C.a3, .int .i64 C.a4, .int .i64 C.a5, .int .i64 C.a6] 39)) := Below.goB (Below.goB hB hB.size hb) (Nat.le_trans hB.size hb.size) (by go_grown)
  clear hb a0 a1 a2 a3 a4 a5 a6 lQ
  obtain ⟨a0, a1, a2, a3, a4, a5, a6⟩ := lP.cells
  simp only [D7.get] at a0 a1 a2 a3 a4 a5 a6
  go_wp2_with fail
  clear a0 a1 a2 a3 a4 a5 a6
  generalize w3.alloc (.cells #[.int .i64 C.a0, .int .i64 C.a1, .int .i64 C.a2, .int .i64 C.a3, .int .i64 C.a4, .int .i64 C.a5, .int .i64 C.a6] 39) = U1 at *
  refine (c1 U1 fP fC).mono ?_
  rintro e w4 ⟨rfl, hb⟩
  have lX := Lies7.new w4 dZero
  simp only [dZero] at lX
  replace lP := (lP.below hb lP.2.2).alloc (.cells #[.int .i64 0, .int .i64 0, .int .i64 0, .int .i64 0, .int .i64 0, .int .i64 0, .int .i64 0] 39)
  replace lC := (lC.below hb lC.2.2).alloc (.cells #[.int .i64 0, .int .i64 0, .int .i64 0, .int .i64 0, .int .i64 0, .int .i64 0, .int .i64 0] 39)
  replace hB : Below w.heap.size w (w4.alloc (.cells #[.int .i64 0, .int .i64 0, .int .i64 0, .int .i64 0, .int .i64 0, .int .i64 0, .int .i64 0] 39)) := Below.goB (Below.goB hB hB.size hb) (Nat.le_trans hB.size hb.size) (by go_grown)
  clear hb
  obtain ⟨a0, a1, a2, a3, a4, a5, a6⟩ := lC.cells
  simp only [D7.get] at a0 a1 a2 a3 a4 a5 a6
  obtain ⟨b0, b1, b2, b3, b4, b5, b6⟩ := lP.cells
  simp only [D7.get] at b0 b1 b2 b3 b4 b5 b6
  go_wp2_with fail
  clear a0 a1 a2 a3 a4 a5 a6 b0 b1 b2 b3 b4 b5 b6
  generalize w4.alloc (.cells #[.int .i64 0, .int .i64 0, .int .i64 0, .int .i64 0, .int .i64 0, .int .i64 0, .int .i64 0] 39) = U2 at *
  refine (c2 U2 fC fP).mono ?_
  rintro e w5 ⟨rfl, hb⟩
  have lY := Lies7.new w5 dZero
  simp only [dZero] at lY
  replace lP := (lP.below hb lP.2.2).alloc (.cells #[.int .i64 0, .int .i64 0, .int .i64 0, .int .i64 0, .int .i64 0, .int .i64 0, .int .i64 0] 39)
  replace lC := (lC.below hb lC.2.2).alloc (.cells #[.int .i64 0, .int .i64 0, .int .i64 0, .int .i64 0, .int .i64 0, .int .i64 0, .int .i64 0] 39)
  replace lX := (lX.below hb lX.2.2).alloc (.cells #[.int .i64 0, .int .i64 0, .int .i64 0, .int .i64 0, .int .i64 0, .int .i64 0, .int .i64 0] 39)
  replace hB : Below w.heap.size w (w5.alloc (.cells #[.int .i64 0, .int .i64 0, .int .i64 0, .int .i64 0, .int .i64 0, .int .i64 0, .int .i64 0] 39)) := Below.goB (Below.goB hB hB.size hb) (Nat.le_trans hB.size hb.size) (by go_grown)
  clear hb
  obtain ⟨a0, a1, a2, a3, a4, a5, a6⟩ := lX.cells
  simp only [D7.get] at a0 a1 a2 a3 a4 a5 a6
  obtain ⟨b0, b1, b2, b3, b4, b5, b6⟩ := lY.cells
  simp only [D7.get] at b0 b1 b2 b3 b4 b5 b6
  obtain ⟨d0, d1, d2, d3, d4, d5, d6⟩ := lC.cells
  simp only [D7.get] at d0 d1 d2 d3 d4 d5 d6
  go_wp2_with fail
  clear a0 a1 a2 a3 a4 a5 a6 b0 b1 b2 b3 b4 b5 b6 d0 d1 d2 d3 d4 d5 d6
  generalize w5.alloc (.cells #[.int .i64 0, .int .i64 0, .int .i64 0, .int .i64 0, .int .i64 0, .int .i64 0, .int .i64 0] 39) = U3 at *
  refine (c3 U3 fX fC).mono ?_
  rintro e w6 ⟨rfl, hb⟩
  have lK := Lies7.new w6 G
  replace lP := (lP.below hb lP.2.2).alloc (.cells #[.int .i64 G.a0, .int .i64 G.a1, .int .i64 G.a2, .int .i64 G.a3, .int .i64 G.a4, .int .i64 G.a5, .int .i64 G.a6] 39)
  replace lC := (lC.below hb lC.2.2).alloc (.cells #[.int .i64 G.a0, .int .i64 G.a1, .int .i64 G.a2, .int .i64 G.a3, .int .i64 G.a4, .int .i64 G.a5, .int .i64 G.a6] 39)
  replace lX := (lX.below hb lX.2.2).alloc (.cells #[.int .i64 G.a0, .int .i64 G.a1, .int .i64 G.a2, .int .i64 G.a3, .int .i64 G.a4, .int .i64 G.a5, .int .i64 G.a6] 39)
  replace lY := (lY.below hb lY.2.2).alloc (.cells #[.int .i64 G.a0, .int .i64 G.a1, .int .i64 G.a2, .int .i64 G.a3, .int .i64 G.a4, .int .i64 G.a5, .int .i64 G.a6] 39)
  replace hB : Below w.heap.size w (w6.alloc (.cells #[.int .i64 G.a0, .int .i64 G.a1, .int .i64 G.a2, .int .i64 G.a3, .int .i64 G.a4, .int .i64 G.a5, .int .i64 G.a6] 39)) := Below.goB (Below.goB hB hB.size hb) (Nat.le_trans hB.size hb.size) (by go_grown)
  clear hb
  obtain ⟨a0, a1, a2, a3, a4, a5, a6⟩ := lK.cells
  simp only [D7.get] at a0 a1 a2 a3 a4 a5 a6
  obtain ⟨b0, b1, b2, b3, b4, b5, b6⟩ := lP.cells
  simp only [D7.get] at b0 b1 b2 b3 b4 b5 b6
  replace lP2 : w2.heap.size < w6.heap.size + 1 := by have := lP.2.2; simpa only [World.size_alloc] using this
  have hw6 : w.heap.size ≤ w6.heap.size + 1 := by have := hB.size; simpa only [World.size_alloc] using this
  go_wp2
  have lS := Lies7.new (w6.alloc (.cells #[.int .i64 G.a0, .int .i64 G.a1, .int .i64 G.a2, .int .i64 G.a3, .int .i64 G.a4, .int .i64 G.a5, .int .i64 G.a6] 39)) dZero
  simp only [dZero, World.size_alloc] at lS
  replace lP := lP.alloc (.cells #[.int .i64 0, .int .i64 0, .int .i64 0, .int .i64 0, .int .i64 0, .int .i64 0, .int .i64 0] 39)
  replace hB : Below w.heap.size w ((w6.alloc (.cells #[.int .i64 G.a0, .int .i64 G.a1, .int .i64 G.a2, .int .i64 G.a3, .int .i64 G.a4, .int .i64 G.a5, .int .i64 G.a6] 39)).alloc (.cells #[.int .i64 0, .int .i64 0, .int .i64 0, .int .i64 0, .int .i64 0, .int .i64 0, .int .i64 0] 39)) := Below.goB hB hB.size (by go_grown)
  have hne : w6.heap.size + 1 ≠ w2.heap.size := by
    have := lP2
    omega
  clear lX lY lK lC c1 c2 c3 nQ nR
  try clear a0 a1 a2 a3 a4 a5 a6 b0 b1 b2 b3 b4 b5 b6
  generalize ((w6.alloc (.cells #[.int .i64 G.a0, .int .i64 G.a1, .int .i64 G.a2, .int .i64 G.a3, .int .i64 G.a4, .int .i64 G.a5, .int .i64 G.a6] 39)).alloc (.cells #[.int .i64 0, .int .i64 0, .int .i64 0, .int .i64 0, .int .i64 0, .int .i64 0, .int .i64 0] 39)) = V0 at *
  rw [hN]
  clear hN o1 o2
  go_loopw [16, 17] (fun f i wr => ∃ (fb : Bool) (k : Nat) (S : D7), f = .bool fb ∧ i = .int .i64 k ∧ Hid (BackI P N fb k S) ∧ Lies7 wr (w6.heap.size + 1) S.get ∧ Lies7 wr w2.heap.size P.get ∧ Below w.heap.size w wr) (fun _ i _ => (10 - intOf i).toNat)
  case atStart => exact ⟨true, 0, dZero, rfl, rfl, ⟨by omega, .inl ⟨rfl, (tim_zero P).symm, by rw [show ((0 : Nat) : Int) = 0 from rfl, tim_zero]; exact zero_right⟩⟩, lS, lP, hB⟩
  case round =>
    clear lS lP hB
    obtain ⟨fb, k, S, rfl, rfl, hI, lS, lP, hB⟩ := hrel
    obtain ⟨hk, hst⟩ := hI.out
    rcases hst with ⟨rfl, hS, hr⟩ | ⟨rfl, hS, hr⟩
    · by_cases hkN : k < N
      · have hkN' : (k : Int) < (N : Int) := by omega
        have cs : addG S P = if Right (timD P (k + 1 : Nat)) then (timD P (k + 1 : Nat), true) else (dZero, false) := by
          rw [hS, add_is _ _ hr rP, sum_tim]
        have c5 := hsum S
        have fS : Fine S := by rw [hS]; exact hr.fine
        rw [cs] at c5
        have HS := Lib.hid hS
        clear cs hI hS t1 t2 hsum
        by_cases h2 : Right (timD P (k + 1 : Nat))
        · rw [if_pos h2] at c5
          have HT := Lib.hid (rfl : timD P (k + 1 : Nat) = timD P (k + 1 : Nat))
          generalize hT : timD P (k + 1 : Nat) = T at c5
          have HTT := Lib.hid hT
          clear hT
          simp only [D7.v] at c5
          obtain ⟨a0, a1, a2, a3, a4, a5, a6⟩ := lS.cells
          simp only [D7.get] at a0 a1 a2 a3 a4 a5 a6
          obtain ⟨b0, b1, b2, b3, b4, b5, b6⟩ := lP.cells
          simp only [D7.get] at b0 b1 b2 b3 b4 b5 b6
          go_wp2_with fail
          refine (c5 _ fS fP).mono ?_
          rintro e v ⟨rfl, hb⟩
          replace lS := lS.below hb lS.2.2
          replace lP := lP.below hb lP.2.2
          replace hB := Below.goB hB hB.size hb
          clear a0 a1 a2 a3 a4 a5 a6 b0 b1 b2 b3 b4 b5 b6
          clear hb
          obtain ⟨a0, a1, a2, a3, a4, a5, a6⟩ := lS.cells
          simp only [D7.get] at a0 a1 a2 a3 a4 a5 a6
          have mf := lS.2.1
          go_wp2
          go_roundw
          case rel => exact ⟨true, k + 1, T, rfl, rfl, ⟨by omega, .inl ⟨rfl, HTT.out.symm, h2⟩⟩, lS.put T, lP.otherPut _ T hne, (by go_grown)⟩
          case measure => simp only [intOf]; omega
        · rw [if_neg h2] at c5
          simp only [D7.v, dZero] at c5
          obtain ⟨a0, a1, a2, a3, a4, a5, a6⟩ := lS.cells
          simp only [D7.get] at a0 a1 a2 a3 a4 a5 a6
          obtain ⟨b0, b1, b2, b3, b4, b5, b6⟩ := lP.cells
          simp only [D7.get] at b0 b1 b2 b3 b4 b5 b6
          go_wp2_with fail
          refine (c5 _ fS fP).mono ?_
          rintro e v ⟨rfl, hb⟩
          replace lS := lS.below hb lS.2.2
          replace lP := lP.below hb lP.2.2
          replace hB := Below.goB hB hB.size hb
          clear a0 a1 a2 a3 a4 a5 a6 b0 b1 b2 b3 b4 b5 b6
          clear hb
          obtain ⟨a0, a1, a2, a3, a4, a5, a6⟩ := lS.cells
          simp only [D7.get] at a0 a1 a2 a3 a4 a5 a6
          have mf := lS.2.1
          go_wp2
          go_roundw
          case rel => exact ⟨false, k + 1, dZero, rfl, rfl, ⟨by omega, .inr ⟨rfl, rfl, fun h => h2 (tim_mono P (k + 1) N (by omega) h)⟩⟩, lS.put dZero, lP.otherPut _ dZero hne, (by go_grown)⟩
          case measure => simp only [intOf]; omega
      · have hkN' : ¬ (k : Int) < (N : Int) := by omega
        obtain rfl : k = N := by omega
        rw [if_pos hr] at t1
        rw [if_pos ((tim_neg P k).2 hr)] at t2
        have c6 := add_any (timD P k) (timD P (-k))
        rw [add_is _ _ hr ((tim_neg P k).2 hr), sum_neg, if_pos zero_right] at c6
        have fZ := hr.fine
        have fM := ((tim_neg P k).2 hr).fine
        rw [← hS] at t1 c6 fZ
        have qs := eqB_same S
        clear hS hI hr hsum
        generalize timD P (-k) = M at *
        simp only [D7.v] at t1 t2 c6
        simp only [dZero] at c6
        obtain ⟨a0, a1, a2, a3, a4, a5, a6⟩ := lP.cells
        simp only [D7.get] at a0 a1 a2 a3 a4 a5 a6
        go_wp2_with fail
        refine (t1 _ fP (by omega) (by omega)).mono ?_
        rintro e v1 ⟨rfl, hb⟩
        have lZ := Lies7.new v1 S
        replace lP := (lP.below hb lP.2.2).alloc (.cells #[.int .i64 S.a0, .int .i64 S.a1, .int .i64 S.a2, .int .i64 S.a3, .int .i64 S.a4, .int .i64 S.a5, .int .i64 S.a6] 39)
        replace lS := (lS.below hb lS.2.2).alloc (.cells #[.int .i64 S.a0, .int .i64 S.a1, .int .i64 S.a2, .int .i64 S.a3, .int .i64 S.a4, .int .i64 S.a5, .int .i64 S.a6] 39)
        replace hB : Below w.heap.size w (v1.alloc (.cells #[.int .i64 S.a0, .int .i64 S.a1, .int .i64 S.a2, .int .i64 S.a3, .int .i64 S.a4, .int .i64 S.a5, .int .i64 S.a6] 39)) := Below.goB (Below.goB hB hB.size hb) (Nat.le_trans hB.size hb.size) (by go_grown)
        clear hb a0 a1 a2 a3 a4 a5 a6
        obtain ⟨a0, a1, a2, a3, a4, a5, a6⟩ := lP.cells
        simp only [D7.get] at a0 a1 a2 a3 a4 a5 a6
        go_wp2_with fail
        clear a0 a1 a2 a3 a4 a5 a6
        generalize v1.alloc (.cells #[.int .i64 S.a0, .int .i64 S.a1, .int .i64 S.a2, .int .i64 S.a3, .int .i64 S.a4, .int .i64 S.a5, .int .i64 S.a6] 39) = V1 at *
        refine (t2 _ fP (by omega) (by omega)).mono ?_
        rintro e v2 ⟨rfl, hb⟩
        have lM := Lies7.new v2 M
        replace lZ := (lZ.below hb lZ.2.2).alloc (.cells #[.int .i64 M.a0, .int .i64 M.a1, .int .i64 M.a2, .int .i64 M.a3, .int .i64 M.a4, .int .i64 M.a5, .int .i64 M.a6] 39)
        replace lS := (lS.below hb lS.2.2).alloc (.cells #[.int .i64 M.a0, .int .i64 M.a1, .int .i64 M.a2, .int .i64 M.a3, .int .i64 M.a4, .int .i64 M.a5, .int .i64 M.a6] 39)
        replace hB : Below w.heap.size w (v2.alloc (.cells #[.int .i64 M.a0, .int .i64 M.a1, .int .i64 M.a2, .int .i64 M.a3, .int .i64 M.a4, .int .i64 M.a5, .int .i64 M.a6] 39)) := Below.goB (Below.goB hB hB.size hb) (Nat.le_trans hB.size hb.size) (by go_grown)
        clear hb
        obtain ⟨a0, a1, a2, a3, a4, a5, a6⟩ := lZ.cells
        simp only [D7.get] at a0 a1 a2 a3 a4 a5 a6
        obtain ⟨b0, b1, b2, b3, b4, b5, b6⟩ := lM.cells
        simp only [D7.get] at b0 b1 b2 b3 b4 b5 b6
        go_wp2_with fail
        clear a0 a1 a2 a3 a4 a5 a6 b0 b1 b2 b3 b4 b5 b6
        generalize v2.alloc (.cells #[.int .i64 M.a0, .int .i64 M.a1, .int .i64 M.a2, .int .i64 M.a3, .int .i64 M.a4, .int .i64 M.a5, .int .i64 M.a6] 39) = V2 at *
        refine (c6 _ fZ fM).mono ?_
        rintro e v3 ⟨rfl, hb⟩
        have lO := Lies7.new v3 dZero
        simp only [dZero] at lO
        replace lZ := (lZ.below hb lZ.2.2).alloc (.cells #[.int .i64 0, .int .i64 0, .int .i64 0, .int .i64 0, .int .i64 0, .int .i64 0, .int .i64 0] 39)
        replace lS := (lS.below hb lS.2.2).alloc (.cells #[.int .i64 0, .int .i64 0, .int .i64 0, .int .i64 0, .int .i64 0, .int .i64 0, .int .i64 0] 39)
        replace hB : Below w.heap.size w (v3.alloc (.cells #[.int .i64 0, .int .i64 0, .int .i64 0, .int .i64 0, .int .i64 0, .int .i64 0, .int .i64 0] 39)) := Below.goB (Below.goB hB hB.size hb) (Nat.le_trans hB.size hb.size) (by go_grown)
        clear hb
        obtain ⟨a0, a1, a2, a3, a4, a5, a6⟩ := lZ.cells
        simp only [D7.get] at a0 a1 a2 a3 a4 a5 a6
        obtain ⟨b0, b1, b2, b3, b4, b5, b6⟩ := lS.cells
        simp only [D7.get] at b0 b1 b2 b3 b4 b5 b6
        obtain ⟨d0, d1, d2, d3, d4, d5, d6⟩ := lO.cells
        simp only [D7.get] at d0 d1 d2 d3 d4 d5 d6
        have qz := eqB_same dZero
        simp only [dZero] at qz
        go_wp2
        go_ret
        exact ⟨rfl, hB⟩
    · rw [if_neg hr] at t1
      rw [if_neg (fun h => hr ((tim_neg P N).1 h))] at t2
      have c6 := add_any dZero dZero
      rw [add_zero] at c6
      have fZ := zero_right.fine
      have fM := zero_right.fine
      clear hI hr hsum
      simp only [D7.v, dZero] at t1 t2 c6
      simp only [dZero] at fZ fM
      rcases Classical.em ((k : Int) < (N : Int)) with hkN' | hkN'
      all_goals
        obtain ⟨a0, a1, a2, a3, a4, a5, a6⟩ := lP.cells
        simp only [D7.get] at a0 a1 a2 a3 a4 a5 a6
        go_wp2_with fail
        refine (t1 _ fP (by omega) (by omega)).mono ?_
        rintro e v1 ⟨rfl, hb⟩
        have lZ := Lies7.new v1 dZero
        simp only [dZero] at lZ
        replace lP := (lP.below hb lP.2.2).alloc (.cells #[.int .i64 0, .int .i64 0, .int .i64 0, .int .i64 0, .int .i64 0, .int .i64 0, .int .i64 0] 39)
        replace lS := (lS.below hb lS.2.2).alloc (.cells #[.int .i64 0, .int .i64 0, .int .i64 0, .int .i64 0, .int .i64 0, .int .i64 0, .int .i64 0] 39)
        replace hB : Below w.heap.size w (v1.alloc (.cells #[.int .i64 0, .int .i64 0, .int .i64 0, .int .i64 0, .int .i64 0, .int .i64 0, .int .i64 0] 39)) := Below.goB (Below.goB hB hB.size hb) (Nat.le_trans hB.size hb.size) (by go_grown)
        clear hb a0 a1 a2 a3 a4 a5 a6
        obtain ⟨a0, a1, a2, a3, a4, a5, a6⟩ := lP.cells
        simp only [D7.get] at a0 a1 a2 a3 a4 a5 a6
        go_wp2_with fail
        clear a0 a1 a2 a3 a4 a5 a6
        generalize v1.alloc (.cells #[.int .i64 0, .int .i64 0, .int .i64 0, .int .i64 0, .int .i64 0, .int .i64 0, .int .i64 0] 39) = V1 at *
        refine (t2 _ fP (by omega) (by omega)).mono ?_
        rintro e v2 ⟨rfl, hb⟩
        have lM := Lies7.new v2 dZero
        simp only [dZero] at lM
        replace lZ := (lZ.below hb lZ.2.2).alloc (.cells #[.int .i64 0, .int .i64 0, .int .i64 0, .int .i64 0, .int .i64 0, .int .i64 0, .int .i64 0] 39)
        replace lS := (lS.below hb lS.2.2).alloc (.cells #[.int .i64 0, .int .i64 0, .int .i64 0, .int .i64 0, .int .i64 0, .int .i64 0, .int .i64 0] 39)
        replace hB : Below w.heap.size w (v2.alloc (.cells #[.int .i64 0, .int .i64 0, .int .i64 0, .int .i64 0, .int .i64 0, .int .i64 0, .int .i64 0] 39)) := Below.goB (Below.goB hB hB.size hb) (Nat.le_trans hB.size hb.size) (by go_grown)
        clear hb
        obtain ⟨a0, a1, a2, a3, a4, a5, a6⟩ := lZ.cells
        simp only [D7.get] at a0 a1 a2 a3 a4 a5 a6
        obtain ⟨b0, b1, b2, b3, b4, b5, b6⟩ := lM.cells
        simp only [D7.get] at b0 b1 b2 b3 b4 b5 b6
        go_wp2_with fail
        clear a0 a1 a2 a3 a4 a5 a6 b0 b1 b2 b3 b4 b5 b6
        generalize v2.alloc (.cells #[.int .i64 0, .int .i64 0, .int .i64 0, .int .i64 0, .int .i64 0, .int .i64 0, .int .i64 0] 39) = V2 at *
        refine (c6 _ fZ fM).mono ?_
        rintro e v3 ⟨rfl, hb⟩
        have lO := Lies7.new v3 dZero
        simp only [dZero] at lO
        replace lZ := (lZ.below hb lZ.2.2).alloc (.cells #[.int .i64 0, .int .i64 0, .int .i64 0, .int .i64 0, .int .i64 0, .int .i64 0, .int .i64 0] 39)
        replace lS := (lS.below hb lS.2.2).alloc (.cells #[.int .i64 0, .int .i64 0, .int .i64 0, .int .i64 0, .int .i64 0, .int .i64 0, .int .i64 0] 39)
        replace hB : Below w.heap.size w (v3.alloc (.cells #[.int .i64 0, .int .i64 0, .int .i64 0, .int .i64 0, .int .i64 0, .int .i64 0, .int .i64 0] 39)) := Below.goB (Below.goB hB hB.size hb) (Nat.le_trans hB.size hb.size) (by go_grown)
        clear hb
        obtain ⟨a0, a1, a2, a3, a4, a5, a6⟩ := lZ.cells
        simp only [D7.get] at a0 a1 a2 a3 a4 a5 a6
        obtain ⟨b0, b1, b2, b3, b4, b5, b6⟩ := lS.cells
        simp only [D7.get] at b0 b1 b2 b3 b4 b5 b6
        obtain ⟨d0, d1, d2, d3, d4, d5, d6⟩ := lO.cells
        simp only [D7.get] at d0 d1 d2 d3 d4 d5 d6
        have qz := eqB_same dZero
        simp only [dZero] at qz
        go_wp2
        go_ret
        exact ⟨rfl, hB⟩

theorem back_law (a0 a1 a2 a3 a4 a5 a6 a7 a8 a9 a10 a11 a12 a13 n : Int) (w : World) (hE : Env w) (b0 : -9223372036854775808 ≤ a0 ∧ a0 ≤ 9223372036854775807) (b1 : -9223372036854775808 ≤ a1 ∧ a1 ≤ 9223372036854775807) (b2 : -9223372036854775808 ≤ a2 ∧ a2 ≤ 9223372036854775807) (b3 : -9223372036854775808 ≤ a3 ∧ a3 ≤ 9223372036854775807) (b4 : -9223372036854775808 ≤ a4 ∧ a4 ≤ 9223372036854775807) (b5 : -9223372036854775808 ≤ a5 ∧ a5 ≤ 9223372036854775807) (b6 : -9223372036854775808 ≤ a6 ∧ a6 ≤ 9223372036854775807) (b7 : -9223372036854775808 ≤ a7 ∧ a7 ≤ 9223372036854775807) (b8 : -9223372036854775808 ≤ a8 ∧ a8 ≤ 9223372036854775807) (b9 : -9223372036854775808 ≤ a9 ∧ a9 ≤ 9223372036854775807) (b10 : -9223372036854775808 ≤ a10 ∧ a10 ≤ 9223372036854775807) (b11 : -9223372036854775808 ≤ a11 ∧ a11 ≤ 9223372036854775807) (b12 : -9223372036854775808 ≤ a12 ∧ a12 ≤ 9223372036854775807) (b13 : -9223372036854775808 ≤ a13 ∧ a13 ≤ 9223372036854775807) (bn : -9223372036854775808 ≤ n ∧ n ≤ 9223372036854775807) :
    Calls Tryd.prog 6 #[.agg #[.int .i64 a0, .int .i64 a1, .int .i64 a2, .int .i64 a3, .int .i64 a4, .int .i64 a5, .int .i64 a6, .int .i64 a7, .int .i64 a8, .int .i64 a9, .int .i64 a10, .int .i64 a11, .int .i64 a12, .int .i64 a13], .int .i64 n] w fun e w' => e = .returned (.bool true) ∧ Below w.heap.size w w' := by
  have f1 : Fine ⟨a0, a1, a2, a3, a4, a5, a6⟩ := seven b0 b1 b2 b3 b4 b5 b6
  have f2 : Fine ⟨a7, a8, a9, a10, a11, a12, a13⟩ := seven b7 b8 b9 b10 b11 b12 b13
  by_cases h : Right (sumD (nearG ⟨a0, a1, a2, a3, a4, a5, a6⟩ 99) (nearG ⟨a7, a8, a9, a10, a11, a12, a13⟩ 99))
  · exact back_yes ⟨a0, a1, a2, a3, a4, a5, a6⟩ ⟨a7, a8, a9, a10, a11, a12, a13⟩ n w hE f1 f2 bn h
  · exact back_no ⟨a0, a1, a2, a3, a4, a5, a6⟩ ⟨a7, a8, a9, a10, a11, a12, a13⟩ n w hE f1 f2 bn h

end Go.Proofs.YtjklbnakgkffnaaDoor.Dims

/-
  The walk of the law DimsEnds: it returns true, for every two arguments of its kind; old memory stays.
-/
import Derived.Test.YtjklbnakgkffnaaDoorDA
namespace Go.Proofs.YtjklbnakgkffnaaDoor.Dims
open Go.RowKit Go.Shelf
set_option linter.unusedVariables false
set_option linter.unusedSimpArgs false

/-- One power, at place k. -/
def oneD (k : Nat) (n : Int) : D7 := dOf (fun j => if j = k then n else 0)
theorem one_right (k : Nat) (hk : k < 7) (n : Int) : Right (oneD k n) ↔ -99 ≤ n ∧ n ≤ 99 := by
  constructor
  · intro h
    have := h k hk
    unfold oneD at this
    rw [get_of _ k hk] at this
    simpa using this
  · intro h i hi
    unfold oneD
    rw [get_of _ i hi]
    by_cases e : i = k
    · simp [e, h]
    · simp [e]
theorem one_fine (k : Nat) (n : Int) (h0 : -9223372036854775808 ≤ n) (h1 : n ≤ 9223372036854775807) : Fine (oneD k n) := by
  intro i hi
  unfold oneD
  rw [get_of _ i hi]
  by_cases e : i = k
  · simp [e, h0, h1]
  · simp [e]
theorem one_put (k : Nat) (n m : Int) (put : Int → Int → Int) (h : put 0 0 = 0) : dOf (fun i => put ((oneD k n).get i) ((oneD k m).get i)) = oneD k (put n m) := by
  refine of_congr fun i hi => ?_
  unfold oneD
  rw [get_of _ i hi, get_of _ i hi]
  by_cases e : i = k
  · simp [e]
  · simp [e, h]
theorem reckon_two (a b : D7) (put : Int → Int → Int) : (reckonG a b put).2 = true ↔ Right a ∧ Right b ∧ Right (dOf (fun i => put (a.get i) (b.get i))) := by
  unfold reckonG
  split <;> simp_all
theorem bool_of {b : Bool} {p : Prop} (h : b = true ↔ p) (hp : p) : b = true := h.2 hp
theorem bool_no {b : Bool} {p : Prop} (h : b = true ↔ p) (hp : ¬ p) : b = false := by
  cases b with
  | false => rfl
  | true => exact absurd (h.1 rfl) hp
theorem one_add (k : Nat) (hk : k < 7) (n : Int) : (addG (oneD k n) (oneD k 1)).2 = true ↔ -99 ≤ n ∧ n < 99 := by
  unfold addG
  rw [reckon_two, one_put _ _ _ _ (by decide), one_right k hk, one_right k hk, one_right k hk]
  omega
theorem one_sub (k : Nat) (hk : k < 7) (n : Int) : (subG (oneD k n) (oneD k 1)).2 = true ↔ -99 < n ∧ n ≤ 99 := by
  unfold subG
  rw [reckon_two, one_put _ _ _ _ (by decide), one_right k hk, one_right k hk, one_right k hk]
  omega
theorem one_times (k : Nat) (hk : k < 7) (n : Int) : (timesG (oneD k 1) n).2 = true ↔ -99 ≤ n ∧ n ≤ 99 := by
  unfold timesG
  rw [reckon_two, one_put k 1 1 (fun x _ => x * within n 100) (by simp), one_right k hk, one_right k hk]
  simp only [Int.one_mul]
  unfold within
  omega

theorem set_one (n : Int) : ∀ k, k < 7 → ([.int .i64 0, .int .i64 0, .int .i64 0, .int .i64 0, .int .i64 0, .int .i64 0, .int .i64 0] : List Value).set k (.int .i64 n) = [.int .i64 (oneD k n).a0, .int .i64 (oneD k n).a1, .int .i64 (oneD k n).a2, .int .i64 (oneD k n).a3, .int .i64 (oneD k n).a4, .int .i64 (oneD k n).a5, .int .i64 (oneD k n).a6] :=
  seven rfl rfl rfl rfl rfl rfl rfl

theorem Lies7.one {W : World} {b k : Nat} {n : Int} (h : Lies7 W b (fun j => if j = k then n else dZero.get j)) : Lies7 W b (oneD k n).get :=
  h.congr fun j hj => by unfold oneD; rw [get_of _ j hj]; simp only [zero_get]

set_option maxRecDepth 100000 in
set_option maxHeartbeats 2000000 in
theorem ends_low (base n : Int) (w : World) (hE : Env w) (b0 : -9223372036854775808 ≤ base) (b1 : base ≤ 9223372036854775807) (n0 : -9223372036854775808 ≤ n) (n1 : n ≤ 9223372036854775807) (hn : n < -99) :
    Calls Tryd.prog 9 #[.int .i64 base, .int .i64 n] w fun e w' => e = .returned (.bool true) ∧ Below w.heap.size w w' := by
  have t1 : -7 < base.tmod 7 := Int.lt_tmod_of_pos base (by omega)
  have t2 : base.tmod 7 < 7 := Int.tmod_lt_of_pos base (by omega)
  obtain ⟨k, hk, hkl⟩ : ∃ k : Nat, (base.tmod 7 + 7) % 7 = (k : Int) ∧ k < 7 := ⟨((base.tmod 7 + 7) % 7).toNat, by omega, by omega⟩
  have k7 : (k : Int) < 7 := by omega
  have HR : Hid (rightB (oneD k n) = false) := rightB_no (fun h => by have := (one_right k hkl n).1 h; omega)
  have HA : Hid ((addG (oneD k n) (oneD k 1)).2 = false) := bool_no (one_add k hkl n) (by omega)
  have HS : Hid ((subG (oneD k n) (oneD k 1)).2 = false) := bool_no (one_sub k hkl n) (by omega)
  have HT : Hid ((timesG (oneD k 1) n).2 = false) := bool_no (one_times k hkl n) (by omega)
  have HX : Hid (textD (oneD k n) = []) := text_wrong (fun h => by have := (one_right k hkl n).1 h; omega)
  have f1 := one_fine k n n0 n1
  have f2 := one_fine k 1 (by omega) (by omega)
  have e1 := set_one n k hkl
  have e2 := set_one 1 k hkl
  generalize oneD k n = P at *
  generalize oneD k 1 = C at *
  have hAd := add_any P C
  have hSu := sub_any P C
  have hTi := times_any C n
  have hRi := right_any P
  have hTx := text_any P
  have hzz : ∀ l : List UInt8, (bs l).toList = l := bs_toList
  rw [HA.out] at hAd
  rw [HS.out] at hSu
  rw [HT.out] at hTi
  rw [HR.out] at hRi
  rw [HX.out] at hTx
  generalize (addG P C).1 = X1 at *
  generalize (subG P C).1 = X2 at *
  generalize (timesG C n).1 = X3 at *
  clear HA HS HT HR HX
  simp only [D7.v] at hAd hSu hTi hRi hTx
  go_enter Tryd.func9, Tryd.ntmps9
  go_wp2_with fail
  refine (awake_yes _ hE).mono ?_
  rintro e w1 ⟨rfl, hB⟩
  have lP := (Lies7.new w1 P).alloc (.cells #[.int .i64 C.a0, .int .i64 C.a1, .int .i64 C.a2, .int .i64 C.a3, .int .i64 C.a4, .int .i64 C.a5, .int .i64 C.a6] 39)
  have lC := Lies7.new (w1.alloc (.cells #[.int .i64 P.a0, .int .i64 P.a1, .int .i64 P.a2, .int .i64 P.a3, .int .i64 P.a4, .int .i64 P.a5, .int .i64 P.a6] 39)) C
  simp only [World.size_alloc] at lC
  replace hB : Below w.heap.size w ((w1.alloc (.cells #[.int .i64 P.a0, .int .i64 P.a1, .int .i64 P.a2, .int .i64 P.a3, .int .i64 P.a4, .int .i64 P.a5, .int .i64 P.a6] 39)).alloc (.cells #[.int .i64 C.a0, .int .i64 C.a1, .int .i64 C.a2, .int .i64 C.a3, .int .i64 C.a4, .int .i64 C.a5, .int .i64 C.a6] 39)) := Below.goB hB hB.size (by go_grown)
  go_wp2_with fail
  clear e1 e2
  generalize (w1.alloc (.cells #[.int .i64 P.a0, .int .i64 P.a1, .int .i64 P.a2, .int .i64 P.a3, .int .i64 P.a4, .int .i64 P.a5, .int .i64 P.a6] 39)).alloc (.cells #[.int .i64 C.a0, .int .i64 C.a1, .int .i64 C.a2, .int .i64 C.a3, .int .i64 C.a4, .int .i64 C.a5, .int .i64 C.a6] 39) = U at *
  refine (hAd U f1 f2).mono ?_
  rintro e w2 ⟨rfl, hb⟩
  replace lP := (lP.below hb lP.2.2).alloc (.cells #[.int .i64 X1.a0, .int .i64 X1.a1, .int .i64 X1.a2, .int .i64 X1.a3, .int .i64 X1.a4, .int .i64 X1.a5, .int .i64 X1.a6] 39)
  replace lC := (lC.below hb lC.2.2).alloc (.cells #[.int .i64 X1.a0, .int .i64 X1.a1, .int .i64 X1.a2, .int .i64 X1.a3, .int .i64 X1.a4, .int .i64 X1.a5, .int .i64 X1.a6] 39)
  replace hB : Below w.heap.size w (w2.alloc (.cells #[.int .i64 X1.a0, .int .i64 X1.a1, .int .i64 X1.a2, .int .i64 X1.a3, .int .i64 X1.a4, .int .i64 X1.a5, .int .i64 X1.a6] 39)) := Below.goB (Below.goB hB hB.size hb) (Nat.le_trans hB.size hb.size) (by go_grown)
  clear hb
  obtain ⟨c0, c1, c2, c3, c4, c5, c6⟩ := lP.cells
  simp only [D7.get] at c0 c1 c2 c3 c4 c5 c6
  obtain ⟨d0, d1, d2, d3, d4, d5, d6⟩ := lC.cells
  simp only [D7.get] at d0 d1 d2 d3 d4 d5 d6
  go_wp2_with fail
  clear c0 c1 c2 c3 c4 c5 c6 d0 d1 d2 d3 d4 d5 d6
  generalize w2.alloc (.cells #[.int .i64 X1.a0, .int .i64 X1.a1, .int .i64 X1.a2, .int .i64 X1.a3, .int .i64 X1.a4, .int .i64 X1.a5, .int .i64 X1.a6] 39) = V at *
  refine (hSu V f1 f2).mono ?_
  rintro e w3 ⟨rfl, hb⟩
  replace lP := (lP.below hb lP.2.2).alloc (.cells #[.int .i64 X2.a0, .int .i64 X2.a1, .int .i64 X2.a2, .int .i64 X2.a3, .int .i64 X2.a4, .int .i64 X2.a5, .int .i64 X2.a6] 39)
  replace lC := (lC.below hb lC.2.2).alloc (.cells #[.int .i64 X2.a0, .int .i64 X2.a1, .int .i64 X2.a2, .int .i64 X2.a3, .int .i64 X2.a4, .int .i64 X2.a5, .int .i64 X2.a6] 39)
  replace hB : Below w.heap.size w (w3.alloc (.cells #[.int .i64 X2.a0, .int .i64 X2.a1, .int .i64 X2.a2, .int .i64 X2.a3, .int .i64 X2.a4, .int .i64 X2.a5, .int .i64 X2.a6] 39)) := Below.goB (Below.goB hB hB.size hb) (Nat.le_trans hB.size hb.size) (by go_grown)
  clear hb
  obtain ⟨d0, d1, d2, d3, d4, d5, d6⟩ := lC.cells
  simp only [D7.get] at d0 d1 d2 d3 d4 d5 d6
  go_wp2_with fail
  clear d0 d1 d2 d3 d4 d5 d6
  generalize w3.alloc (.cells #[.int .i64 X2.a0, .int .i64 X2.a1, .int .i64 X2.a2, .int .i64 X2.a3, .int .i64 X2.a4, .int .i64 X2.a5, .int .i64 X2.a6] 39) = Y at *
  refine (hTi Y f2 n0 n1).mono ?_
  rintro e w4 ⟨rfl, hb⟩
  replace lP := (lP.below hb lP.2.2).alloc (.cells #[.int .i64 X3.a0, .int .i64 X3.a1, .int .i64 X3.a2, .int .i64 X3.a3, .int .i64 X3.a4, .int .i64 X3.a5, .int .i64 X3.a6] 39)
  replace lC := (lC.below hb lC.2.2).alloc (.cells #[.int .i64 X3.a0, .int .i64 X3.a1, .int .i64 X3.a2, .int .i64 X3.a3, .int .i64 X3.a4, .int .i64 X3.a5, .int .i64 X3.a6] 39)
  replace hB : Below w.heap.size w (w4.alloc (.cells #[.int .i64 X3.a0, .int .i64 X3.a1, .int .i64 X3.a2, .int .i64 X3.a3, .int .i64 X3.a4, .int .i64 X3.a5, .int .i64 X3.a6] 39)) := Below.goB (Below.goB hB hB.size hb) (Nat.le_trans hB.size hb.size) (by go_grown)
  clear hb
  obtain ⟨c0, c1, c2, c3, c4, c5, c6⟩ := lP.cells
  simp only [D7.get] at c0 c1 c2 c3 c4 c5 c6
  go_wp2_with fail
  clear c0 c1 c2 c3 c4 c5 c6
  generalize w4.alloc (.cells #[.int .i64 X3.a0, .int .i64 X3.a1, .int .i64 X3.a2, .int .i64 X3.a3, .int .i64 X3.a4, .int .i64 X3.a5, .int .i64 X3.a6] 39) = R at *
  refine (hRi R f1).mono ?_
  rintro e w5 ⟨rfl, hb⟩
  replace lP := lP.below hb lP.2.2
  replace hB := Below.goB hB hB.size hb
  clear hb
  obtain ⟨c0, c1, c2, c3, c4, c5, c6⟩ := lP.cells
  simp only [D7.get] at c0 c1 c2 c3 c4 c5 c6
  have hE5 := hE.below hB
  go_wp2_with fail
  first
    | (go_at_call 26
       refine (hTx _ hE5 f1).mono ?_
       rintro e w6 ⟨rfl, hb⟩
       replace hB := Below.goB hB hB.size hb
       clear hb
       go_wp2
       go_ret
       exact ⟨rfl, hB⟩)
    | (go_ret
       exact ⟨rfl, hB⟩)
    | exact bodyPost_ret (v := .bool true) (by simp [results, Tryd.results9, go_sem]; omega) rfl ⟨rfl, hB⟩
set_option maxRecDepth 100000 in
set_option maxHeartbeats 2000000 in
theorem ends_least (base n : Int) (w : World) (hE : Env w) (b0 : -9223372036854775808 ≤ base) (b1 : base ≤ 9223372036854775807) (n0 : -9223372036854775808 ≤ n) (n1 : n ≤ 9223372036854775807) (hn : n ≤ -99) (hn2 : -99 ≤ n) :
    Calls Tryd.prog 9 #[.int .i64 base, .int .i64 n] w fun e w' => e = .returned (.bool true) ∧ Below w.heap.size w w' := by
  have t1 : -7 < base.tmod 7 := Int.lt_tmod_of_pos base (by omega)
  have t2 : base.tmod 7 < 7 := Int.tmod_lt_of_pos base (by omega)
  obtain ⟨k, hk, hkl⟩ : ∃ k : Nat, (base.tmod 7 + 7) % 7 = (k : Int) ∧ k < 7 := ⟨((base.tmod 7 + 7) % 7).toNat, by omega, by omega⟩
  have k7 : (k : Int) < 7 := by omega
  have HR : Hid (rightB (oneD k n) = true) := rightB_of ((one_right k hkl n).2 (by omega))
  have HA : Hid ((addG (oneD k n) (oneD k 1)).2 = true) := bool_of (one_add k hkl n) (by omega)
  have HS : Hid ((subG (oneD k n) (oneD k 1)).2 = false) := bool_no (one_sub k hkl n) (by omega)
  have HT : Hid ((timesG (oneD k 1) n).2 = true) := bool_of (one_times k hkl n) (by omega)
  have HX : Hid (textD (oneD k n) = textD (oneD k n)) := rfl
  have f1 := one_fine k n n0 n1
  have f2 := one_fine k 1 (by omega) (by omega)
  have e1 := set_one n k hkl
  have e2 := set_one 1 k hkl
  generalize oneD k n = P at *
  generalize oneD k 1 = C at *
  have hAd := add_any P C
  have hSu := sub_any P C
  have hTi := times_any C n
  have hRi := right_any P
  have hTx := text_any P
  have hzz : ∀ l : List UInt8, (bs l).toList = l := bs_toList
  rw [HA.out] at hAd
  rw [HS.out] at hSu
  rw [HT.out] at hTi
  rw [HR.out] at hRi
  rw [HX.out] at hTx
  generalize (addG P C).1 = X1 at *
  generalize (subG P C).1 = X2 at *
  generalize (timesG C n).1 = X3 at *
  clear HA HS HT HR HX
  simp only [D7.v] at hAd hSu hTi hRi hTx
  go_enter Tryd.func9, Tryd.ntmps9
  go_wp2_with fail
  refine (awake_yes _ hE).mono ?_
  rintro e w1 ⟨rfl, hB⟩
  have lP := (Lies7.new w1 P).alloc (.cells #[.int .i64 C.a0, .int .i64 C.a1, .int .i64 C.a2, .int .i64 C.a3, .int .i64 C.a4, .int .i64 C.a5, .int .i64 C.a6] 39)
  have lC := Lies7.new (w1.alloc (.cells #[.int .i64 P.a0, .int .i64 P.a1, .int .i64 P.a2, .int .i64 P.a3, .int .i64 P.a4, .int .i64 P.a5, .int .i64 P.a6] 39)) C
  simp only [World.size_alloc] at lC
  replace hB : Below w.heap.size w ((w1.alloc (.cells #[.int .i64 P.a0, .int .i64 P.a1, .int .i64 P.a2, .int .i64 P.a3, .int .i64 P.a4, .int .i64 P.a5, .int .i64 P.a6] 39)).alloc (.cells #[.int .i64 C.a0, .int .i64 C.a1, .int .i64 C.a2, .int .i64 C.a3, .int .i64 C.a4, .int .i64 C.a5, .int .i64 C.a6] 39)) := Below.goB hB hB.size (by go_grown)
  go_wp2_with fail
  clear e1 e2
  generalize (w1.alloc (.cells #[.int .i64 P.a0, .int .i64 P.a1, .int .i64 P.a2, .int .i64 P.a3, .int .i64 P.a4, .int .i64 P.a5, .int .i64 P.a6] 39)).alloc (.cells #[.int .i64 C.a0, .int .i64 C.a1, .int .i64 C.a2, .int .i64 C.a3, .int .i64 C.a4, .int .i64 C.a5, .int .i64 C.a6] 39) = U at *
  refine (hAd U f1 f2).mono ?_
  rintro e w2 ⟨rfl, hb⟩
  replace lP := (lP.below hb lP.2.2).alloc (.cells #[.int .i64 X1.a0, .int .i64 X1.a1, .int .i64 X1.a2, .int .i64 X1.a3, .int .i64 X1.a4, .int .i64 X1.a5, .int .i64 X1.a6] 39)
  replace lC := (lC.below hb lC.2.2).alloc (.cells #[.int .i64 X1.a0, .int .i64 X1.a1, .int .i64 X1.a2, .int .i64 X1.a3, .int .i64 X1.a4, .int .i64 X1.a5, .int .i64 X1.a6] 39)
  replace hB : Below w.heap.size w (w2.alloc (.cells #[.int .i64 X1.a0, .int .i64 X1.a1, .int .i64 X1.a2, .int .i64 X1.a3, .int .i64 X1.a4, .int .i64 X1.a5, .int .i64 X1.a6] 39)) := Below.goB (Below.goB hB hB.size hb) (Nat.le_trans hB.size hb.size) (by go_grown)
  clear hb
  obtain ⟨c0, c1, c2, c3, c4, c5, c6⟩ := lP.cells
  simp only [D7.get] at c0 c1 c2 c3 c4 c5 c6
  obtain ⟨d0, d1, d2, d3, d4, d5, d6⟩ := lC.cells
  simp only [D7.get] at d0 d1 d2 d3 d4 d5 d6
  go_wp2_with fail
  clear c0 c1 c2 c3 c4 c5 c6 d0 d1 d2 d3 d4 d5 d6
  generalize w2.alloc (.cells #[.int .i64 X1.a0, .int .i64 X1.a1, .int .i64 X1.a2, .int .i64 X1.a3, .int .i64 X1.a4, .int .i64 X1.a5, .int .i64 X1.a6] 39) = V at *
  refine (hSu V f1 f2).mono ?_
  rintro e w3 ⟨rfl, hb⟩
  replace lP := (lP.below hb lP.2.2).alloc (.cells #[.int .i64 X2.a0, .int .i64 X2.a1, .int .i64 X2.a2, .int .i64 X2.a3, .int .i64 X2.a4, .int .i64 X2.a5, .int .i64 X2.a6] 39)
  replace lC := (lC.below hb lC.2.2).alloc (.cells #[.int .i64 X2.a0, .int .i64 X2.a1, .int .i64 X2.a2, .int .i64 X2.a3, .int .i64 X2.a4, .int .i64 X2.a5, .int .i64 X2.a6] 39)
  replace hB : Below w.heap.size w (w3.alloc (.cells #[.int .i64 X2.a0, .int .i64 X2.a1, .int .i64 X2.a2, .int .i64 X2.a3, .int .i64 X2.a4, .int .i64 X2.a5, .int .i64 X2.a6] 39)) := Below.goB (Below.goB hB hB.size hb) (Nat.le_trans hB.size hb.size) (by go_grown)
  clear hb
  obtain ⟨d0, d1, d2, d3, d4, d5, d6⟩ := lC.cells
  simp only [D7.get] at d0 d1 d2 d3 d4 d5 d6
  go_wp2_with fail
  clear d0 d1 d2 d3 d4 d5 d6
  generalize w3.alloc (.cells #[.int .i64 X2.a0, .int .i64 X2.a1, .int .i64 X2.a2, .int .i64 X2.a3, .int .i64 X2.a4, .int .i64 X2.a5, .int .i64 X2.a6] 39) = Y at *
  refine (hTi Y f2 n0 n1).mono ?_
  rintro e w4 ⟨rfl, hb⟩
  replace lP := (lP.below hb lP.2.2).alloc (.cells #[.int .i64 X3.a0, .int .i64 X3.a1, .int .i64 X3.a2, .int .i64 X3.a3, .int .i64 X3.a4, .int .i64 X3.a5, .int .i64 X3.a6] 39)
  replace lC := (lC.below hb lC.2.2).alloc (.cells #[.int .i64 X3.a0, .int .i64 X3.a1, .int .i64 X3.a2, .int .i64 X3.a3, .int .i64 X3.a4, .int .i64 X3.a5, .int .i64 X3.a6] 39)
  replace hB : Below w.heap.size w (w4.alloc (.cells #[.int .i64 X3.a0, .int .i64 X3.a1, .int .i64 X3.a2, .int .i64 X3.a3, .int .i64 X3.a4, .int .i64 X3.a5, .int .i64 X3.a6] 39)) := Below.goB (Below.goB hB hB.size hb) (Nat.le_trans hB.size hb.size) (by go_grown)
  clear hb
  obtain ⟨c0, c1, c2, c3, c4, c5, c6⟩ := lP.cells
  simp only [D7.get] at c0 c1 c2 c3 c4 c5 c6
  go_wp2_with fail
  clear c0 c1 c2 c3 c4 c5 c6
  generalize w4.alloc (.cells #[.int .i64 X3.a0, .int .i64 X3.a1, .int .i64 X3.a2, .int .i64 X3.a3, .int .i64 X3.a4, .int .i64 X3.a5, .int .i64 X3.a6] 39) = R at *
  refine (hRi R f1).mono ?_
  rintro e w5 ⟨rfl, hb⟩
  replace lP := lP.below hb lP.2.2
  replace hB := Below.goB hB hB.size hb
  clear hb
  obtain ⟨c0, c1, c2, c3, c4, c5, c6⟩ := lP.cells
  simp only [D7.get] at c0 c1 c2 c3 c4 c5 c6
  have hE5 := hE.below hB
  go_wp2_with fail
  first
    | (go_at_call 26
       refine (hTx _ hE5 f1).mono ?_
       rintro e w6 ⟨rfl, hb⟩
       replace hB := Below.goB hB hB.size hb
       clear hb
       go_wp2
       go_ret
       exact ⟨rfl, hB⟩)
    | (go_ret
       exact ⟨rfl, hB⟩)
    | exact bodyPost_ret (v := .bool true) (by simp [results, Tryd.results9, go_sem]; omega) rfl ⟨rfl, hB⟩
set_option maxRecDepth 100000 in
set_option maxHeartbeats 2000000 in
theorem ends_mid (base n : Int) (w : World) (hE : Env w) (b0 : -9223372036854775808 ≤ base) (b1 : base ≤ 9223372036854775807) (n0 : -9223372036854775808 ≤ n) (n1 : n ≤ 9223372036854775807) (hn : -99 < n) (hn2 : n < 99) :
    Calls Tryd.prog 9 #[.int .i64 base, .int .i64 n] w fun e w' => e = .returned (.bool true) ∧ Below w.heap.size w w' := by
  have t1 : -7 < base.tmod 7 := Int.lt_tmod_of_pos base (by omega)
  have t2 : base.tmod 7 < 7 := Int.tmod_lt_of_pos base (by omega)
  obtain ⟨k, hk, hkl⟩ : ∃ k : Nat, (base.tmod 7 + 7) % 7 = (k : Int) ∧ k < 7 := ⟨((base.tmod 7 + 7) % 7).toNat, by omega, by omega⟩
  have k7 : (k : Int) < 7 := by omega
  have HR : Hid (rightB (oneD k n) = true) := rightB_of ((one_right k hkl n).2 (by omega))
  have HA : Hid ((addG (oneD k n) (oneD k 1)).2 = true) := bool_of (one_add k hkl n) (by omega)
  have HS : Hid ((subG (oneD k n) (oneD k 1)).2 = true) := bool_of (one_sub k hkl n) (by omega)
  have HT : Hid ((timesG (oneD k 1) n).2 = true) := bool_of (one_times k hkl n) (by omega)
  have HX : Hid (textD (oneD k n) = textD (oneD k n)) := rfl
  have f1 := one_fine k n n0 n1
  have f2 := one_fine k 1 (by omega) (by omega)
  have e1 := set_one n k hkl
  have e2 := set_one 1 k hkl
  generalize oneD k n = P at *
  generalize oneD k 1 = C at *
  have hAd := add_any P C
  have hSu := sub_any P C
  have hTi := times_any C n
  have hRi := right_any P
  have hTx := text_any P
  have hzz : ∀ l : List UInt8, (bs l).toList = l := bs_toList
  rw [HA.out] at hAd
  rw [HS.out] at hSu
  rw [HT.out] at hTi
  rw [HR.out] at hRi
  rw [HX.out] at hTx
  generalize (addG P C).1 = X1 at *
  generalize (subG P C).1 = X2 at *
  generalize (timesG C n).1 = X3 at *
  clear HA HS HT HR HX
  simp only [D7.v] at hAd hSu hTi hRi hTx
  go_enter Tryd.func9, Tryd.ntmps9
  go_wp2_with fail
  refine (awake_yes _ hE).mono ?_
  rintro e w1 ⟨rfl, hB⟩
  have lP := (Lies7.new w1 P).alloc (.cells #[.int .i64 C.a0, .int .i64 C.a1, .int .i64 C.a2, .int .i64 C.a3, .int .i64 C.a4, .int .i64 C.a5, .int .i64 C.a6] 39)
  have lC := Lies7.new (w1.alloc (.cells #[.int .i64 P.a0, .int .i64 P.a1, .int .i64 P.a2, .int .i64 P.a3, .int .i64 P.a4, .int .i64 P.a5, .int .i64 P.a6] 39)) C
  simp only [World.size_alloc] at lC
  replace hB : Below w.heap.size w ((w1.alloc (.cells #[.int .i64 P.a0, .int .i64 P.a1, .int .i64 P.a2, .int .i64 P.a3, .int .i64 P.a4, .int .i64 P.a5, .int .i64 P.a6] 39)).alloc (.cells #[.int .i64 C.a0, .int .i64 C.a1, .int .i64 C.a2, .int .i64 C.a3, .int .i64 C.a4, .int .i64 C.a5, .int .i64 C.a6] 39)) := Below.goB hB hB.size (by go_grown)
  go_wp2_with fail
  clear e1 e2
  generalize (w1.alloc (.cells #[.int .i64 P.a0, .int .i64 P.a1, .int .i64 P.a2, .int .i64 P.a3, .int .i64 P.a4, .int .i64 P.a5, .int .i64 P.a6] 39)).alloc (.cells #[.int .i64 C.a0, .int .i64 C.a1, .int .i64 C.a2, .int .i64 C.a3, .int .i64 C.a4, .int .i64 C.a5, .int .i64 C.a6] 39) = U at *
  refine (hAd U f1 f2).mono ?_
  rintro e w2 ⟨rfl, hb⟩
  replace lP := (lP.below hb lP.2.2).alloc (.cells #[.int .i64 X1.a0, .int .i64 X1.a1, .int .i64 X1.a2, .int .i64 X1.a3, .int .i64 X1.a4, .int .i64 X1.a5, .int .i64 X1.a6] 39)
  replace lC := (lC.below hb lC.2.2).alloc (.cells #[.int .i64 X1.a0, .int .i64 X1.a1, .int .i64 X1.a2, .int .i64 X1.a3, .int .i64 X1.a4, .int .i64 X1.a5, .int .i64 X1.a6] 39)
  replace hB : Below w.heap.size w (w2.alloc (.cells #[.int .i64 X1.a0, .int .i64 X1.a1, .int .i64 X1.a2, .int .i64 X1.a3, .int .i64 X1.a4, .int .i64 X1.a5, .int .i64 X1.a6] 39)) := Below.goB (Below.goB hB hB.size hb) (Nat.le_trans hB.size hb.size) (by go_grown)
  clear hb
  obtain ⟨c0, c1, c2, c3, c4, c5, c6⟩ := lP.cells
  simp only [D7.get] at c0 c1 c2 c3 c4 c5 c6
  obtain ⟨d0, d1, d2, d3, d4, d5, d6⟩ := lC.cells
  simp only [D7.get] at d0 d1 d2 d3 d4 d5 d6
  go_wp2_with fail
  clear c0 c1 c2 c3 c4 c5 c6 d0 d1 d2 d3 d4 d5 d6
  generalize w2.alloc (.cells #[.int .i64 X1.a0, .int .i64 X1.a1, .int .i64 X1.a2, .int .i64 X1.a3, .int .i64 X1.a4, .int .i64 X1.a5, .int .i64 X1.a6] 39) = V at *
  refine (hSu V f1 f2).mono ?_
  rintro e w3 ⟨rfl, hb⟩
  replace lP := (lP.below hb lP.2.2).alloc (.cells #[.int .i64 X2.a0, .int .i64 X2.a1, .int .i64 X2.a2, .int .i64 X2.a3, .int .i64 X2.a4, .int .i64 X2.a5, .int .i64 X2.a6] 39)
  replace lC := (lC.below hb lC.2.2).alloc (.cells #[.int .i64 X2.a0, .int .i64 X2.a1, .int .i64 X2.a2, .int .i64 X2.a3, .int .i64 X2.a4, .int .i64 X2.a5, .int .i64 X2.a6] 39)
  replace hB : Below w.heap.size w (w3.alloc (.cells #[.int .i64 X2.a0, .int .i64 X2.a1, .int .i64 X2.a2, .int .i64 X2.a3, .int .i64 X2.a4, .int .i64 X2.a5, .int .i64 X2.a6] 39)) := Below.goB (Below.goB hB hB.size hb) (Nat.le_trans hB.size hb.size) (by go_grown)
  clear hb
  obtain ⟨d0, d1, d2, d3, d4, d5, d6⟩ := lC.cells
  simp only [D7.get] at d0 d1 d2 d3 d4 d5 d6
  go_wp2_with fail
  clear d0 d1 d2 d3 d4 d5 d6
  generalize w3.alloc (.cells #[.int .i64 X2.a0, .int .i64 X2.a1, .int .i64 X2.a2, .int .i64 X2.a3, .int .i64 X2.a4, .int .i64 X2.a5, .int .i64 X2.a6] 39) = Y at *
  refine (hTi Y f2 n0 n1).mono ?_
  rintro e w4 ⟨rfl, hb⟩
  replace lP := (lP.below hb lP.2.2).alloc (.cells #[.int .i64 X3.a0, .int .i64 X3.a1, .int .i64 X3.a2, .int .i64 X3.a3, .int .i64 X3.a4, .int .i64 X3.a5, .int .i64 X3.a6] 39)
  replace lC := (lC.below hb lC.2.2).alloc (.cells #[.int .i64 X3.a0, .int .i64 X3.a1, .int .i64 X3.a2, .int .i64 X3.a3, .int .i64 X3.a4, .int .i64 X3.a5, .int .i64 X3.a6] 39)
  replace hB : Below w.heap.size w (w4.alloc (.cells #[.int .i64 X3.a0, .int .i64 X3.a1, .int .i64 X3.a2, .int .i64 X3.a3, .int .i64 X3.a4, .int .i64 X3.a5, .int .i64 X3.a6] 39)) := Below.goB (Below.goB hB hB.size hb) (Nat.le_trans hB.size hb.size) (by go_grown)
  clear hb
  obtain ⟨c0, c1, c2, c3, c4, c5, c6⟩ := lP.cells
  simp only [D7.get] at c0 c1 c2 c3 c4 c5 c6
  go_wp2_with fail
  clear c0 c1 c2 c3 c4 c5 c6
  generalize w4.alloc (.cells #[.int .i64 X3.a0, .int .i64 X3.a1, .int .i64 X3.a2, .int .i64 X3.a3, .int .i64 X3.a4, .int .i64 X3.a5, .int .i64 X3.a6] 39) = R at *
  refine (hRi R f1).mono ?_
  rintro e w5 ⟨rfl, hb⟩
  replace lP := lP.below hb lP.2.2
  replace hB := Below.goB hB hB.size hb
  clear hb
  obtain ⟨c0, c1, c2, c3, c4, c5, c6⟩ := lP.cells
  simp only [D7.get] at c0 c1 c2 c3 c4 c5 c6
  have hE5 := hE.below hB
  go_wp2_with fail
  first
    | (go_at_call 26
       refine (hTx _ hE5 f1).mono ?_
       rintro e w6 ⟨rfl, hb⟩
       replace hB := Below.goB hB hB.size hb
       clear hb
       go_wp2
       go_ret
       exact ⟨rfl, hB⟩)
    | (go_ret
       exact ⟨rfl, hB⟩)
    | exact bodyPost_ret (v := .bool true) (by simp [results, Tryd.results9, go_sem]; omega) rfl ⟨rfl, hB⟩
set_option maxRecDepth 100000 in
set_option maxHeartbeats 2000000 in
theorem ends_most (base n : Int) (w : World) (hE : Env w) (b0 : -9223372036854775808 ≤ base) (b1 : base ≤ 9223372036854775807) (n0 : -9223372036854775808 ≤ n) (n1 : n ≤ 9223372036854775807) (hn : n ≤ 99) (hn2 : 99 ≤ n) :
    Calls Tryd.prog 9 #[.int .i64 base, .int .i64 n] w fun e w' => e = .returned (.bool true) ∧ Below w.heap.size w w' := by
  have t1 : -7 < base.tmod 7 := Int.lt_tmod_of_pos base (by omega)
  have t2 : base.tmod 7 < 7 := Int.tmod_lt_of_pos base (by omega)
  obtain ⟨k, hk, hkl⟩ : ∃ k : Nat, (base.tmod 7 + 7) % 7 = (k : Int) ∧ k < 7 := ⟨((base.tmod 7 + 7) % 7).toNat, by omega, by omega⟩
  have k7 : (k : Int) < 7 := by omega
  have HR : Hid (rightB (oneD k n) = true) := rightB_of ((one_right k hkl n).2 (by omega))
  have HA : Hid ((addG (oneD k n) (oneD k 1)).2 = false) := bool_no (one_add k hkl n) (by omega)
  have HS : Hid ((subG (oneD k n) (oneD k 1)).2 = true) := bool_of (one_sub k hkl n) (by omega)
  have HT : Hid ((timesG (oneD k 1) n).2 = true) := bool_of (one_times k hkl n) (by omega)
  have HX : Hid (textD (oneD k n) = textD (oneD k n)) := rfl
  have f1 := one_fine k n n0 n1
  have f2 := one_fine k 1 (by omega) (by omega)
  have e1 := set_one n k hkl
  have e2 := set_one 1 k hkl
  generalize oneD k n = P at *
  generalize oneD k 1 = C at *
  have hAd := add_any P C
  have hSu := sub_any P C
  have hTi := times_any C n
  have hRi := right_any P
  have hTx := text_any P
  have hzz : ∀ l : List UInt8, (bs l).toList = l := bs_toList
  rw [HA.out] at hAd
  rw [HS.out] at hSu
  rw [HT.out] at hTi
  rw [HR.out] at hRi
  rw [HX.out] at hTx
  generalize (addG P C).1 = X1 at *
  generalize (subG P C).1 = X2 at *
  generalize (timesG C n).1 = X3 at *
  clear HA HS HT HR HX
  simp only [D7.v] at hAd hSu hTi hRi hTx
  go_enter Tryd.func9, Tryd.ntmps9
  go_wp2_with fail
  refine (awake_yes _ hE).mono ?_
  rintro e w1 ⟨rfl, hB⟩
  have lP := (Lies7.new w1 P).alloc (.cells #[.int .i64 C.a0, .int .i64 C.a1, .int .i64 C.a2, .int .i64 C.a3, .int .i64 C.a4, .int .i64 C.a5, .int .i64 C.a6] 39)
  have lC := Lies7.new (w1.alloc (.cells #[.int .i64 P.a0, .int .i64 P.a1, .int .i64 P.a2, .int .i64 P.a3, .int .i64 P.a4, .int .i64 P.a5, .int .i64 P.a6] 39)) C
  simp only [World.size_alloc] at lC
  replace hB : Below w.heap.size w ((w1.alloc (.cells #[.int .i64 P.a0, .int .i64 P.a1, .int .i64 P.a2, .int .i64 P.a3, .int .i64 P.a4, .int .i64 P.a5, .int .i64 P.a6] 39)).alloc (.cells #[.int .i64 C.a0, .int .i64 C.a1, .int .i64 C.a2, .int .i64 C.a3, .int .i64 C.a4, .int .i64 C.a5, .int .i64 C.a6] 39)) := Below.goB hB hB.size (by go_grown)
  go_wp2_with fail
  clear e1 e2
  generalize (w1.alloc (.cells #[.int .i64 P.a0, .int .i64 P.a1, .int .i64 P.a2, .int .i64 P.a3, .int .i64 P.a4, .int .i64 P.a5, .int .i64 P.a6] 39)).alloc (.cells #[.int .i64 C.a0, .int .i64 C.a1, .int .i64 C.a2, .int .i64 C.a3, .int .i64 C.a4, .int .i64 C.a5, .int .i64 C.a6] 39) = U at *
  refine (hAd U f1 f2).mono ?_
  rintro e w2 ⟨rfl, hb⟩
  replace lP := (lP.below hb lP.2.2).alloc (.cells #[.int .i64 X1.a0, .int .i64 X1.a1, .int .i64 X1.a2, .int .i64 X1.a3, .int .i64 X1.a4, .int .i64 X1.a5, .int .i64 X1.a6] 39)
  replace lC := (lC.below hb lC.2.2).alloc (.cells #[.int .i64 X1.a0, .int .i64 X1.a1, .int .i64 X1.a2, .int .i64 X1.a3, .int .i64 X1.a4, .int .i64 X1.a5, .int .i64 X1.a6] 39)
  replace hB : Below w.heap.size w (w2.alloc (.cells #[.int .i64 X1.a0, .int .i64 X1.a1, .int .i64 X1.a2, .int .i64 X1.a3, .int .i64 X1.a4, .int .i64 X1.a5, .int .i64 X1.a6] 39)) := Below.goB (Below.goB hB hB.size hb) (Nat.le_trans hB.size hb.size) (by go_grown)
  clear hb
  obtain ⟨c0, c1, c2, c3, c4, c5, c6⟩ := lP.cells
  simp only [D7.get] at c0 c1 c2 c3 c4 c5 c6
  obtain ⟨d0, d1, d2, d3, d4, d5, d6⟩ := lC.cells
  simp only [D7.get] at d0 d1 d2 d3 d4 d5 d6
  go_wp2_with fail
  clear c0 c1 c2 c3 c4 c5 c6 d0 d1 d2 d3 d4 d5 d6
  generalize w2.alloc (.cells #[.int .i64 X1.a0, .int .i64 X1.a1, .int .i64 X1.a2, .int .i64 X1.a3, .int .i64 X1.a4, .int .i64 X1.a5, .int .i64 X1.a6] 39) = V at *
  refine (hSu V f1 f2).mono ?_
  rintro e w3 ⟨rfl, hb⟩
  replace lP := (lP.below hb lP.2.2).alloc (.cells #[.int .i64 X2.a0, .int .i64 X2.a1, .int .i64 X2.a2, .int .i64 X2.a3, .int .i64 X2.a4, .int .i64 X2.a5, .int .i64 X2.a6] 39)
  replace lC := (lC.below hb lC.2.2).alloc (.cells #[.int .i64 X2.a0, .int .i64 X2.a1, .int .i64 X2.a2, .int .i64 X2.a3, .int .i64 X2.a4, .int .i64 X2.a5, .int .i64 X2.a6] 39)
  replace hB : Below w.heap.size w (w3.alloc (.cells #[.int .i64 X2.a0, .int .i64 X2.a1, .int .i64 X2.a2, .int .i64 X2.a3, .int .i64 X2.a4, .int .i64 X2.a5, .int .i64 X2.a6] 39)) := Below.goB (Below.goB hB hB.size hb) (Nat.le_trans hB.size hb.size) (by go_grown)
  clear hb
  obtain ⟨d0, d1, d2, d3, d4, d5, d6⟩ := lC.cells
  simp only [D7.get] at d0 d1 d2 d3 d4 d5 d6
  go_wp2_with fail
  clear d0 d1 d2 d3 d4 d5 d6
  generalize w3.alloc (.cells #[.int .i64 X2.a0, .int .i64 X2.a1, .int .i64 X2.a2, .int .i64 X2.a3, .int .i64 X2.a4, .int .i64 X2.a5, .int .i64 X2.a6] 39) = Y at *
  refine (hTi Y f2 n0 n1).mono ?_
  rintro e w4 ⟨rfl, hb⟩
  replace lP := (lP.below hb lP.2.2).alloc (.cells #[.int .i64 X3.a0, .int .i64 X3.a1, .int .i64 X3.a2, .int .i64 X3.a3, .int .i64 X3.a4, .int .i64 X3.a5, .int .i64 X3.a6] 39)
  replace lC := (lC.below hb lC.2.2).alloc (.cells #[.int .i64 X3.a0, .int .i64 X3.a1, .int .i64 X3.a2, .int .i64 X3.a3, .int .i64 X3.a4, .int .i64 X3.a5, .int .i64 X3.a6] 39)
  replace hB : Below w.heap.size w (w4.alloc (.cells #[.int .i64 X3.a0, .int .i64 X3.a1, .int .i64 X3.a2, .int .i64 X3.a3, .int .i64 X3.a4, .int .i64 X3.a5, .int .i64 X3.a6] 39)) := Below.goB (Below.goB hB hB.size hb) (Nat.le_trans hB.size hb.size) (by go_grown)
  clear hb
  obtain ⟨c0, c1, c2, c3, c4, c5, c6⟩ := lP.cells
  simp only [D7.get] at c0 c1 c2 c3 c4 c5 c6
  go_wp2_with fail
  clear c0 c1 c2 c3 c4 c5 c6
  generalize w4.alloc (.cells #[.int .i64 X3.a0, .int .i64 X3.a1, .int .i64 X3.a2, .int .i64 X3.a3, .int .i64 X3.a4, .int .i64 X3.a5, .int .i64 X3.a6] 39) = R at *
  refine (hRi R f1).mono ?_
  rintro e w5 ⟨rfl, hb⟩
  replace lP := lP.below hb lP.2.2
  replace hB := Below.goB hB hB.size hb
  clear hb
  obtain ⟨c0, c1, c2, c3, c4, c5, c6⟩ := lP.cells
  simp only [D7.get] at c0 c1 c2 c3 c4 c5 c6
  have hE5 := hE.below hB
  go_wp2_with fail
  first
    | (go_at_call 26
       refine (hTx _ hE5 f1).mono ?_
       rintro e w6 ⟨rfl, hb⟩
       replace hB := Below.goB hB hB.size hb
       clear hb
       go_wp2
       go_ret
       exact ⟨rfl, hB⟩)
    | (go_ret
       exact ⟨rfl, hB⟩)
    | exact bodyPost_ret (v := .bool true) (by simp [results, Tryd.results9, go_sem]; omega) rfl ⟨rfl, hB⟩
set_option maxRecDepth 100000 in
set_option maxHeartbeats 2000000 in
theorem ends_high (base n : Int) (w : World) (hE : Env w) (b0 : -9223372036854775808 ≤ base) (b1 : base ≤ 9223372036854775807) (n0 : -9223372036854775808 ≤ n) (n1 : n ≤ 9223372036854775807) (hn : 99 < n) :
    Calls Tryd.prog 9 #[.int .i64 base, .int .i64 n] w fun e w' => e = .returned (.bool true) ∧ Below w.heap.size w w' := by
  have t1 : -7 < base.tmod 7 := Int.lt_tmod_of_pos base (by omega)
  have t2 : base.tmod 7 < 7 := Int.tmod_lt_of_pos base (by omega)
  obtain ⟨k, hk, hkl⟩ : ∃ k : Nat, (base.tmod 7 + 7) % 7 = (k : Int) ∧ k < 7 := ⟨((base.tmod 7 + 7) % 7).toNat, by omega, by omega⟩
  have k7 : (k : Int) < 7 := by omega
  have HR : Hid (rightB (oneD k n) = false) := rightB_no (fun h => by have := (one_right k hkl n).1 h; omega)
  have HA : Hid ((addG (oneD k n) (oneD k 1)).2 = false) := bool_no (one_add k hkl n) (by omega)
  have HS : Hid ((subG (oneD k n) (oneD k 1)).2 = false) := bool_no (one_sub k hkl n) (by omega)
  have HT : Hid ((timesG (oneD k 1) n).2 = false) := bool_no (one_times k hkl n) (by omega)
  have HX : Hid (textD (oneD k n) = []) := text_wrong (fun h => by have := (one_right k hkl n).1 h; omega)
  have f1 := one_fine k n n0 n1
  have f2 := one_fine k 1 (by omega) (by omega)
  have e1 := set_one n k hkl
  have e2 := set_one 1 k hkl
  generalize oneD k n = P at *
  generalize oneD k 1 = C at *
  have hAd := add_any P C
  have hSu := sub_any P C
  have hTi := times_any C n
  have hRi := right_any P
  have hTx := text_any P
  have hzz : ∀ l : List UInt8, (bs l).toList = l := bs_toList
  rw [HA.out] at hAd
  rw [HS.out] at hSu
  rw [HT.out] at hTi
  rw [HR.out] at hRi
  rw [HX.out] at hTx
  generalize (addG P C).1 = X1 at *
  generalize (subG P C).1 = X2 at *
  generalize (timesG C n).1 = X3 at *
  clear HA HS HT HR HX
  simp only [D7.v] at hAd hSu hTi hRi hTx
  go_enter Tryd.func9, Tryd.ntmps9
  go_wp2_with fail
  refine (awake_yes _ hE).mono ?_
  rintro e w1 ⟨rfl, hB⟩
  have lP := (Lies7.new w1 P).alloc (.cells #[.int .i64 C.a0, .int .i64 C.a1, .int .i64 C.a2, .int .i64 C.a3, .int .i64 C.a4, .int .i64 C.a5, .int .i64 C.a6] 39)
  have lC := Lies7.new (w1.alloc (.cells #[.int .i64 P.a0, .int .i64 P.a1, .int .i64 P.a2, .int .i64 P.a3, .int .i64 P.a4, .int .i64 P.a5, .int .i64 P.a6] 39)) C
  simp only [World.size_alloc] at lC
  replace hB : Below w.heap.size w ((w1.alloc (.cells #[.int .i64 P.a0, .int .i64 P.a1, .int .i64 P.a2, .int .i64 P.a3, .int .i64 P.a4, .int .i64 P.a5, .int .i64 P.a6] 39)).alloc (.cells #[.int .i64 C.a0, .int .i64 C.a1, .int .i64 C.a2, .int .i64 C.a3, .int .i64 C.a4, .int .i64 C.a5, .int .i64 C.a6] 39)) := Below.goB hB hB.size (by go_grown)
  go_wp2_with fail
  clear e1 e2
  generalize (w1.alloc (.cells #[.int .i64 P.a0, .int .i64 P.a1, .int .i64 P.a2, .int .i64 P.a3, .int .i64 P.a4, .int .i64 P.a5, .int .i64 P.a6] 39)).alloc (.cells #[.int .i64 C.a0, .int .i64 C.a1, .int .i64 C.a2, .int .i64 C.a3, .int .i64 C.a4, .int .i64 C.a5, .int .i64 C.a6] 39) = U at *
  refine (hAd U f1 f2).mono ?_
  rintro e w2 ⟨rfl, hb⟩
  replace lP := (lP.below hb lP.2.2).alloc (.cells #[.int .i64 X1.a0, .int .i64 X1.a1, .int .i64 X1.a2, .int .i64 X1.a3, .int .i64 X1.a4, .int .i64 X1.a5, .int .i64 X1.a6] 39)
  replace lC := (lC.below hb lC.2.2).alloc (.cells #[.int .i64 X1.a0, .int .i64 X1.a1, .int .i64 X1.a2, .int .i64 X1.a3, .int .i64 X1.a4, .int .i64 X1.a5, .int .i64 X1.a6] 39)
  replace hB : Below w.heap.size w (w2.alloc (.cells #[.int .i64 X1.a0, .int .i64 X1.a1, .int .i64 X1.a2, .int .i64 X1.a3, .int .i64 X1.a4, .int .i64 X1.a5, .int .i64 X1.a6] 39)) := Below.goB (Below.goB hB hB.size hb) (Nat.le_trans hB.size hb.size) (by go_grown)
  clear hb
  obtain ⟨c0, c1, c2, c3, c4, c5, c6⟩ := lP.cells
  simp only [D7.get] at c0 c1 c2 c3 c4 c5 c6
  obtain ⟨d0, d1, d2, d3, d4, d5, d6⟩ := lC.cells
  simp only [D7.get] at d0 d1 d2 d3 d4 d5 d6
  go_wp2_with fail
  clear c0 c1 c2 c3 c4 c5 c6 d0 d1 d2 d3 d4 d5 d6
  generalize w2.alloc (.cells #[.int .i64 X1.a0, .int .i64 X1.a1, .int .i64 X1.a2, .int .i64 X1.a3, .int .i64 X1.a4, .int .i64 X1.a5, .int .i64 X1.a6] 39) = V at *
  refine (hSu V f1 f2).mono ?_
  rintro e w3 ⟨rfl, hb⟩
  replace lP := (lP.below hb lP.2.2).alloc (.cells #[.int .i64 X2.a0, .int .i64 X2.a1, .int .i64 X2.a2, .int .i64 X2.a3, .int .i64 X2.a4, .int .i64 X2.a5, .int .i64 X2.a6] 39)
  replace lC := (lC.below hb lC.2.2).alloc (.cells #[.int .i64 X2.a0, .int .i64 X2.a1, .int .i64 X2.a2, .int .i64 X2.a3, .int .i64 X2.a4, .int .i64 X2.a5, .int .i64 X2.a6] 39)
  replace hB : Below w.heap.size w (w3.alloc (.cells #[.int .i64 X2.a0, .int .i64 X2.a1, .int .i64 X2.a2, .int .i64 X2.a3, .int .i64 X2.a4, .int .i64 X2.a5, .int .i64 X2.a6] 39)) := Below.goB (Below.goB hB hB.size hb) (Nat.le_trans hB.size hb.size) (by go_grown)
  clear hb
  obtain ⟨d0, d1, d2, d3, d4, d5, d6⟩ := lC.cells
  simp only [D7.get] at d0 d1 d2 d3 d4 d5 d6
  go_wp2_with fail
  clear d0 d1 d2 d3 d4 d5 d6
  generalize w3.alloc (.cells #[.int .i64 X2.a0, .int .i64 X2.a1, .int .i64 X2.a2, .int .i64 X2.a3, .int .i64 X2.a4, .int .i64 X2.a5, .int .i64 X2.a6] 39) = Y at *
  refine (hTi Y f2 n0 n1).mono ?_
  rintro e w4 ⟨rfl, hb⟩
  replace lP := (lP.below hb lP.2.2).alloc (.cells #[.int .i64 X3.a0, .int .i64 X3.a1, .int .i64 X3.a2, .int .i64 X3.a3, .int .i64 X3.a4, .int .i64 X3.a5, .int .i64 X3.a6] 39)
  replace lC := (lC.below hb lC.2.2).alloc (.cells #[.int .i64 X3.a0, .int .i64 X3.a1, .int .i64 X3.a2, .int .i64 X3.a3, .int .i64 X3.a4, .int .i64 X3.a5, .int .i64 X3.a6] 39)
  replace hB : Below w.heap.size w (w4.alloc (.cells #[.int .i64 X3.a0, .int .i64 X3.a1, .int .i64 X3.a2, .int .i64 X3.a3, .int .i64 X3.a4, .int .i64 X3.a5, .int .i64 X3.a6] 39)) := Below.goB (Below.goB hB hB.size hb) (Nat.le_trans hB.size hb.size) (by go_grown)
  clear hb
  obtain ⟨c0, c1, c2, c3, c4, c5, c6⟩ := lP.cells
  simp only [D7.get] at c0 c1 c2 c3 c4 c5 c6
  go_wp2_with fail
  clear c0 c1 c2 c3 c4 c5 c6
  generalize w4.alloc (.cells #[.int .i64 X3.a0, .int .i64 X3.a1, .int .i64 X3.a2, .int .i64 X3.a3, .int .i64 X3.a4, .int .i64 X3.a5, .int .i64 X3.a6] 39) = R at *
  refine (hRi R f1).mono ?_
  rintro e w5 ⟨rfl, hb⟩
  replace lP := lP.below hb lP.2.2
  replace hB := Below.goB hB hB.size hb
  clear hb
  obtain ⟨c0, c1, c2, c3, c4, c5, c6⟩ := lP.cells
  simp only [D7.get] at c0 c1 c2 c3 c4 c5 c6
  have hE5 := hE.below hB
  go_wp2_with fail
  first
    | (go_at_call 26
       refine (hTx _ hE5 f1).mono ?_
       rintro e w6 ⟨rfl, hb⟩
       replace hB := Below.goB hB hB.size hb
       clear hb
       go_wp2
       go_ret
       exact ⟨rfl, hB⟩)
    | (go_ret
       exact ⟨rfl, hB⟩)
    | exact bodyPost_ret (v := .bool true) (by simp [results, Tryd.results9, go_sem]; omega) rfl ⟨rfl, hB⟩

theorem ends_walk (base n : Int) (w : World) (hE : Env w) (bb : -9223372036854775808 ≤ base ∧ base ≤ 9223372036854775807) (bn : -9223372036854775808 ≤ n ∧ n ≤ 9223372036854775807) :
    Calls Tryd.prog 9 #[.int .i64 base, .int .i64 n] w fun e w' => e = .returned (.bool true) ∧ Below w.heap.size w w' := by
  rcases (show n < -99 ∨ n = -99 ∨ (-99 < n ∧ n < 99) ∨ n = 99 ∨ 99 < n by omega) with h | h | h | h | h
  · exact ends_low base n w hE bb.1 bb.2 bn.1 bn.2 h
  · exact ends_least base n w hE bb.1 bb.2 bn.1 bn.2 (by omega) (by omega)
  · exact ends_mid base n w hE bb.1 bb.2 bn.1 bn.2 h.1 h.2
  · exact ends_most base n w hE bb.1 bb.2 bn.1 bn.2 (by omega) (by omega)
  · exact ends_high base n w hE bb.1 bb.2 bn.1 bn.2 h

end Go.Proofs.YtjklbnakgkffnaaDoor.Dims

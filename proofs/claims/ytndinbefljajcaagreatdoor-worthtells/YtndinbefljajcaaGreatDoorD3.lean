/-
  Contracts of dims.Add, Sub, Times: what they answer at any dims; the world below stays as it was.
-/
import Derived.Test.YtndinbefljajcaaGreatDoorD2
namespace Go.Proofs.YtndinbefljajcaaGreatDoor.Dims
open Go.RowKit Go.Shelf
set_option linter.unusedVariables false
set_option linter.unusedSimpArgs false

/-- How the world stands within a function of two dims. -/
def TwoAt (w v : World) (a b : D7) : Prop := Below w.heap.size w v ∧ Lies7 v w.heap.size a.get ∧ Lies7 v (w.heap.size + 1) b.get ∧ Lies7 v (w.heap.size + 1 + 1) dZero.get
theorem TwoAt.below {w v v' : World} {a b : D7} (h : TwoAt w v a b) (hb : Below v.heap.size v v') : TwoAt w v' a b :=
  ⟨Below.goB h.1 h.1.size hb, h.2.1.below hb h.2.1.2.2, h.2.2.1.below hb h.2.2.1.2.2, h.2.2.2.below hb h.2.2.2.2.2⟩
theorem TwoAt.new (w : World) (a b : D7) : TwoAt w (((w.alloc (.cells #[.int .i64 a.a0, .int .i64 a.a1, .int .i64 a.a2, .int .i64 a.a3, .int .i64 a.a4, .int .i64 a.a5, .int .i64 a.a6] 23)).alloc (.cells #[.int .i64 b.a0, .int .i64 b.a1, .int .i64 b.a2, .int .i64 b.a3, .int .i64 b.a4, .int .i64 b.a5, .int .i64 b.a6] 23)).alloc (.cells #[.int .i64 0, .int .i64 0, .int .i64 0, .int .i64 0, .int .i64 0, .int .i64 0, .int .i64 0] 23)) a b := by
  have h1 := Lies7.new w a
  have h2 := Lies7.new (w.alloc (.cells #[.int .i64 a.a0, .int .i64 a.a1, .int .i64 a.a2, .int .i64 a.a3, .int .i64 a.a4, .int .i64 a.a5, .int .i64 a.a6] 23)) b
  have h3 := Lies7.new ((w.alloc (.cells #[.int .i64 a.a0, .int .i64 a.a1, .int .i64 a.a2, .int .i64 a.a3, .int .i64 a.a4, .int .i64 a.a5, .int .i64 a.a6] 23)).alloc (.cells #[.int .i64 b.a0, .int .i64 b.a1, .int .i64 b.a2, .int .i64 b.a3, .int .i64 b.a4, .int .i64 b.a5, .int .i64 b.a6] 23)) dZero
  simp only [World.size_alloc] at h2 h3
  exact ⟨by go_grown, (h1.alloc _).alloc _, h2.alloc _, h3⟩

theorem add1_any (x y : Int) (w : World) (h0 : -99 ≤ x) (h1 : x ≤ 99) (h2 : -99 ≤ y) (h3 : y ≤ 99) :
    Calls Tryz.prog 61 #[.int .i64 x, .int .i64 y] w fun e w' => e = .returned (.int .i64 (x + y)) ∧ w = w' := by
  go_enter Tryz.func61, Tryz.ntmps61
  go_wp2
  go_ret
  exact ⟨rfl, rfl⟩

set_option maxRecDepth 100000 in
set_option maxHeartbeats 1000000 in
theorem add_any (a b : D7) (w : World) (fa : Fine a) (fb : Fine b) :
    Calls Tryz.prog 26 #[a.v, b.v] w fun e w' => e = .returned (.tuple #[(addG a b).1.v, .bool (addG a b).2]) ∧ Below w.heap.size w w' := by
  have hA := TwoAt.new w a b
  have hR : ∀ V, TwoAt w V a b → Calls Tryz.prog 60 #[a.v, b.v, .func (.func 61) #[] #[]] V fun e w' => e = .returned (.tuple #[(addG a b).1.v, .bool (addG a b).2]) ∧ Below V.heap.size V w' := by
    intro V hV
    refine reckon_any a b 61 #[] (fun x y => x + y) V fa fb (enters_of Tryz.func61 (by kernel_rfl) rfl) ?_ ?_
    · intro ra rb i hi U hU
      exact add1_any _ _ U (ra i hi).1 (ra i hi).2 (rb i hi).1 (rb i hi).2
    · intro ra rb i hi
      rw [get_of _ i hi]
      have := ra i hi
      have := rb i hi
      omega
  generalize addG a b = G at *
  simp only [D7.v] at hR ⊢
  obtain ⟨c0, c1, c2, c3, c4, c5, c6⟩ := hA.2.1.cells
  obtain ⟨d0, d1, d2, d3, d4, d5, d6⟩ := hA.2.2.1.cells
  simp only [D7.get] at c0 c1 c2 c3 c4 c5 c6 d0 d1 d2 d3 d4 d5 d6
  go_enter Tryz.func26, Tryz.ntmps26
  go_wp2_with fail
  refine (hR _ hA).mono ?_
  rintro e w1 ⟨rfl, hb⟩
  replace hA := hA.below hb
  clear hb c0 c1 c2 c3 c4 c5 c6 d0 d1 d2 d3 d4 d5 d6
  obtain ⟨hB, _, _, hZ⟩ := id hA
  obtain ⟨m0, m1, m2, m3, m4, m5, m6⟩ := hZ.cells
  have mf := hZ.2.1
  go_wp2
  refine bodyPost_ret (v := .tuple #[G.1.v, .bool G.2]) (by simp [results, Tryz.results26, go_sem, D7.v, m0, m1, m2, m3, m4, m5, m6]) rfl ⟨rfl, ?_⟩
  go_grown

theorem sub1_any (x y : Int) (w : World) (h0 : -99 ≤ x) (h1 : x ≤ 99) (h2 : -99 ≤ y) (h3 : y ≤ 99) :
    Calls Tryz.prog 75 #[.int .i64 x, .int .i64 y] w fun e w' => e = .returned (.int .i64 (x - y)) ∧ w = w' := by
  go_enter Tryz.func75, Tryz.ntmps75
  go_wp2
  go_ret
  exact ⟨rfl, rfl⟩

set_option maxRecDepth 100000 in
set_option maxHeartbeats 1000000 in
theorem sub_any (a b : D7) (w : World) (fa : Fine a) (fb : Fine b) :
    Calls Tryz.prog 42 #[a.v, b.v] w fun e w' => e = .returned (.tuple #[(subG a b).1.v, .bool (subG a b).2]) ∧ Below w.heap.size w w' := by
  have hA := TwoAt.new w a b
  have hR : ∀ V, TwoAt w V a b → Calls Tryz.prog 60 #[a.v, b.v, .func (.func 75) #[] #[]] V fun e w' => e = .returned (.tuple #[(subG a b).1.v, .bool (subG a b).2]) ∧ Below V.heap.size V w' := by
    intro V hV
    refine reckon_any a b 75 #[] (fun x y => x - y) V fa fb (enters_of Tryz.func75 (by kernel_rfl) rfl) ?_ ?_
    · intro ra rb i hi U hU
      exact sub1_any _ _ U (ra i hi).1 (ra i hi).2 (rb i hi).1 (rb i hi).2
    · intro ra rb i hi
      rw [get_of _ i hi]
      have := ra i hi
      have := rb i hi
      omega
  generalize subG a b = G at *
  simp only [D7.v] at hR ⊢
  obtain ⟨c0, c1, c2, c3, c4, c5, c6⟩ := hA.2.1.cells
  obtain ⟨d0, d1, d2, d3, d4, d5, d6⟩ := hA.2.2.1.cells
  simp only [D7.get] at c0 c1 c2 c3 c4 c5 c6 d0 d1 d2 d3 d4 d5 d6
  go_enter Tryz.func42, Tryz.ntmps42
  go_wp2_with fail
  refine (hR _ hA).mono ?_
  rintro e w1 ⟨rfl, hb⟩
  replace hA := hA.below hb
  clear hb c0 c1 c2 c3 c4 c5 c6 d0 d1 d2 d3 d4 d5 d6
  obtain ⟨hB, _, _, hZ⟩ := id hA
  obtain ⟨m0, m1, m2, m3, m4, m5, m6⟩ := hZ.cells
  have mf := hZ.2.1
  go_wp2
  refine bodyPost_ret (v := .tuple #[G.1.v, .bool G.2]) (by simp [results, Tryz.results42, go_sem, D7.v, m0, m1, m2, m3, m4, m5, m6]) rfl ⟨rfl, ?_⟩
  go_grown

set_option maxHeartbeats 1000000 in
theorem times1_any (x y n : Int) (B : Nat) (w : World) (hB : w.cell? ⟨B, 0, none⟩ = some (.int .i64 n)) (h0 : -99 ≤ x) (h1 : x ≤ 99) (h2 : -100 ≤ n) (h3 : n ≤ 100) :
    Calls Tryz.prog 77 #[.int .i64 x, .int .i64 y, .pointer (some ⟨B, 0, none⟩)] w fun e w' => e = .returned (.int .i64 (x * n)) ∧ w = w' := by
  have b1 : x * n ≤ 9900 := by
    rcases Int.le_total 0 n with h | h
    · have := Int.mul_le_mul_of_nonneg_right h1 h; omega
    · have := Int.mul_le_mul_of_nonpos_right h0 h; omega
  have b2 : -9900 ≤ x * n := by
    rcases Int.le_total 0 n with h | h
    · have := Int.mul_le_mul_of_nonneg_right h0 h; omega
    · have := Int.mul_le_mul_of_nonpos_right h1 h; omega
  go_enter Tryz.func77, Tryz.ntmps77
  go_wp2
  go_ret
  exact ⟨rfl, rfl⟩

/-- How the world stands within Times. -/
def TimAt (w v : World) (a : D7) : Prop := Below w.heap.size w v ∧ Lies7 v w.heap.size a.get ∧ Lies7 v (w.heap.size + 1) dZero.get
theorem TimAt.below {w v v' : World} {a : D7} (h : TimAt w v a) (hb : Below v.heap.size v v') : TimAt w v' a :=
  ⟨Below.goB h.1 h.1.size hb, h.2.1.below hb h.2.1.2.2, h.2.2.below hb h.2.2.2.2⟩
theorem TimAt.new (w : World) (a : D7) : TimAt w ((w.alloc (.cells #[.int .i64 a.a0, .int .i64 a.a1, .int .i64 a.a2, .int .i64 a.a3, .int .i64 a.a4, .int .i64 a.a5, .int .i64 a.a6] 23)).alloc (.cells #[.int .i64 0, .int .i64 0, .int .i64 0, .int .i64 0, .int .i64 0, .int .i64 0, .int .i64 0] 23)) a := by
  have h1 := Lies7.new w a
  have h3 := Lies7.new (w.alloc (.cells #[.int .i64 a.a0, .int .i64 a.a1, .int .i64 a.a2, .int .i64 a.a3, .int .i64 a.a4, .int .i64 a.a5, .int .i64 a.a6] 23)) dZero
  simp only [World.size_alloc] at h3
  exact ⟨by go_grown, h1.alloc _, h3⟩

set_option maxRecDepth 100000 in
set_option maxHeartbeats 1000000 in
theorem times_any (a : D7) (n : Int) (w : World) (fa : Fine a) (hn : -9223372036854775808 ≤ n) (hn1 : n ≤ 9223372036854775807) :
    Calls Tryz.prog 46 #[a.v, .int .i64 n] w fun e w' => e = .returned (.tuple #[(timesG a n).1.v, .bool (timesG a n).2]) ∧ Below w.heap.size w w' := by
  have hA := TimAt.new w a
  have hl := within_le n 100 (by omega)
  have hR : ∀ V B, V.cell? ⟨B, 0, none⟩ = some (.int .i64 (within n 100)) → B < V.heap.size → Calls Tryz.prog 60 #[a.v, a.v, .func (.func 77) #[] #[.pointer (some ⟨B, 0, none⟩)]] V fun e w' => e = .returned (.tuple #[(timesG a n).1.v, .bool (timesG a n).2]) ∧ Below V.heap.size V w' := by
    intro V B hV hz
    refine reckon_any a a 77 _ (fun x _ => x * within n 100) V fa fa (enters_of Tryz.func77 (by kernel_rfl) rfl) ?_ ?_
    · intro ra rb i hi U hU
      exact times1_any _ _ _ B U ((hU.cell (p := ⟨B, 0, none⟩) hz).trans hV) (ra i hi).1 (ra i hi).2 hl.1 hl.2
    · intro ra rb i hi
      rw [get_of _ i hi]
      have h0 := (ra i hi).1
      have h1 := (ra i hi).2
      generalize a.get i = x at *
      generalize within n 100 = m at *
      have b1 : x * m ≤ 9900 := by
        rcases Int.le_total 0 m with h | h
        · have := Int.mul_le_mul_of_nonneg_right h1 h; omega
        · have := Int.mul_le_mul_of_nonpos_right h0 h; omega
      have b2 : -9900 ≤ x * m := by
        rcases Int.le_total 0 m with h | h
        · have := Int.mul_le_mul_of_nonneg_right h0 h; omega
        · have := Int.mul_le_mul_of_nonpos_right h1 h; omega
      omega
  have hW := within_any n 100
  generalize timesG a n = G at *
  generalize within n 100 = m at *
  simp only [D7.v] at hR ⊢
  go_enter Tryz.func46, Tryz.ntmps46
  go_wp2_with fail
  refine (hW _ (by omega) (by omega) hn hn1).mono ?_
  rintro e w1 ⟨rfl, rfl⟩
  obtain ⟨c0, c1, c2, c3, c4, c5, c6⟩ := hA.2.1.cells
  simp only [D7.get] at c0 c1 c2 c3 c4 c5 c6
  go_wp2_with fail
  refine (hR _ (w.heap.size + 1 + 1) (by simp [go_sem]) (by simp)).mono ?_
  rintro e w1 ⟨rfl, hb⟩
  replace hA := (hA.below (v' := ((w.alloc (.cells #[.int .i64 a.a0, .int .i64 a.a1, .int .i64 a.a2, .int .i64 a.a3, .int .i64 a.a4, .int .i64 a.a5, .int .i64 a.a6] 23)).alloc (.cells #[.int .i64 0, .int .i64 0, .int .i64 0, .int .i64 0, .int .i64 0, .int .i64 0, .int .i64 0] 23)).alloc (.cells #[.int .i64 m] 3)) (by go_grown)).below hb
  clear hb c0 c1 c2 c3 c4 c5 c6
  obtain ⟨hB, _, hZ⟩ := id hA
  obtain ⟨m0, m1, m2, m3, m4, m5, m6⟩ := hZ.cells
  have mf := hZ.2.1
  go_wp2
  refine bodyPost_ret (v := .tuple #[G.1.v, .bool G.2]) (by simp [results, Tryz.results46, go_sem, D7.v, m0, m1, m2, m3, m4, m5, m6]) rfl ⟨rfl, ?_⟩
  go_grown

end Go.Proofs.YtndinbefljajcaaGreatDoor.Dims

/-
  Contracts of frac.partsOf, frac.times and its closure, frac.join.
-/
import Derived.Test.YtjklbnakgkffnaaDoorF2
namespace Go.Proofs.YtjklbnakgkffnaaDoor.Frac
open Go.RowKit
open Go.Proofs.YtjklbnakgkffnaaDoor.Whole
set_option linter.unusedVariables false
set_option linter.unusedSimpArgs false

set_option maxRecDepth 100000 in
set_option maxHeartbeats 1000000 in
theorem partsOf_yes (n d ten : Int) (w : World) (hT : OfTen w) (hn : -9223372036854775807 ≤ n) (hn' : n ≤ 9223372036854775807) (h0 : n ≠ 0) (ht : -1000 ≤ ten) (ht' : ten ≤ 1000) :
    Calls Tryd.prog 64 #[.agg #[.int .i64 n, .int .i64 d, .int .i64 ten]] w fun e w' => e = .returned (.agg #[.int .i64 (spL (spL n 2) 5), .int .i64 d, .int .i64 (spT n 2 + ten), .int .i64 (spT (spL n 2) 5 + ten)]) ∧ Below w.heap.size w w' := by
  go_enter Tryd.func64, Tryd.ntmps64
  go_wp2_with fail
  have hT' := hT.below (w' := (w.alloc (Obj.cells #[.int .i64 n, .int .i64 d, .int .i64 ten] 24)).alloc (Obj.cells #[.int .i64 0, .int .i64 0, .int .i64 0, .int .i64 0] 96)) (by go_grown)
  refine (apart_yes _ _ _ hT' hn hn' h0 (by omega) (by omega)).mono ?_
  rintro e w1 ⟨rfl, hb⟩
  obtain ⟨hc, hf⟩ := bcell hb
  have hz0 : w.heap.size < w1.heap.size := by have := hb.size; simp at this; omega
  have hz1 : w.heap.size + 1 < w1.heap.size := by have := hb.size; simp at this; omega
  have c1 : w1.cell? ⟨w.heap.size, 1, none⟩ = some (.int .i64 d) := by rw [hc _ _ (by simp; omega)]; simp [go_sem]
  have f0 : ∀ i, w1.frozen? ⟨w.heap.size + 1, i, none⟩ = false := fun i => by rw [hf _ _ (by simp)]; simp [go_sem]
  have k0 : w1.cell? ⟨w.heap.size + 1, 0, none⟩ = some (.int .i64 0) := by rw [hc _ _ (by simp)]; simp [go_sem]
  have k1 : w1.cell? ⟨w.heap.size + 1, 1, none⟩ = some (.int .i64 0) := by rw [hc _ _ (by simp)]; simp [go_sem]
  have k2 : w1.cell? ⟨w.heap.size + 1, 2, none⟩ = some (.int .i64 0) := by rw [hc _ _ (by simp)]; simp [go_sem]
  have k3 : w1.cell? ⟨w.heap.size + 1, 3, none⟩ = some (.int .i64 0) := by rw [hc _ _ (by simp)]; simp [go_sem]
  have hB : Below w.heap.size w w1 := Below.trans (by go_grown) (hb.mono (by simp; omega))
  clear hc hf
  go_wp2
  refine bodyPost_ret (v := .agg #[.int .i64 (spL (spL n 2) 5), .int .i64 d, .int .i64 (spT n 2 + ten), .int .i64 (spT (spL n 2) 5 + ten)]) (by simp [results, Tryd.results64, go_sem, hz1, k0, k1, k2, k3]) rfl ⟨rfl, ?_⟩
  go_grown

set_option maxRecDepth 100000 in
set_option maxHeartbeats 1000000 in
theorem partsOf_zero (d ten : Int) (w : World) (hT : OfTen w) (ht : -1000 ≤ ten) (ht' : ten ≤ 1000) :
    Calls Tryd.prog 64 #[.agg #[.int .i64 0, .int .i64 d, .int .i64 ten]] w fun e w' => e = .returned (.agg #[.int .i64 0, .int .i64 d, .int .i64 ten, .int .i64 ten]) ∧ Below w.heap.size w w' := by
  go_enter Tryd.func64, Tryd.ntmps64
  go_wp2_with fail
  have hT' := hT.below (w' := (w.alloc (Obj.cells #[.int .i64 0, .int .i64 d, .int .i64 ten] 24)).alloc (Obj.cells #[.int .i64 0, .int .i64 0, .int .i64 0, .int .i64 0] 96)) (by go_grown)
  refine (apart_zero _ _ hT' (by omega) (by omega)).mono ?_
  rintro e w1 ⟨rfl, hb⟩
  obtain ⟨hc, hf⟩ := bcell hb
  have hz0 : w.heap.size < w1.heap.size := by have := hb.size; simp at this; omega
  have hz1 : w.heap.size + 1 < w1.heap.size := by have := hb.size; simp at this; omega
  have c1 : w1.cell? ⟨w.heap.size, 1, none⟩ = some (.int .i64 d) := by rw [hc _ _ (by simp; omega)]; simp [go_sem]
  have f0 : ∀ i, w1.frozen? ⟨w.heap.size + 1, i, none⟩ = false := fun i => by rw [hf _ _ (by simp)]; simp [go_sem]
  have k0 : w1.cell? ⟨w.heap.size + 1, 0, none⟩ = some (.int .i64 0) := by rw [hc _ _ (by simp)]; simp [go_sem]
  have k1 : w1.cell? ⟨w.heap.size + 1, 1, none⟩ = some (.int .i64 0) := by rw [hc _ _ (by simp)]; simp [go_sem]
  have k2 : w1.cell? ⟨w.heap.size + 1, 2, none⟩ = some (.int .i64 0) := by rw [hc _ _ (by simp)]; simp [go_sem]
  have k3 : w1.cell? ⟨w.heap.size + 1, 3, none⟩ = some (.int .i64 0) := by rw [hc _ _ (by simp)]; simp [go_sem]
  have hB : Below w.heap.size w w1 := Below.trans (by go_grown) (hb.mono (by simp; omega))
  clear hc hf
  go_wp2
  refine bodyPost_ret (v := .agg #[.int .i64 0, .int .i64 d, .int .i64 ten, .int .i64 ten]) (by simp [results, Tryd.results64, go_sem, hz1, k0, k1, k2, k3]) rfl ⟨rfl, ?_⟩
  go_grown

set_option maxRecDepth 100000 in
set_option maxHeartbeats 1000000 in
theorem times_yes (n d e2 e5 : Int) (w : World) :
    Calls Tryd.prog 62 #[.agg #[.int .i64 n, .int .i64 d, .int .i64 e2, .int .i64 e5]] w fun e w' => e = .returned (.func (.func 85) #[] #[.pointer (some ⟨w.heap.size, 0, none⟩)]) ∧ w' = w.alloc (.cells #[.int .i64 n, .int .i64 d, .int .i64 e2, .int .i64 e5] 96) := by
  go_enter Tryd.func62, Tryd.ntmps62
  go_wp2
  go_ret
  exact ⟨rfl, rfl⟩

/-- A call that only draws, behind draws. -/
theorem draws_more {P : Program} {f : FuncId} {args : Array Value} {v : Value} (c : ∀ W : World, Calls P f args W fun e w' => e = .returned v ∧ ∃ m, w' = W.drewN m) (w : World) (i j : Nat) :
    Calls P f args (w.drewN (i + j)) fun e w' => e = .returned v ∧ ∃ m, w' = w.drewN (i + m) := by
  refine (c _).mono ?_
  rintro e w' ⟨he, m, hm⟩
  refine ⟨he, j + m, ?_⟩
  rw [hm, World.drewN_drewN]
  exact congrArg w.drewN (Nat.add_assoc i j m)
theorem draws_none {P : Program} {f : FuncId} {args : Array Value} {v : Value} {w : World} (c : Calls P f args w fun e w' => e = .returned v ∧ w = w') : Calls P f args w fun e w' => e = .returned v ∧ ∃ m, w' = w.drewN m :=
  c.mono fun _ _ h => ⟨h.1, 0, h.2.symm⟩

theorem tdiv_small (a g : Int) (_hg : 1 ≤ g) : (a.tdiv g).natAbs ≤ a.natAbs := by
  rw [Int.natAbs_tdiv]; exact Nat.div_le_self _ _

set_option maxRecDepth 100000 in
set_option maxHeartbeats 2000000 in
theorem times1_yes (n1 d1 a2 a5 n2 d2 b2 b5 g h N D : Int) (b : Nat) (w : World) (hbz : b < w.heap.size)
    (c0 : w.cell? ⟨b, 0, none⟩ = some (.int .i64 n2)) (c1 : w.cell? ⟨b, 1, none⟩ = some (.int .i64 d2)) (c2 : w.cell? ⟨b, 2, none⟩ = some (.int .i64 b2)) (c3 : w.cell? ⟨b, 3, none⟩ = some (.int .i64 b5))
    (hn1 : -9223372036854775807 ≤ n1) (hn1' : n1 ≤ 9223372036854775807) (hd1 : -9223372036854775807 ≤ d1) (hd1' : d1 ≤ 9223372036854775807) (hn2 : -9223372036854775807 ≤ n2) (hn2' : n2 ≤ 9223372036854775807) (hd2 : -9223372036854775807 ≤ d2) (hd2' : d2 ≤ 9223372036854775807)
    (ha2 : -1000000 ≤ a2 ∧ a2 ≤ 1000000) (ha5 : -1000000 ≤ a5 ∧ a5 ≤ 1000000) (hb2 : -1000000 ≤ b2 ∧ b2 ≤ 1000000) (hb5 : -1000000 ≤ b5 ∧ b5 ≤ 1000000)
    (hg : Hid (((Int.gcd n1 d2 : Nat) : Int) = g)) (hh : Hid (((Int.gcd n2 d1 : Nat) : Int) = h)) (hg1 : 1 ≤ g) (hh1 : 1 ≤ h)
    (hN : Hid (n1.tdiv g * n2.tdiv h = N)) (hD : Hid (d1.tdiv h * d2.tdiv g = D)) (hN' : N.natAbs ≤ 9223372036854775807) (hD' : D.natAbs ≤ 9223372036854775807) :
    Calls Tryd.prog 85 #[.agg #[.int .i64 n1, .int .i64 d1, .int .i64 a2, .int .i64 a5], .pointer (some ⟨b, 0, none⟩)] w fun e w' => e = .returned (.tuple #[.agg #[.int .i64 N, .int .i64 D, .int .i64 (a2 + b2), .int .i64 (a5 + b5)], .bool true]) ∧ Below w.heap.size w w' := by
  have t1 := tdiv_small n1 g hg1
  have t2 := tdiv_small n2 h hh1
  have t3 := tdiv_small d1 h hh1
  have t4 := tdiv_small d2 g hg1
  have q1 : -9223372036854775807 ≤ n1.tdiv g ∧ n1.tdiv g ≤ 9223372036854775807 := by omega
  have q2 : -9223372036854775807 ≤ n2.tdiv h ∧ n2.tdiv h ≤ 9223372036854775807 := by omega
  have q3 : -9223372036854775807 ≤ d1.tdiv h ∧ d1.tdiv h ≤ 9223372036854775807 := by omega
  have q4 : -9223372036854775807 ≤ d2.tdiv g ∧ d2.tdiv g ≤ 9223372036854775807 := by omega
  have zg : (g == 0) = false := by simp only [beq_eq_false_iff_ne]; omega
  have zh : (h == 0) = false := by simp only [beq_eq_false_iff_ne]; omega
  clear t1 t2 t3 t4
  have w1 : IntKind.i64.wrap (n1.tdiv g) = n1.tdiv g := IntWalk.i64_in _ ⟨by omega, by omega⟩
  have w2 : IntKind.i64.wrap (n2.tdiv h) = n2.tdiv h := IntWalk.i64_in _ ⟨by omega, by omega⟩
  have w3 : IntKind.i64.wrap (d1.tdiv h) = d1.tdiv h := IntWalk.i64_in _ ⟨by omega, by omega⟩
  have w4 : IntKind.i64.wrap (d2.tdiv g) = d2.tdiv g := IntWalk.i64_in _ ⟨by omega, by omega⟩
  have G1 : Hid (∀ W, Calls Tryd.prog 86 #[.int .i64 n1, .int .i64 d2] W fun e w' => e = .returned (.int .i64 g) ∧ ∃ n, w' = W.drewN n) := fun W => by
    have := gcd_yes n1 d2 W hn1 hd2 hn1' hd2'
    rw [hg.out] at this; exact this
  have G2 : Hid (∀ W, Calls Tryd.prog 86 #[.int .i64 n2, .int .i64 d1] W fun e w' => e = .returned (.int .i64 h) ∧ ∃ n, w' = W.drewN n) := fun W => by
    have := gcd_yes n2 d1 W hn2 hd1 hn2' hd1'
    rw [hh.out] at this; exact this
  have M1 : Hid (∀ W, Calls Tryd.prog 87 #[.int .i64 (n1.tdiv g), .int .i64 (n2.tdiv h)] W fun e w' => e = .returned (.tuple #[.int .i64 N, .bool true]) ∧ ∃ n, w' = W.drewN n) := fun W =>
    draws_none (mul_core _ _ N W q1.1 q2.1 q1.2 q2.2 hN (by omega) (by omega))
  have M2 : Hid (∀ W, Calls Tryd.prog 87 #[.int .i64 (d1.tdiv h), .int .i64 (d2.tdiv g)] W fun e w' => e = .returned (.tuple #[.int .i64 D, .bool true]) ∧ ∃ n, w' = W.drewN n) := fun W =>
    draws_none (mul_core _ _ D W q3.1 q4.1 q3.2 q4.2 hD (by omega) (by omega))
  go_enter Tryd.func85, Tryd.ntmps85
  go_wp2
  go_quiet ((first
    | (go_at_call_of 86 (Value.int IntKind.i64 n1); exact Calls.quiet_of (G1.out _))
    | (go_at_call_of 86 (Value.int IntKind.i64 n2); exact Calls.quiet_of (G2.out _))))
  go_wp2
  go_quiet ((go_at_call 87; exact draws_more M1.out _ _ _))
  go_wp2
  go_quiet ((go_at_call 87; exact draws_more M2.out _ _ _))
  go_wp2
  clear M1 M2 G1 G2 w1 w2 w3 w4 q1 q2 q3 q4 zg zh
  have hb1 : b < w.heap.size + 1 := by omega
  have hb2 : b < w.heap.size + 1 + 1 := by omega
  refine wp_loop_rounds 3 ?_
  rw [rounds_succ]
  go_wp2
  go_region
  go_wp2
  rw [rounds_succ]
  go_wp2
  go_region
  go_wp2
  rw [rounds_succ]
  go_wp2
  refine bodyPost_ret (v := .tuple #[.agg #[.int .i64 N, .int .i64 D, .int .i64 (a2 + b2), .int .i64 (a5 + b5)], .bool true]) (by simp [results, Tryd.results85, go_sem]) rfl ⟨rfl, ?_⟩
  go_grown
  exact below_drewN (by go_grown) _

set_option maxRecDepth 100000 in
set_option maxHeartbeats 2000000 in
theorem times1_no1 (n1 d1 a2 a5 n2 d2 b2 b5 g h N D : Int) (b : Nat) (w : World) (hbz : b < w.heap.size)
    (c0 : w.cell? ⟨b, 0, none⟩ = some (.int .i64 n2)) (c1 : w.cell? ⟨b, 1, none⟩ = some (.int .i64 d2)) (c2 : w.cell? ⟨b, 2, none⟩ = some (.int .i64 b2)) (c3 : w.cell? ⟨b, 3, none⟩ = some (.int .i64 b5))
    (hn1 : -9223372036854775807 ≤ n1) (hn1' : n1 ≤ 9223372036854775807) (hd1 : -9223372036854775807 ≤ d1) (hd1' : d1 ≤ 9223372036854775807) (hn2 : -9223372036854775807 ≤ n2) (hn2' : n2 ≤ 9223372036854775807) (hd2 : -9223372036854775807 ≤ d2) (hd2' : d2 ≤ 9223372036854775807)
    (ha2 : -1000000 ≤ a2 ∧ a2 ≤ 1000000) (ha5 : -1000000 ≤ a5 ∧ a5 ≤ 1000000) (hb2 : -1000000 ≤ b2 ∧ b2 ≤ 1000000) (hb5 : -1000000 ≤ b5 ∧ b5 ≤ 1000000)
    (hg : Hid (((Int.gcd n1 d2 : Nat) : Int) = g)) (hh : Hid (((Int.gcd n2 d1 : Nat) : Int) = h)) (hg1 : 1 ≤ g) (hh1 : 1 ≤ h)
    (hN : Hid (n1.tdiv g * n2.tdiv h = N)) (hD : Hid (d1.tdiv h * d2.tdiv g = D)) (hN' : 9223372036854775807 < N.natAbs) (hD' : D.natAbs ≤ 9223372036854775807) :
    Calls Tryd.prog 85 #[.agg #[.int .i64 n1, .int .i64 d1, .int .i64 a2, .int .i64 a5], .pointer (some ⟨b, 0, none⟩)] w fun e w' => e = .returned (.tuple #[.agg #[.int .i64 0, .int .i64 0, .int .i64 0, .int .i64 0], .bool false]) ∧ Below w.heap.size w w' := by
  have t1 := tdiv_small n1 g hg1
  have t2 := tdiv_small n2 h hh1
  have t3 := tdiv_small d1 h hh1
  have t4 := tdiv_small d2 g hg1
  have q1 : -9223372036854775807 ≤ n1.tdiv g ∧ n1.tdiv g ≤ 9223372036854775807 := by omega
  have q2 : -9223372036854775807 ≤ n2.tdiv h ∧ n2.tdiv h ≤ 9223372036854775807 := by omega
  have q3 : -9223372036854775807 ≤ d1.tdiv h ∧ d1.tdiv h ≤ 9223372036854775807 := by omega
  have q4 : -9223372036854775807 ≤ d2.tdiv g ∧ d2.tdiv g ≤ 9223372036854775807 := by omega
  have zg : (g == 0) = false := by simp only [beq_eq_false_iff_ne]; omega
  have zh : (h == 0) = false := by simp only [beq_eq_false_iff_ne]; omega
  clear t1 t2 t3 t4
  have w1 : IntKind.i64.wrap (n1.tdiv g) = n1.tdiv g := IntWalk.i64_in _ ⟨by omega, by omega⟩
  have w2 : IntKind.i64.wrap (n2.tdiv h) = n2.tdiv h := IntWalk.i64_in _ ⟨by omega, by omega⟩
  have w3 : IntKind.i64.wrap (d1.tdiv h) = d1.tdiv h := IntWalk.i64_in _ ⟨by omega, by omega⟩
  have w4 : IntKind.i64.wrap (d2.tdiv g) = d2.tdiv g := IntWalk.i64_in _ ⟨by omega, by omega⟩
  have G1 : Hid (∀ W, Calls Tryd.prog 86 #[.int .i64 n1, .int .i64 d2] W fun e w' => e = .returned (.int .i64 g) ∧ ∃ n, w' = W.drewN n) := fun W => by
    have := gcd_yes n1 d2 W hn1 hd2 hn1' hd2'
    rw [hg.out] at this; exact this
  have G2 : Hid (∀ W, Calls Tryd.prog 86 #[.int .i64 n2, .int .i64 d1] W fun e w' => e = .returned (.int .i64 h) ∧ ∃ n, w' = W.drewN n) := fun W => by
    have := gcd_yes n2 d1 W hn2 hd1 hn2' hd1'
    rw [hh.out] at this; exact this
  have M1 : Hid (∀ W, Calls Tryd.prog 87 #[.int .i64 (n1.tdiv g), .int .i64 (n2.tdiv h)] W fun e w' => e = .returned (.tuple #[.int .i64 0, .bool false]) ∧ ∃ n, w' = W.drewN n) := fun W =>
    draws_none (mul_no _ _ W q1.2 q2.2 (by rw [hN.out]; omega))
  have M2 : Hid (∀ W, Calls Tryd.prog 87 #[.int .i64 (d1.tdiv h), .int .i64 (d2.tdiv g)] W fun e w' => e = .returned (.tuple #[.int .i64 D, .bool true]) ∧ ∃ n, w' = W.drewN n) := fun W =>
    draws_none (mul_core _ _ D W q3.1 q4.1 q3.2 q4.2 hD (by omega) (by omega))
  go_enter Tryd.func85, Tryd.ntmps85
  go_wp2
  go_quiet ((first
    | (go_at_call_of 86 (Value.int IntKind.i64 n1); exact Calls.quiet_of (G1.out _))
    | (go_at_call_of 86 (Value.int IntKind.i64 n2); exact Calls.quiet_of (G2.out _))))
  go_wp2
  go_quiet ((go_at_call 87; exact draws_more M1.out _ _ _))
  go_wp2
  go_quiet ((go_at_call 87; exact draws_more M2.out _ _ _))
  go_wp2
  refine bodyPost_ret (v := .tuple #[.agg #[.int .i64 0, .int .i64 0, .int .i64 0, .int .i64 0], .bool false]) (by simp [results, Tryd.results85, go_sem]) rfl ⟨rfl, ?_⟩
  go_grown
  exact below_drewN (by go_grown) _

set_option maxRecDepth 100000 in
set_option maxHeartbeats 2000000 in
theorem times1_no2 (n1 d1 a2 a5 n2 d2 b2 b5 g h N D : Int) (b : Nat) (w : World) (hbz : b < w.heap.size)
    (c0 : w.cell? ⟨b, 0, none⟩ = some (.int .i64 n2)) (c1 : w.cell? ⟨b, 1, none⟩ = some (.int .i64 d2)) (c2 : w.cell? ⟨b, 2, none⟩ = some (.int .i64 b2)) (c3 : w.cell? ⟨b, 3, none⟩ = some (.int .i64 b5))
    (hn1 : -9223372036854775807 ≤ n1) (hn1' : n1 ≤ 9223372036854775807) (hd1 : -9223372036854775807 ≤ d1) (hd1' : d1 ≤ 9223372036854775807) (hn2 : -9223372036854775807 ≤ n2) (hn2' : n2 ≤ 9223372036854775807) (hd2 : -9223372036854775807 ≤ d2) (hd2' : d2 ≤ 9223372036854775807)
    (ha2 : -1000000 ≤ a2 ∧ a2 ≤ 1000000) (ha5 : -1000000 ≤ a5 ∧ a5 ≤ 1000000) (hb2 : -1000000 ≤ b2 ∧ b2 ≤ 1000000) (hb5 : -1000000 ≤ b5 ∧ b5 ≤ 1000000)
    (hg : Hid (((Int.gcd n1 d2 : Nat) : Int) = g)) (hh : Hid (((Int.gcd n2 d1 : Nat) : Int) = h)) (hg1 : 1 ≤ g) (hh1 : 1 ≤ h)
    (hN : Hid (n1.tdiv g * n2.tdiv h = N)) (hD : Hid (d1.tdiv h * d2.tdiv g = D)) (hN' : N.natAbs ≤ 9223372036854775807) (hD' : 9223372036854775807 < D.natAbs) :
    Calls Tryd.prog 85 #[.agg #[.int .i64 n1, .int .i64 d1, .int .i64 a2, .int .i64 a5], .pointer (some ⟨b, 0, none⟩)] w fun e w' => e = .returned (.tuple #[.agg #[.int .i64 0, .int .i64 0, .int .i64 0, .int .i64 0], .bool false]) ∧ Below w.heap.size w w' := by
  have t1 := tdiv_small n1 g hg1
  have t2 := tdiv_small n2 h hh1
  have t3 := tdiv_small d1 h hh1
  have t4 := tdiv_small d2 g hg1
  have q1 : -9223372036854775807 ≤ n1.tdiv g ∧ n1.tdiv g ≤ 9223372036854775807 := by omega
  have q2 : -9223372036854775807 ≤ n2.tdiv h ∧ n2.tdiv h ≤ 9223372036854775807 := by omega
  have q3 : -9223372036854775807 ≤ d1.tdiv h ∧ d1.tdiv h ≤ 9223372036854775807 := by omega
  have q4 : -9223372036854775807 ≤ d2.tdiv g ∧ d2.tdiv g ≤ 9223372036854775807 := by omega
  have zg : (g == 0) = false := by simp only [beq_eq_false_iff_ne]; omega
  have zh : (h == 0) = false := by simp only [beq_eq_false_iff_ne]; omega
  clear t1 t2 t3 t4
  have w1 : IntKind.i64.wrap (n1.tdiv g) = n1.tdiv g := IntWalk.i64_in _ ⟨by omega, by omega⟩
  have w2 : IntKind.i64.wrap (n2.tdiv h) = n2.tdiv h := IntWalk.i64_in _ ⟨by omega, by omega⟩
  have w3 : IntKind.i64.wrap (d1.tdiv h) = d1.tdiv h := IntWalk.i64_in _ ⟨by omega, by omega⟩
  have w4 : IntKind.i64.wrap (d2.tdiv g) = d2.tdiv g := IntWalk.i64_in _ ⟨by omega, by omega⟩
  have G1 : Hid (∀ W, Calls Tryd.prog 86 #[.int .i64 n1, .int .i64 d2] W fun e w' => e = .returned (.int .i64 g) ∧ ∃ n, w' = W.drewN n) := fun W => by
    have := gcd_yes n1 d2 W hn1 hd2 hn1' hd2'
    rw [hg.out] at this; exact this
  have G2 : Hid (∀ W, Calls Tryd.prog 86 #[.int .i64 n2, .int .i64 d1] W fun e w' => e = .returned (.int .i64 h) ∧ ∃ n, w' = W.drewN n) := fun W => by
    have := gcd_yes n2 d1 W hn2 hd1 hn2' hd1'
    rw [hh.out] at this; exact this
  have M1 : Hid (∀ W, Calls Tryd.prog 87 #[.int .i64 (n1.tdiv g), .int .i64 (n2.tdiv h)] W fun e w' => e = .returned (.tuple #[.int .i64 N, .bool true]) ∧ ∃ n, w' = W.drewN n) := fun W =>
    draws_none (mul_core _ _ N W q1.1 q2.1 q1.2 q2.2 hN (by omega) (by omega))
  have M2 : Hid (∀ W, Calls Tryd.prog 87 #[.int .i64 (d1.tdiv h), .int .i64 (d2.tdiv g)] W fun e w' => e = .returned (.tuple #[.int .i64 0, .bool false]) ∧ ∃ n, w' = W.drewN n) := fun W =>
    draws_none (mul_no _ _ W q3.2 q4.2 (by rw [hD.out]; omega))
  go_enter Tryd.func85, Tryd.ntmps85
  go_wp2
  go_quiet ((first
    | (go_at_call_of 86 (Value.int IntKind.i64 n1); exact Calls.quiet_of (G1.out _))
    | (go_at_call_of 86 (Value.int IntKind.i64 n2); exact Calls.quiet_of (G2.out _))))
  go_wp2
  go_quiet ((go_at_call 87; exact draws_more M1.out _ _ _))
  go_wp2
  go_quiet ((go_at_call 87; exact draws_more M2.out _ _ _))
  go_wp2
  refine bodyPost_ret (v := .tuple #[.agg #[.int .i64 0, .int .i64 0, .int .i64 0, .int .i64 0], .bool false]) (by simp [results, Tryd.results85, go_sem]) rfl ⟨rfl, ?_⟩
  go_grown
  exact below_drewN (by go_grown) _

set_option maxRecDepth 100000 in
set_option maxHeartbeats 2000000 in
theorem times1_no3 (n1 d1 a2 a5 n2 d2 b2 b5 g h N D : Int) (b : Nat) (w : World) (hbz : b < w.heap.size)
    (c0 : w.cell? ⟨b, 0, none⟩ = some (.int .i64 n2)) (c1 : w.cell? ⟨b, 1, none⟩ = some (.int .i64 d2)) (c2 : w.cell? ⟨b, 2, none⟩ = some (.int .i64 b2)) (c3 : w.cell? ⟨b, 3, none⟩ = some (.int .i64 b5))
    (hn1 : -9223372036854775807 ≤ n1) (hn1' : n1 ≤ 9223372036854775807) (hd1 : -9223372036854775807 ≤ d1) (hd1' : d1 ≤ 9223372036854775807) (hn2 : -9223372036854775807 ≤ n2) (hn2' : n2 ≤ 9223372036854775807) (hd2 : -9223372036854775807 ≤ d2) (hd2' : d2 ≤ 9223372036854775807)
    (ha2 : -1000000 ≤ a2 ∧ a2 ≤ 1000000) (ha5 : -1000000 ≤ a5 ∧ a5 ≤ 1000000) (hb2 : -1000000 ≤ b2 ∧ b2 ≤ 1000000) (hb5 : -1000000 ≤ b5 ∧ b5 ≤ 1000000)
    (hg : Hid (((Int.gcd n1 d2 : Nat) : Int) = g)) (hh : Hid (((Int.gcd n2 d1 : Nat) : Int) = h)) (hg1 : 1 ≤ g) (hh1 : 1 ≤ h)
    (hN : Hid (n1.tdiv g * n2.tdiv h = N)) (hD : Hid (d1.tdiv h * d2.tdiv g = D)) (hN' : 9223372036854775807 < N.natAbs) (hD' : 9223372036854775807 < D.natAbs) :
    Calls Tryd.prog 85 #[.agg #[.int .i64 n1, .int .i64 d1, .int .i64 a2, .int .i64 a5], .pointer (some ⟨b, 0, none⟩)] w fun e w' => e = .returned (.tuple #[.agg #[.int .i64 0, .int .i64 0, .int .i64 0, .int .i64 0], .bool false]) ∧ Below w.heap.size w w' := by
  have t1 := tdiv_small n1 g hg1
  have t2 := tdiv_small n2 h hh1
  have t3 := tdiv_small d1 h hh1
  have t4 := tdiv_small d2 g hg1
  have q1 : -9223372036854775807 ≤ n1.tdiv g ∧ n1.tdiv g ≤ 9223372036854775807 := by omega
  have q2 : -9223372036854775807 ≤ n2.tdiv h ∧ n2.tdiv h ≤ 9223372036854775807 := by omega
  have q3 : -9223372036854775807 ≤ d1.tdiv h ∧ d1.tdiv h ≤ 9223372036854775807 := by omega
  have q4 : -9223372036854775807 ≤ d2.tdiv g ∧ d2.tdiv g ≤ 9223372036854775807 := by omega
  have zg : (g == 0) = false := by simp only [beq_eq_false_iff_ne]; omega
  have zh : (h == 0) = false := by simp only [beq_eq_false_iff_ne]; omega
  clear t1 t2 t3 t4
  have w1 : IntKind.i64.wrap (n1.tdiv g) = n1.tdiv g := IntWalk.i64_in _ ⟨by omega, by omega⟩
  have w2 : IntKind.i64.wrap (n2.tdiv h) = n2.tdiv h := IntWalk.i64_in _ ⟨by omega, by omega⟩
  have w3 : IntKind.i64.wrap (d1.tdiv h) = d1.tdiv h := IntWalk.i64_in _ ⟨by omega, by omega⟩
  have w4 : IntKind.i64.wrap (d2.tdiv g) = d2.tdiv g := IntWalk.i64_in _ ⟨by omega, by omega⟩
  have G1 : Hid (∀ W, Calls Tryd.prog 86 #[.int .i64 n1, .int .i64 d2] W fun e w' => e = .returned (.int .i64 g) ∧ ∃ n, w' = W.drewN n) := fun W => by
    have := gcd_yes n1 d2 W hn1 hd2 hn1' hd2'
    rw [hg.out] at this; exact this
  have G2 : Hid (∀ W, Calls Tryd.prog 86 #[.int .i64 n2, .int .i64 d1] W fun e w' => e = .returned (.int .i64 h) ∧ ∃ n, w' = W.drewN n) := fun W => by
    have := gcd_yes n2 d1 W hn2 hd1 hn2' hd1'
    rw [hh.out] at this; exact this
  have M1 : Hid (∀ W, Calls Tryd.prog 87 #[.int .i64 (n1.tdiv g), .int .i64 (n2.tdiv h)] W fun e w' => e = .returned (.tuple #[.int .i64 0, .bool false]) ∧ ∃ n, w' = W.drewN n) := fun W =>
    draws_none (mul_no _ _ W q1.2 q2.2 (by rw [hN.out]; omega))
  have M2 : Hid (∀ W, Calls Tryd.prog 87 #[.int .i64 (d1.tdiv h), .int .i64 (d2.tdiv g)] W fun e w' => e = .returned (.tuple #[.int .i64 0, .bool false]) ∧ ∃ n, w' = W.drewN n) := fun W =>
    draws_none (mul_no _ _ W q3.2 q4.2 (by rw [hD.out]; omega))
  go_enter Tryd.func85, Tryd.ntmps85
  go_wp2
  go_quiet ((first
    | (go_at_call_of 86 (Value.int IntKind.i64 n1); exact Calls.quiet_of (G1.out _))
    | (go_at_call_of 86 (Value.int IntKind.i64 n2); exact Calls.quiet_of (G2.out _))))
  go_wp2
  go_quiet ((go_at_call 87; exact draws_more M1.out _ _ _))
  go_wp2
  go_quiet ((go_at_call 87; exact draws_more M2.out _ _ _))
  go_wp2
  refine bodyPost_ret (v := .tuple #[.agg #[.int .i64 0, .int .i64 0, .int .i64 0, .int .i64 0], .bool false]) (by simp [results, Tryd.results85, go_sem]) rfl ⟨rfl, ?_⟩
  go_grown
  exact below_drewN (by go_grown) _

end Go.Proofs.YtjklbnakgkffnaaDoor.Frac

/-
  Contracts of the document's answer for exact numbers, fourth part: drachmref02.times, Mul, Div; each by one Lean function of the numbers; the world below stays as it was.
-/
import Derived.Test.YtndinbefljajcaaGreatDoorGA
import Derived.Test.YtndinbefljajcaaGreatDoorFP
import Derived.Deep.RegionHeld3
namespace Go.Proofs.YtndinbefljajcaaGreatDoor.Frac
open Go.RowKit
open Go.Proofs.YtndinbefljajcaaGreatDoor.Whole
set_option linter.unusedVariables false
set_option linter.unusedSimpArgs false

/-- In the world v the block b holds a number, and whether there is one. -/
def LiesM (v : World) (b : Nat) (n : Int) (ok : Bool) : Prop := v.cell? ⟨b, 0, none⟩ = some (.int .i64 n) ∧ v.cell? ⟨b, 1, none⟩ = some (.bool ok) ∧ b < v.heap.size
theorem LiesM.below {v v' : World} {b : Nat} {n : Int} {ok : Bool} (h : LiesM v b n ok) (hb : Below v.heap.size v v') : LiesM v' b n ok := by
  obtain ⟨h0, h1, hz⟩ := h
  exact ⟨(hb.cell (p := ⟨b, 0, none⟩) hz).trans h0, (hb.cell (p := ⟨b, 1, none⟩) hz).trans h1, by have := hb.size; omega⟩
theorem LiesM.new2 (w : World) (n : Int) (ok : Bool) : LiesM (((w.alloc (.cells #[.int .i64 n, .bool ok] 112)).alloc (.cells #[.int .i64 n, .bool ok] 112)).drew) (w.heap.size + 1) n ok := by
  refine ⟨?_, ?_, ?_⟩
  all_goals simp [go_sem]

theorem LiesM.new1 (w : World) (n : Int) (ok : Bool) : LiesM (((w.alloc (.cells #[.int .i64 n, .bool ok] 112)).alloc (.cells #[.int .i64 n, .bool ok] 112)).drew) w.heap.size n ok := by
  refine ⟨?_, ?_, ?_⟩
  all_goals simp [go_sem]

/-- How the world stands within the document's times: both numbers in boxes, and room for the answer. -/
def TimesAt (w v : World) (x y : Sp) : Prop := Below w.heap.size w v ∧ LiesS v w.heap.size x ∧ LiesS v (w.heap.size + 1) y ∧ RoomG v (w.heap.size + 1 + 1)

theorem TimesAt.below {w v v' : World} {x y : Sp} (h : TimesAt w v x y) (hb : Below v.heap.size v v') : TimesAt w v' x y := by
  obtain ⟨h1, h2, h3, h4⟩ := h
  exact ⟨Below.go h1 hb, h2.below hb h2.2.2.2.2.2, h3.below hb h3.2.2.2.2.2, h4.below hb h4.2.2.2.2.2⟩

theorem TimesAt.drew {w v : World} {x y : Sp} (h : TimesAt w v x y) : TimesAt w v.drew x y := h.below (by go_grown)
theorem TimesAt.put {w v : World} {x y : Sp} {o : Obj} (h : TimesAt w v x y) : TimesAt w (v.alloc o) x y := h.below (by go_grown)

theorem TimesAt.new (w : World) (x y : Sp) : TimesAt w (((w.alloc (.cells #[.int .i64 x.s, .int .i64 x.p, .int .i64 x.q, .int .i64 x.two, .int .i64 x.five] 77)).alloc (.cells #[.int .i64 y.s, .int .i64 y.p, .int .i64 y.q, .int .i64 y.two, .int .i64 y.five] 77)).alloc (.cells #[.int .i64 0, .int .i64 0, .int .i64 0, .int .i64 0] 49)) x y := by
  refine ⟨by go_grown, ⟨?_, ?_, ?_, ?_, ?_, ?_⟩, ⟨?_, ?_, ?_, ?_, ?_, ?_⟩, ⟨?_, ?_, ?_, ?_, fun j => ?_, ?_⟩⟩
  all_goals simp [go_sem]

theorem TimesAt.cells {w v : World} {x y : Sp} (h : TimesAt w v x y) :
    v.cell? ⟨w.heap.size, 0, none⟩ = some (.int .i64 x.s) ∧ v.cell? ⟨w.heap.size, 1, none⟩ = some (.int .i64 x.p) ∧ v.cell? ⟨w.heap.size, 2, none⟩ = some (.int .i64 x.q) ∧ v.cell? ⟨w.heap.size + 1, 0, none⟩ = some (.int .i64 y.s) ∧ v.cell? ⟨w.heap.size + 1, 1, none⟩ = some (.int .i64 y.p) ∧ v.cell? ⟨w.heap.size + 1, 2, none⟩ = some (.int .i64 y.q) := by
  obtain ⟨_, ⟨h1, h2, h3, _⟩, ⟨h4, h5, h6, _⟩, _⟩ := h
  exact ⟨h1, h2, h3, h4, h5, h6⟩

set_option maxRecDepth 100000 in
set_option maxHeartbeats 2000000 in
theorem rtimes_yes (s1 p1 u1 a2 a5 s2 p2 u2 b2 b5 ten g h N D : Int) (w : World) (hs1 : s1 = 1 ∨ s1 = -1) (hs2 : s2 = 1 ∨ s2 = -1)
    (h1 : -9223372036854775807 ≤ p1 ∧ p1 ≤ 9223372036854775807) (h2 : -9223372036854775807 ≤ u1 ∧ u1 ≤ 9223372036854775807) (h3 : -9223372036854775807 ≤ p2 ∧ p2 ≤ 9223372036854775807) (h4 : -9223372036854775807 ≤ u2 ∧ u2 ≤ 9223372036854775807)
    (ha2 : -400000 ≤ a2 ∧ a2 ≤ 400000) (ha5 : -400000 ≤ a5 ∧ a5 ≤ 400000) (hb2 : -400000 ≤ b2 ∧ b2 ≤ 400000) (hb5 : -400000 ≤ b5 ∧ b5 ≤ 400000) (ht : -9223372036854775808 ≤ ten) (ht' : ten ≤ 9223372036854775807)
    (hg : Hid (((Int.gcd p1 u2 : Nat) : Int) = g)) (hh : Hid (((Int.gcd p2 u1 : Nat) : Int) = h)) (hg1 : 1 ≤ g) (hh1 : 1 ≤ h)
    (hN : Hid (p1.tdiv g * p2.tdiv h = N)) (hD : Hid (u1.tdiv h * u2.tdiv g = D)) (hN1 : 1 ≤ N) (hD1 : 1 ≤ D) (hN' : N ≤ 9223372036854775807) (hD' : D ≤ 9223372036854775807) :
    Calls Tryz.prog 78 #[.agg #[.int .i64 s1, .int .i64 p1, .int .i64 u1, .int .i64 a2, .int .i64 a5], .agg #[.int .i64 s2, .int .i64 p2, .int .i64 u2, .int .i64 b2, .int .i64 b5], .int .i64 ten] w fun e w' => e = .returned (formS ⟨s1 * s2, N, D, a2 + b2, a5 + b5⟩ ten).r ∧ Below w.heap.size w w' := by
  have t1 := tdiv_small p1 g hg1
  have t2 := tdiv_small p2 h hh1
  have t3 := tdiv_small u1 h hh1
  have t4 := tdiv_small u2 g hg1
  have q1 : -9223372036854775807 ≤ p1.tdiv g ∧ p1.tdiv g ≤ 9223372036854775807 := by omega
  have q2 : -9223372036854775807 ≤ p2.tdiv h ∧ p2.tdiv h ≤ 9223372036854775807 := by omega
  have q3 : -9223372036854775807 ≤ u1.tdiv h ∧ u1.tdiv h ≤ 9223372036854775807 := by omega
  have q4 : -9223372036854775807 ≤ u2.tdiv g ∧ u2.tdiv g ≤ 9223372036854775807 := by omega
  have zg : (g == 0) = false := by simp only [beq_eq_false_iff_ne]; omega
  have zh : (h == 0) = false := by simp only [beq_eq_false_iff_ne]; omega
  have yg : ¬ g = 0 := by omega
  have yh : ¬ h = 0 := by omega
  clear t1 t2 t3 t4
  have M1 : Hid (∀ W, Calls Tryz.prog 72 #[.int .i64 (p1.tdiv g), .int .i64 (p2.tdiv h)] W fun e w' => e = .returned (.agg #[.int .i64 N, .bool true]) ∧ W.alloc (.cells #[.int .i64 N, .bool true] 112) = w') := fun W => by
    have := rmul_yes (p1.tdiv g) (p2.tdiv h) W q1.1 q2.1 q1.2 q2.2 (by rw [hN.out]; omega) (by rw [hN.out]; omega); rw [hN.out] at this; exact this
  have M2 : Hid (∀ W, Calls Tryz.prog 72 #[.int .i64 (u1.tdiv h), .int .i64 (u2.tdiv g)] W fun e w' => e = .returned (.agg #[.int .i64 D, .bool true]) ∧ W.alloc (.cells #[.int .i64 D, .bool true] 112) = w') := fun W => by
    have := rmul_yes (u1.tdiv h) (u2.tdiv g) W q3.1 q4.1 q3.2 q4.2 (by rw [hD.out]; omega) (by rw [hD.out]; omega); rw [hD.out] at this; exact this
  have w1 : IntKind.i64.wrap (p1.tdiv g) = p1.tdiv g := IntWalk.i64_in _ ⟨by omega, by omega⟩
  have w2 : IntKind.i64.wrap (p2.tdiv h) = p2.tdiv h := IntWalk.i64_in _ ⟨by omega, by omega⟩
  have w3 : IntKind.i64.wrap (u1.tdiv h) = u1.tdiv h := IntWalk.i64_in _ ⟨by omega, by omega⟩
  have w4 : IntKind.i64.wrap (u2.tdiv g) = u2.tdiv g := IntWalk.i64_in _ ⟨by omega, by omega⟩
  have hA := TimesAt.new w ⟨s1, p1, u1, a2, a5⟩ ⟨s2, p2, u2, b2, b5⟩
  go_enter Tryz.func78, Tryz.ntmps78
  go_wp2_with fail
  refine (rgcd_yes _ _ _ h1.1 h4.1 h1.2 h4.2).mono ?_
  rintro e w' ⟨rfl, rfl⟩
  rw [hg.out]
  go_wp2_with fail
  refine (rgcd_yes _ _ _ h3.1 h2.1 h3.2 h2.2).mono ?_
  rintro e w' ⟨rfl, rfl⟩
  rw [hh.out]
  go_wp2_with fail
  generalize ((w.alloc (.cells #[.int .i64 s1, .int .i64 p1, .int .i64 u1, .int .i64 a2, .int .i64 a5] 77)).alloc (.cells #[.int .i64 s2, .int .i64 p2, .int .i64 u2, .int .i64 b2, .int .i64 b5] 77)).alloc (.cells #[.int .i64 0, .int .i64 0, .int .i64 0, .int .i64 0] 49) = W at *
  go_region_held3 (fun v => v.cell? ⟨w.heap.size, 0, none⟩ = some (.int .i64 s1) ∧ v.cell? ⟨w.heap.size, 1, none⟩ = some (.int .i64 p1) ∧ v.cell? ⟨w.heap.size, 2, none⟩ = some (.int .i64 u1) ∧ v.cell? ⟨w.heap.size + 1, 0, none⟩ = some (.int .i64 s2) ∧ v.cell? ⟨w.heap.size + 1, 1, none⟩ = some (.int .i64 p2) ∧ v.cell? ⟨w.heap.size + 1, 2, none⟩ = some (.int .i64 u2))
    (first | exact hA.cells | exact hA.drew.cells | exact hA.drew.put.cells | exact hA.drew.put.put.cells | go_keep)
    (first | (go_at_call 72; refine (M1.out _).mono ?_; rintro e w' ⟨rfl, rfl⟩))
  all_goals go_wp2_with fail
  all_goals
    have hA' : TimesAt w (((W.alloc (.cells #[.int .i64 N, .bool true] 112)).alloc (.cells #[.int .i64 N, .bool true] 112)).drew) ⟨s1, p1, u1, a2, a5⟩ ⟨s2, p2, u2, b2, b5⟩ := hA.put.put.drew
    clear hA
    have hX1 := LiesM.new1 W N true
    have hX2 := LiesM.new2 W N true
    generalize ((W.alloc (.cells #[.int .i64 N, .bool true] 112)).alloc (.cells #[.int .i64 N, .bool true] 112)).drew = W2 at *
    go_region_held3 (fun v => v.cell? ⟨w.heap.size, 0, none⟩ = some (.int .i64 s1) ∧ v.cell? ⟨w.heap.size, 1, none⟩ = some (.int .i64 p1) ∧ v.cell? ⟨w.heap.size, 2, none⟩ = some (.int .i64 u1) ∧ v.cell? ⟨w.heap.size + 1, 0, none⟩ = some (.int .i64 s2) ∧ v.cell? ⟨w.heap.size + 1, 1, none⟩ = some (.int .i64 p2) ∧ v.cell? ⟨w.heap.size + 1, 2, none⟩ = some (.int .i64 u2))
      (first | exact hA'.cells | exact hA'.drew.cells | exact hA'.drew.put.cells | exact hA'.drew.put.put.cells | go_keep)
      (first | (go_at_call 72; refine (M2.out _).mono ?_; rintro e w' ⟨rfl, rfl⟩))
  all_goals
    have hA : TimesAt w (((W2.alloc (.cells #[.int .i64 D, .bool true] 112)).alloc (.cells #[.int .i64 D, .bool true] 112)).drew) ⟨s1, p1, u1, a2, a5⟩ ⟨s2, p2, u2, b2, b5⟩ := hA'.put.put.drew
    clear hA'
    have hY1 := LiesM.new1 W2 D true
    have hY2 := LiesM.new2 W2 D true
    replace hX1 : LiesM (((W2.alloc (.cells #[.int .i64 D, .bool true] 112)).alloc (.cells #[.int .i64 D, .bool true] 112)).drew) W.heap.size N true := hX1.below (by go_grown)
    replace hX2 : LiesM (((W2.alloc (.cells #[.int .i64 D, .bool true] 112)).alloc (.cells #[.int .i64 D, .bool true] 112)).drew) (W.heap.size + 1) N true := hX2.below (by go_grown)
    generalize ((W2.alloc (.cells #[.int .i64 D, .bool true] 112)).alloc (.cells #[.int .i64 D, .bool true] 112)).drew = W3 at *
    clear M1 M2 w1 w2 w3 w4 q1 q2 q3 q4 zg zh yg yh
    obtain ⟨hB, ⟨c0, c1, c2, c3, c4, _⟩, ⟨d0, d1, d2, d3, d4, _⟩, r0, r1, r2, r3, rf, rz⟩ := id hA
    obtain ⟨i0, i1, iz⟩ := id hX1
    obtain ⟨j0, j1, jz⟩ := id hX2
    obtain ⟨k0, k1, kz⟩ := id hY1
    obtain ⟨l0, l1, lz⟩ := id hY2
    have hsm : -1 ≤ s1 * s2 ∧ s1 * s2 ≤ 1 := by rcases hs1 with rfl | rfl <;> rcases hs2 with rfl | rfl <;> decide
    go_wp2_with fail
    clear i0 i1 iz j0 j1 jz k0 k1 kz l0 l1 lz hX1 hX2 hY1 hY2 c0 c1 c2 c3 c4 d0 d1 d2 d3 d4 r0 r1 r2 r3 rf rz hsm hB
    refine (rform_any ⟨s1 * s2, N, D, a2 + b2, a5 + b5⟩ ten _ ⟨sign_mul_cases _ _ hs1 hs2, hN1, hN', hD1, hD', by show -1000000 ≤ a2 + b2; omega, by show a2 + b2 ≤ 1000000; omega, by show -1000000 ≤ a5 + b5; omega, by show a5 + b5 ≤ 1000000; omega⟩ ht ht').mono ?_
    rintro e w6 ⟨rfl, hb⟩
    replace hA := hA.below hb
    obtain ⟨hB, _, _, r0, r1, r2, r3, rf, rz⟩ := id hA
    clear hb
    generalize hG : formS ⟨s1 * s2, N, D, a2 + b2, a5 + b5⟩ ten = G
    have HG := Lib.hid hG
    clear hG
    unfold Got.r
    go_wp2
    refine bodyPost_ret (v := G.r) (by simp [results, Tryz.results78, go_sem, Got.r, r0, r1, r2, r3, rz]) rfl ⟨by rw [HG.out], ?_⟩
    go_grown

set_option maxRecDepth 100000 in
set_option maxHeartbeats 2000000 in
theorem rtimes_no1 (s1 p1 u1 a2 a5 s2 p2 u2 b2 b5 ten g h N D : Int) (w : World) (hs1 : s1 = 1 ∨ s1 = -1) (hs2 : s2 = 1 ∨ s2 = -1)
    (h1 : -9223372036854775807 ≤ p1 ∧ p1 ≤ 9223372036854775807) (h2 : -9223372036854775807 ≤ u1 ∧ u1 ≤ 9223372036854775807) (h3 : -9223372036854775807 ≤ p2 ∧ p2 ≤ 9223372036854775807) (h4 : -9223372036854775807 ≤ u2 ∧ u2 ≤ 9223372036854775807)
    (ha2 : -400000 ≤ a2 ∧ a2 ≤ 400000) (ha5 : -400000 ≤ a5 ∧ a5 ≤ 400000) (hb2 : -400000 ≤ b2 ∧ b2 ≤ 400000) (hb5 : -400000 ≤ b5 ∧ b5 ≤ 400000) (ht : -9223372036854775808 ≤ ten) (ht' : ten ≤ 9223372036854775807)
    (hg : Hid (((Int.gcd p1 u2 : Nat) : Int) = g)) (hh : Hid (((Int.gcd p2 u1 : Nat) : Int) = h)) (hg1 : 1 ≤ g) (hh1 : 1 ≤ h)
    (hN : Hid (p1.tdiv g * p2.tdiv h = N)) (hD : Hid (u1.tdiv h * u2.tdiv g = D)) (hN1 : 1 ≤ N) (hD1 : 1 ≤ D) (hN' : 9223372036854775807 < N) (hD' : D ≤ 9223372036854775807) :
    Calls Tryz.prog 78 #[.agg #[.int .i64 s1, .int .i64 p1, .int .i64 u1, .int .i64 a2, .int .i64 a5], .agg #[.int .i64 s2, .int .i64 p2, .int .i64 u2, .int .i64 b2, .int .i64 b5], .int .i64 ten] w fun e w' => e = .returned over.r ∧ Below w.heap.size w w' := by
  have t1 := tdiv_small p1 g hg1
  have t2 := tdiv_small p2 h hh1
  have t3 := tdiv_small u1 h hh1
  have t4 := tdiv_small u2 g hg1
  have q1 : -9223372036854775807 ≤ p1.tdiv g ∧ p1.tdiv g ≤ 9223372036854775807 := by omega
  have q2 : -9223372036854775807 ≤ p2.tdiv h ∧ p2.tdiv h ≤ 9223372036854775807 := by omega
  have q3 : -9223372036854775807 ≤ u1.tdiv h ∧ u1.tdiv h ≤ 9223372036854775807 := by omega
  have q4 : -9223372036854775807 ≤ u2.tdiv g ∧ u2.tdiv g ≤ 9223372036854775807 := by omega
  have zg : (g == 0) = false := by simp only [beq_eq_false_iff_ne]; omega
  have zh : (h == 0) = false := by simp only [beq_eq_false_iff_ne]; omega
  have yg : ¬ g = 0 := by omega
  have yh : ¬ h = 0 := by omega
  clear t1 t2 t3 t4
  have M1 : Hid (∀ W, Calls Tryz.prog 72 #[.int .i64 (p1.tdiv g), .int .i64 (p2.tdiv h)] W fun e w' => e = .returned (.agg #[.int .i64 0, .bool false]) ∧ W.alloc (.cells #[.int .i64 0, .bool false] 112) = w') := fun W => by
    exact rmul_no _ _ W q1.2 q2.2 (.inr (.inr (by rw [hN.out]; omega)))
  have M2 : Hid (∀ W, Calls Tryz.prog 72 #[.int .i64 (u1.tdiv h), .int .i64 (u2.tdiv g)] W fun e w' => e = .returned (.agg #[.int .i64 D, .bool true]) ∧ W.alloc (.cells #[.int .i64 D, .bool true] 112) = w') := fun W => by
    have := rmul_yes (u1.tdiv h) (u2.tdiv g) W q3.1 q4.1 q3.2 q4.2 (by rw [hD.out]; omega) (by rw [hD.out]; omega); rw [hD.out] at this; exact this
  have w1 : IntKind.i64.wrap (p1.tdiv g) = p1.tdiv g := IntWalk.i64_in _ ⟨by omega, by omega⟩
  have w2 : IntKind.i64.wrap (p2.tdiv h) = p2.tdiv h := IntWalk.i64_in _ ⟨by omega, by omega⟩
  have w3 : IntKind.i64.wrap (u1.tdiv h) = u1.tdiv h := IntWalk.i64_in _ ⟨by omega, by omega⟩
  have w4 : IntKind.i64.wrap (u2.tdiv g) = u2.tdiv g := IntWalk.i64_in _ ⟨by omega, by omega⟩
  have hA := TimesAt.new w ⟨s1, p1, u1, a2, a5⟩ ⟨s2, p2, u2, b2, b5⟩
  go_enter Tryz.func78, Tryz.ntmps78
  go_wp2_with fail
  refine (rgcd_yes _ _ _ h1.1 h4.1 h1.2 h4.2).mono ?_
  rintro e w' ⟨rfl, rfl⟩
  rw [hg.out]
  go_wp2_with fail
  refine (rgcd_yes _ _ _ h3.1 h2.1 h3.2 h2.2).mono ?_
  rintro e w' ⟨rfl, rfl⟩
  rw [hh.out]
  go_wp2_with fail
  generalize ((w.alloc (.cells #[.int .i64 s1, .int .i64 p1, .int .i64 u1, .int .i64 a2, .int .i64 a5] 77)).alloc (.cells #[.int .i64 s2, .int .i64 p2, .int .i64 u2, .int .i64 b2, .int .i64 b5] 77)).alloc (.cells #[.int .i64 0, .int .i64 0, .int .i64 0, .int .i64 0] 49) = W at *
  go_region_held3 (fun v => v.cell? ⟨w.heap.size, 0, none⟩ = some (.int .i64 s1) ∧ v.cell? ⟨w.heap.size, 1, none⟩ = some (.int .i64 p1) ∧ v.cell? ⟨w.heap.size, 2, none⟩ = some (.int .i64 u1) ∧ v.cell? ⟨w.heap.size + 1, 0, none⟩ = some (.int .i64 s2) ∧ v.cell? ⟨w.heap.size + 1, 1, none⟩ = some (.int .i64 p2) ∧ v.cell? ⟨w.heap.size + 1, 2, none⟩ = some (.int .i64 u2))
    (first | exact hA.cells | exact hA.drew.cells | exact hA.drew.put.cells | exact hA.drew.put.put.cells | go_keep)
    (first | (go_at_call 72; refine (M1.out _).mono ?_; rintro e w' ⟨rfl, rfl⟩))
  all_goals go_wp2_with fail
  all_goals
    have hA' : TimesAt w (((W.alloc (.cells #[.int .i64 0, .bool false] 112)).alloc (.cells #[.int .i64 0, .bool false] 112)).drew) ⟨s1, p1, u1, a2, a5⟩ ⟨s2, p2, u2, b2, b5⟩ := hA.put.put.drew
    clear hA
    have hX1 := LiesM.new1 W 0 false
    have hX2 := LiesM.new2 W 0 false
    generalize ((W.alloc (.cells #[.int .i64 0, .bool false] 112)).alloc (.cells #[.int .i64 0, .bool false] 112)).drew = W2 at *
    go_region_held3 (fun v => v.cell? ⟨w.heap.size, 0, none⟩ = some (.int .i64 s1) ∧ v.cell? ⟨w.heap.size, 1, none⟩ = some (.int .i64 p1) ∧ v.cell? ⟨w.heap.size, 2, none⟩ = some (.int .i64 u1) ∧ v.cell? ⟨w.heap.size + 1, 0, none⟩ = some (.int .i64 s2) ∧ v.cell? ⟨w.heap.size + 1, 1, none⟩ = some (.int .i64 p2) ∧ v.cell? ⟨w.heap.size + 1, 2, none⟩ = some (.int .i64 u2))
      (first | exact hA'.cells | exact hA'.drew.cells | exact hA'.drew.put.cells | exact hA'.drew.put.put.cells | go_keep)
      (first | (go_at_call 72; refine (M2.out _).mono ?_; rintro e w' ⟨rfl, rfl⟩))
  all_goals
    have hA : TimesAt w (((W2.alloc (.cells #[.int .i64 D, .bool true] 112)).alloc (.cells #[.int .i64 D, .bool true] 112)).drew) ⟨s1, p1, u1, a2, a5⟩ ⟨s2, p2, u2, b2, b5⟩ := hA'.put.put.drew
    clear hA'
    have hY1 := LiesM.new1 W2 D true
    have hY2 := LiesM.new2 W2 D true
    replace hX1 : LiesM (((W2.alloc (.cells #[.int .i64 D, .bool true] 112)).alloc (.cells #[.int .i64 D, .bool true] 112)).drew) W.heap.size 0 false := hX1.below (by go_grown)
    replace hX2 : LiesM (((W2.alloc (.cells #[.int .i64 D, .bool true] 112)).alloc (.cells #[.int .i64 D, .bool true] 112)).drew) (W.heap.size + 1) 0 false := hX2.below (by go_grown)
    generalize ((W2.alloc (.cells #[.int .i64 D, .bool true] 112)).alloc (.cells #[.int .i64 D, .bool true] 112)).drew = W3 at *
    clear M1 M2 w1 w2 w3 w4 q1 q2 q3 q4 zg zh yg yh
    obtain ⟨hB, ⟨c0, c1, c2, c3, c4, _⟩, ⟨d0, d1, d2, d3, d4, _⟩, r0, r1, r2, r3, rf, rz⟩ := id hA
    obtain ⟨i0, i1, iz⟩ := id hX1
    obtain ⟨j0, j1, jz⟩ := id hX2
    obtain ⟨k0, k1, kz⟩ := id hY1
    obtain ⟨l0, l1, lz⟩ := id hY2
    go_wp2
    refine bodyPost_ret (v := over.r) (by simp [results, Tryz.results78, go_sem, over, Got.r, r0, r1, r2, r3, rz]) rfl ⟨rfl, ?_⟩
    go_grown

set_option maxRecDepth 100000 in
set_option maxHeartbeats 2000000 in
theorem rtimes_no2 (s1 p1 u1 a2 a5 s2 p2 u2 b2 b5 ten g h N D : Int) (w : World) (hs1 : s1 = 1 ∨ s1 = -1) (hs2 : s2 = 1 ∨ s2 = -1)
    (h1 : -9223372036854775807 ≤ p1 ∧ p1 ≤ 9223372036854775807) (h2 : -9223372036854775807 ≤ u1 ∧ u1 ≤ 9223372036854775807) (h3 : -9223372036854775807 ≤ p2 ∧ p2 ≤ 9223372036854775807) (h4 : -9223372036854775807 ≤ u2 ∧ u2 ≤ 9223372036854775807)
    (ha2 : -400000 ≤ a2 ∧ a2 ≤ 400000) (ha5 : -400000 ≤ a5 ∧ a5 ≤ 400000) (hb2 : -400000 ≤ b2 ∧ b2 ≤ 400000) (hb5 : -400000 ≤ b5 ∧ b5 ≤ 400000) (ht : -9223372036854775808 ≤ ten) (ht' : ten ≤ 9223372036854775807)
    (hg : Hid (((Int.gcd p1 u2 : Nat) : Int) = g)) (hh : Hid (((Int.gcd p2 u1 : Nat) : Int) = h)) (hg1 : 1 ≤ g) (hh1 : 1 ≤ h)
    (hN : Hid (p1.tdiv g * p2.tdiv h = N)) (hD : Hid (u1.tdiv h * u2.tdiv g = D)) (hN1 : 1 ≤ N) (hD1 : 1 ≤ D) (hN' : N ≤ 9223372036854775807) (hD' : 9223372036854775807 < D) :
    Calls Tryz.prog 78 #[.agg #[.int .i64 s1, .int .i64 p1, .int .i64 u1, .int .i64 a2, .int .i64 a5], .agg #[.int .i64 s2, .int .i64 p2, .int .i64 u2, .int .i64 b2, .int .i64 b5], .int .i64 ten] w fun e w' => e = .returned over.r ∧ Below w.heap.size w w' := by
  have t1 := tdiv_small p1 g hg1
  have t2 := tdiv_small p2 h hh1
  have t3 := tdiv_small u1 h hh1
  have t4 := tdiv_small u2 g hg1
  have q1 : -9223372036854775807 ≤ p1.tdiv g ∧ p1.tdiv g ≤ 9223372036854775807 := by omega
  have q2 : -9223372036854775807 ≤ p2.tdiv h ∧ p2.tdiv h ≤ 9223372036854775807 := by omega
  have q3 : -9223372036854775807 ≤ u1.tdiv h ∧ u1.tdiv h ≤ 9223372036854775807 := by omega
  have q4 : -9223372036854775807 ≤ u2.tdiv g ∧ u2.tdiv g ≤ 9223372036854775807 := by omega
  have zg : (g == 0) = false := by simp only [beq_eq_false_iff_ne]; omega
  have zh : (h == 0) = false := by simp only [beq_eq_false_iff_ne]; omega
  have yg : ¬ g = 0 := by omega
  have yh : ¬ h = 0 := by omega
  clear t1 t2 t3 t4
  have M1 : Hid (∀ W, Calls Tryz.prog 72 #[.int .i64 (p1.tdiv g), .int .i64 (p2.tdiv h)] W fun e w' => e = .returned (.agg #[.int .i64 N, .bool true]) ∧ W.alloc (.cells #[.int .i64 N, .bool true] 112) = w') := fun W => by
    have := rmul_yes (p1.tdiv g) (p2.tdiv h) W q1.1 q2.1 q1.2 q2.2 (by rw [hN.out]; omega) (by rw [hN.out]; omega); rw [hN.out] at this; exact this
  have M2 : Hid (∀ W, Calls Tryz.prog 72 #[.int .i64 (u1.tdiv h), .int .i64 (u2.tdiv g)] W fun e w' => e = .returned (.agg #[.int .i64 0, .bool false]) ∧ W.alloc (.cells #[.int .i64 0, .bool false] 112) = w') := fun W => by
    exact rmul_no _ _ W q3.2 q4.2 (.inr (.inr (by rw [hD.out]; omega)))
  have w1 : IntKind.i64.wrap (p1.tdiv g) = p1.tdiv g := IntWalk.i64_in _ ⟨by omega, by omega⟩
  have w2 : IntKind.i64.wrap (p2.tdiv h) = p2.tdiv h := IntWalk.i64_in _ ⟨by omega, by omega⟩
  have w3 : IntKind.i64.wrap (u1.tdiv h) = u1.tdiv h := IntWalk.i64_in _ ⟨by omega, by omega⟩
  have w4 : IntKind.i64.wrap (u2.tdiv g) = u2.tdiv g := IntWalk.i64_in _ ⟨by omega, by omega⟩
  have hA := TimesAt.new w ⟨s1, p1, u1, a2, a5⟩ ⟨s2, p2, u2, b2, b5⟩
  go_enter Tryz.func78, Tryz.ntmps78
  go_wp2_with fail
  refine (rgcd_yes _ _ _ h1.1 h4.1 h1.2 h4.2).mono ?_
  rintro e w' ⟨rfl, rfl⟩
  rw [hg.out]
  go_wp2_with fail
  refine (rgcd_yes _ _ _ h3.1 h2.1 h3.2 h2.2).mono ?_
  rintro e w' ⟨rfl, rfl⟩
  rw [hh.out]
  go_wp2_with fail
  generalize ((w.alloc (.cells #[.int .i64 s1, .int .i64 p1, .int .i64 u1, .int .i64 a2, .int .i64 a5] 77)).alloc (.cells #[.int .i64 s2, .int .i64 p2, .int .i64 u2, .int .i64 b2, .int .i64 b5] 77)).alloc (.cells #[.int .i64 0, .int .i64 0, .int .i64 0, .int .i64 0] 49) = W at *
  go_region_held3 (fun v => v.cell? ⟨w.heap.size, 0, none⟩ = some (.int .i64 s1) ∧ v.cell? ⟨w.heap.size, 1, none⟩ = some (.int .i64 p1) ∧ v.cell? ⟨w.heap.size, 2, none⟩ = some (.int .i64 u1) ∧ v.cell? ⟨w.heap.size + 1, 0, none⟩ = some (.int .i64 s2) ∧ v.cell? ⟨w.heap.size + 1, 1, none⟩ = some (.int .i64 p2) ∧ v.cell? ⟨w.heap.size + 1, 2, none⟩ = some (.int .i64 u2))
    (first | exact hA.cells | exact hA.drew.cells | exact hA.drew.put.cells | exact hA.drew.put.put.cells | go_keep)
    (first | (go_at_call 72; refine (M1.out _).mono ?_; rintro e w' ⟨rfl, rfl⟩))
  all_goals go_wp2_with fail
  all_goals
    have hA' : TimesAt w (((W.alloc (.cells #[.int .i64 N, .bool true] 112)).alloc (.cells #[.int .i64 N, .bool true] 112)).drew) ⟨s1, p1, u1, a2, a5⟩ ⟨s2, p2, u2, b2, b5⟩ := hA.put.put.drew
    clear hA
    have hX1 := LiesM.new1 W N true
    have hX2 := LiesM.new2 W N true
    generalize ((W.alloc (.cells #[.int .i64 N, .bool true] 112)).alloc (.cells #[.int .i64 N, .bool true] 112)).drew = W2 at *
    go_region_held3 (fun v => v.cell? ⟨w.heap.size, 0, none⟩ = some (.int .i64 s1) ∧ v.cell? ⟨w.heap.size, 1, none⟩ = some (.int .i64 p1) ∧ v.cell? ⟨w.heap.size, 2, none⟩ = some (.int .i64 u1) ∧ v.cell? ⟨w.heap.size + 1, 0, none⟩ = some (.int .i64 s2) ∧ v.cell? ⟨w.heap.size + 1, 1, none⟩ = some (.int .i64 p2) ∧ v.cell? ⟨w.heap.size + 1, 2, none⟩ = some (.int .i64 u2))
      (first | exact hA'.cells | exact hA'.drew.cells | exact hA'.drew.put.cells | exact hA'.drew.put.put.cells | go_keep)
      (first | (go_at_call 72; refine (M2.out _).mono ?_; rintro e w' ⟨rfl, rfl⟩))
  all_goals
    have hA : TimesAt w (((W2.alloc (.cells #[.int .i64 0, .bool false] 112)).alloc (.cells #[.int .i64 0, .bool false] 112)).drew) ⟨s1, p1, u1, a2, a5⟩ ⟨s2, p2, u2, b2, b5⟩ := hA'.put.put.drew
    clear hA'
    have hY1 := LiesM.new1 W2 0 false
    have hY2 := LiesM.new2 W2 0 false
    replace hX1 : LiesM (((W2.alloc (.cells #[.int .i64 0, .bool false] 112)).alloc (.cells #[.int .i64 0, .bool false] 112)).drew) W.heap.size N true := hX1.below (by go_grown)
    replace hX2 : LiesM (((W2.alloc (.cells #[.int .i64 0, .bool false] 112)).alloc (.cells #[.int .i64 0, .bool false] 112)).drew) (W.heap.size + 1) N true := hX2.below (by go_grown)
    generalize ((W2.alloc (.cells #[.int .i64 0, .bool false] 112)).alloc (.cells #[.int .i64 0, .bool false] 112)).drew = W3 at *
    clear M1 M2 w1 w2 w3 w4 q1 q2 q3 q4 zg zh yg yh
    obtain ⟨hB, ⟨c0, c1, c2, c3, c4, _⟩, ⟨d0, d1, d2, d3, d4, _⟩, r0, r1, r2, r3, rf, rz⟩ := id hA
    obtain ⟨i0, i1, iz⟩ := id hX1
    obtain ⟨j0, j1, jz⟩ := id hX2
    obtain ⟨k0, k1, kz⟩ := id hY1
    obtain ⟨l0, l1, lz⟩ := id hY2
    go_wp2
    refine bodyPost_ret (v := over.r) (by simp [results, Tryz.results78, go_sem, over, Got.r, r0, r1, r2, r3, rz]) rfl ⟨rfl, ?_⟩
    go_grown

set_option maxRecDepth 100000 in
set_option maxHeartbeats 2000000 in
theorem rtimes_no3 (s1 p1 u1 a2 a5 s2 p2 u2 b2 b5 ten g h N D : Int) (w : World) (hs1 : s1 = 1 ∨ s1 = -1) (hs2 : s2 = 1 ∨ s2 = -1)
    (h1 : -9223372036854775807 ≤ p1 ∧ p1 ≤ 9223372036854775807) (h2 : -9223372036854775807 ≤ u1 ∧ u1 ≤ 9223372036854775807) (h3 : -9223372036854775807 ≤ p2 ∧ p2 ≤ 9223372036854775807) (h4 : -9223372036854775807 ≤ u2 ∧ u2 ≤ 9223372036854775807)
    (ha2 : -400000 ≤ a2 ∧ a2 ≤ 400000) (ha5 : -400000 ≤ a5 ∧ a5 ≤ 400000) (hb2 : -400000 ≤ b2 ∧ b2 ≤ 400000) (hb5 : -400000 ≤ b5 ∧ b5 ≤ 400000) (ht : -9223372036854775808 ≤ ten) (ht' : ten ≤ 9223372036854775807)
    (hg : Hid (((Int.gcd p1 u2 : Nat) : Int) = g)) (hh : Hid (((Int.gcd p2 u1 : Nat) : Int) = h)) (hg1 : 1 ≤ g) (hh1 : 1 ≤ h)
    (hN : Hid (p1.tdiv g * p2.tdiv h = N)) (hD : Hid (u1.tdiv h * u2.tdiv g = D)) (hN1 : 1 ≤ N) (hD1 : 1 ≤ D) (hN' : 9223372036854775807 < N) (hD' : 9223372036854775807 < D) :
    Calls Tryz.prog 78 #[.agg #[.int .i64 s1, .int .i64 p1, .int .i64 u1, .int .i64 a2, .int .i64 a5], .agg #[.int .i64 s2, .int .i64 p2, .int .i64 u2, .int .i64 b2, .int .i64 b5], .int .i64 ten] w fun e w' => e = .returned over.r ∧ Below w.heap.size w w' := by
  have t1 := tdiv_small p1 g hg1
  have t2 := tdiv_small p2 h hh1
  have t3 := tdiv_small u1 h hh1
  have t4 := tdiv_small u2 g hg1
  have q1 : -9223372036854775807 ≤ p1.tdiv g ∧ p1.tdiv g ≤ 9223372036854775807 := by omega
  have q2 : -9223372036854775807 ≤ p2.tdiv h ∧ p2.tdiv h ≤ 9223372036854775807 := by omega
  have q3 : -9223372036854775807 ≤ u1.tdiv h ∧ u1.tdiv h ≤ 9223372036854775807 := by omega
  have q4 : -9223372036854775807 ≤ u2.tdiv g ∧ u2.tdiv g ≤ 9223372036854775807 := by omega
  have zg : (g == 0) = false := by simp only [beq_eq_false_iff_ne]; omega
  have zh : (h == 0) = false := by simp only [beq_eq_false_iff_ne]; omega
  have yg : ¬ g = 0 := by omega
  have yh : ¬ h = 0 := by omega
  clear t1 t2 t3 t4
  have M1 : Hid (∀ W, Calls Tryz.prog 72 #[.int .i64 (p1.tdiv g), .int .i64 (p2.tdiv h)] W fun e w' => e = .returned (.agg #[.int .i64 0, .bool false]) ∧ W.alloc (.cells #[.int .i64 0, .bool false] 112) = w') := fun W => by
    exact rmul_no _ _ W q1.2 q2.2 (.inr (.inr (by rw [hN.out]; omega)))
  have M2 : Hid (∀ W, Calls Tryz.prog 72 #[.int .i64 (u1.tdiv h), .int .i64 (u2.tdiv g)] W fun e w' => e = .returned (.agg #[.int .i64 0, .bool false]) ∧ W.alloc (.cells #[.int .i64 0, .bool false] 112) = w') := fun W => by
    exact rmul_no _ _ W q3.2 q4.2 (.inr (.inr (by rw [hD.out]; omega)))
  have w1 : IntKind.i64.wrap (p1.tdiv g) = p1.tdiv g := IntWalk.i64_in _ ⟨by omega, by omega⟩
  have w2 : IntKind.i64.wrap (p2.tdiv h) = p2.tdiv h := IntWalk.i64_in _ ⟨by omega, by omega⟩
  have w3 : IntKind.i64.wrap (u1.tdiv h) = u1.tdiv h := IntWalk.i64_in _ ⟨by omega, by omega⟩
  have w4 : IntKind.i64.wrap (u2.tdiv g) = u2.tdiv g := IntWalk.i64_in _ ⟨by omega, by omega⟩
  have hA := TimesAt.new w ⟨s1, p1, u1, a2, a5⟩ ⟨s2, p2, u2, b2, b5⟩
  go_enter Tryz.func78, Tryz.ntmps78
  go_wp2_with fail
  refine (rgcd_yes _ _ _ h1.1 h4.1 h1.2 h4.2).mono ?_
  rintro e w' ⟨rfl, rfl⟩
  rw [hg.out]
  go_wp2_with fail
  refine (rgcd_yes _ _ _ h3.1 h2.1 h3.2 h2.2).mono ?_
  rintro e w' ⟨rfl, rfl⟩
  rw [hh.out]
  go_wp2_with fail
  generalize ((w.alloc (.cells #[.int .i64 s1, .int .i64 p1, .int .i64 u1, .int .i64 a2, .int .i64 a5] 77)).alloc (.cells #[.int .i64 s2, .int .i64 p2, .int .i64 u2, .int .i64 b2, .int .i64 b5] 77)).alloc (.cells #[.int .i64 0, .int .i64 0, .int .i64 0, .int .i64 0] 49) = W at *
  go_region_held3 (fun v => v.cell? ⟨w.heap.size, 0, none⟩ = some (.int .i64 s1) ∧ v.cell? ⟨w.heap.size, 1, none⟩ = some (.int .i64 p1) ∧ v.cell? ⟨w.heap.size, 2, none⟩ = some (.int .i64 u1) ∧ v.cell? ⟨w.heap.size + 1, 0, none⟩ = some (.int .i64 s2) ∧ v.cell? ⟨w.heap.size + 1, 1, none⟩ = some (.int .i64 p2) ∧ v.cell? ⟨w.heap.size + 1, 2, none⟩ = some (.int .i64 u2))
    (first | exact hA.cells | exact hA.drew.cells | exact hA.drew.put.cells | exact hA.drew.put.put.cells | go_keep)
    (first | (go_at_call 72; refine (M1.out _).mono ?_; rintro e w' ⟨rfl, rfl⟩))
  all_goals go_wp2_with fail
  all_goals
    have hA' : TimesAt w (((W.alloc (.cells #[.int .i64 0, .bool false] 112)).alloc (.cells #[.int .i64 0, .bool false] 112)).drew) ⟨s1, p1, u1, a2, a5⟩ ⟨s2, p2, u2, b2, b5⟩ := hA.put.put.drew
    clear hA
    have hX1 := LiesM.new1 W 0 false
    have hX2 := LiesM.new2 W 0 false
    generalize ((W.alloc (.cells #[.int .i64 0, .bool false] 112)).alloc (.cells #[.int .i64 0, .bool false] 112)).drew = W2 at *
    go_region_held3 (fun v => v.cell? ⟨w.heap.size, 0, none⟩ = some (.int .i64 s1) ∧ v.cell? ⟨w.heap.size, 1, none⟩ = some (.int .i64 p1) ∧ v.cell? ⟨w.heap.size, 2, none⟩ = some (.int .i64 u1) ∧ v.cell? ⟨w.heap.size + 1, 0, none⟩ = some (.int .i64 s2) ∧ v.cell? ⟨w.heap.size + 1, 1, none⟩ = some (.int .i64 p2) ∧ v.cell? ⟨w.heap.size + 1, 2, none⟩ = some (.int .i64 u2))
      (first | exact hA'.cells | exact hA'.drew.cells | exact hA'.drew.put.cells | exact hA'.drew.put.put.cells | go_keep)
      (first | (go_at_call 72; refine (M2.out _).mono ?_; rintro e w' ⟨rfl, rfl⟩))
  all_goals
    have hA : TimesAt w (((W2.alloc (.cells #[.int .i64 0, .bool false] 112)).alloc (.cells #[.int .i64 0, .bool false] 112)).drew) ⟨s1, p1, u1, a2, a5⟩ ⟨s2, p2, u2, b2, b5⟩ := hA'.put.put.drew
    clear hA'
    have hY1 := LiesM.new1 W2 0 false
    have hY2 := LiesM.new2 W2 0 false
    replace hX1 : LiesM (((W2.alloc (.cells #[.int .i64 0, .bool false] 112)).alloc (.cells #[.int .i64 0, .bool false] 112)).drew) W.heap.size 0 false := hX1.below (by go_grown)
    replace hX2 : LiesM (((W2.alloc (.cells #[.int .i64 0, .bool false] 112)).alloc (.cells #[.int .i64 0, .bool false] 112)).drew) (W.heap.size + 1) 0 false := hX2.below (by go_grown)
    generalize ((W2.alloc (.cells #[.int .i64 0, .bool false] 112)).alloc (.cells #[.int .i64 0, .bool false] 112)).drew = W3 at *
    clear M1 M2 w1 w2 w3 w4 q1 q2 q3 q4 zg zh yg yh
    obtain ⟨hB, ⟨c0, c1, c2, c3, c4, _⟩, ⟨d0, d1, d2, d3, d4, _⟩, r0, r1, r2, r3, rf, rz⟩ := id hA
    obtain ⟨i0, i1, iz⟩ := id hX1
    obtain ⟨j0, j1, jz⟩ := id hX2
    obtain ⟨k0, k1, kz⟩ := id hY1
    obtain ⟨l0, l1, lz⟩ := id hY2
    go_wp2
    refine bodyPost_ret (v := over.r) (by simp [results, Tryz.results78, go_sem, over, Got.r, r0, r1, r2, r3, rz]) rfl ⟨rfl, ?_⟩
    go_grown

theorem mul_pos1 (a b : Int) (ha : 1 ≤ a) (hb : 1 ≤ b) : 1 ≤ a * b := by
  have := Int.mul_le_mul ha hb (by omega) (by omega)
  omega

theorem rtimes_any (x y : Sp) (ten : Int) (w : World) (hx : x.Ok 400000) (hy : y.Ok 400000) (ht : -9223372036854775808 ≤ ten) (ht' : ten ≤ 9223372036854775807) :
    Calls Tryz.prog 78 #[x.v, y.v, .int .i64 ten] w fun e w' => e = .returned (timesF x y ten).r ∧ Below w.heap.size w w' := by
  obtain ⟨s1, p1, u1, a2, a5⟩ := x
  obtain ⟨s2, p2, u2, b2, b5⟩ := y
  obtain ⟨x0, x1, x2, x3, x4, x5, x6, x7, x8⟩ := hx
  obtain ⟨y0, y1, y2, y3, y4, y5, y6, y7, y8⟩ := hy
  simp only at x0 x1 x2 x3 x4 x5 x6 x7 x8 y0 y1 y2 y3 y4 y5 y6 y7 y8
  have g1 := gcd_pos_r p1 u2 y3
  have g2 := gcd_pos_r p2 u1 x3
  have n1 := mul_pos1 _ _ (tdiv_pos p1 (Int.gcd p1 u2) x1 (Int.gcd_dvd_left _ _)) (tdiv_pos p2 (Int.gcd p2 u1) y1 (Int.gcd_dvd_left _ _))
  have n2 := mul_pos1 _ _ (tdiv_pos u1 (Int.gcd p2 u1) x3 (Int.gcd_dvd_right _ _)) (tdiv_pos u2 (Int.gcd p1 u2) y3 (Int.gcd_dvd_right _ _))
  unfold timesF timesR Sp.v
  simp only []
  by_cases f1 : p1.tdiv (Int.gcd p1 u2) * p2.tdiv (Int.gcd p2 u1) ≤ 9223372036854775807
  · by_cases f2 : u1.tdiv (Int.gcd p2 u1) * u2.tdiv (Int.gcd p1 u2) ≤ 9223372036854775807
    · rw [if_pos ⟨f1, f2⟩]
      exact rtimes_yes s1 p1 u1 a2 a5 s2 p2 u2 b2 b5 ten _ _ _ _ w x0 y0 ⟨by omega, x2⟩ ⟨by omega, x4⟩ ⟨by omega, y2⟩ ⟨by omega, y4⟩ ⟨x5, x6⟩ ⟨x7, x8⟩ ⟨y5, y6⟩ ⟨y7, y8⟩ ht ht' rfl rfl g1 g2 rfl rfl n1 n2 f1 f2
    · rw [if_neg (fun h => f2 h.2)]
      exact rtimes_no2 s1 p1 u1 a2 a5 s2 p2 u2 b2 b5 ten _ _ _ _ w x0 y0 ⟨by omega, x2⟩ ⟨by omega, x4⟩ ⟨by omega, y2⟩ ⟨by omega, y4⟩ ⟨x5, x6⟩ ⟨x7, x8⟩ ⟨y5, y6⟩ ⟨y7, y8⟩ ht ht' rfl rfl g1 g2 rfl rfl n1 n2 f1 (by omega)
  · by_cases f2 : u1.tdiv (Int.gcd p2 u1) * u2.tdiv (Int.gcd p1 u2) ≤ 9223372036854775807
    · rw [if_neg (fun h => f1 h.1)]
      exact rtimes_no1 s1 p1 u1 a2 a5 s2 p2 u2 b2 b5 ten _ _ _ _ w x0 y0 ⟨by omega, x2⟩ ⟨by omega, x4⟩ ⟨by omega, y2⟩ ⟨by omega, y4⟩ ⟨x5, x6⟩ ⟨x7, x8⟩ ⟨y5, y6⟩ ⟨y7, y8⟩ ht ht' rfl rfl g1 g2 rfl rfl n1 n2 (by omega) f2
    · rw [if_neg (fun h => f1 h.1)]
      exact rtimes_no3 s1 p1 u1 a2 a5 s2 p2 u2 b2 b5 ten _ _ _ _ w x0 y0 ⟨by omega, x2⟩ ⟨by omega, x4⟩ ⟨by omega, y2⟩ ⟨by omega, y4⟩ ⟨x5, x6⟩ ⟨x7, x8⟩ ⟨y5, y6⟩ ⟨y7, y8⟩ ht ht' rfl rfl g1 g2 rfl rfl n1 n2 (by omega) (by omega)

end Go.Proofs.YtndinbefljajcaaGreatDoor.Frac

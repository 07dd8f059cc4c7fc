/-
  Contract of drachmlaw02.awake: the chapter's examples hold; the world below stays as it was.
-/
import Derived.Test.YtjklbnakgkffnaaDoorF8
import Derived.Test.YtjklbnakgkffnaaDoorFN
namespace Go.Proofs.YtjklbnakgkffnaaDoor.Frac
open Go.RowKit
open Go.Proofs.YtjklbnakgkffnaaDoor.Whole
set_option linter.unusedVariables false
set_option linter.unusedSimpArgs false

/-- A new frac behind a call. -/
def putF (v : World) (n d t : Int) : World := v.alloc (.cells #[.int .i64 n, .int .i64 d, .int .i64 t] 24)

theorem Below.got {w v v1 : World} (hB : Below w.heap.size w v) (hb : Below v.heap.size v v1) (n d t : Int) : Below w.heap.size w (v1.alloc (.cells #[.int .i64 n, .int .i64 d, .int .i64 t] 24)) := by
  have h := Below.go hB hb
  have hz := h.size
  go_grown

theorem LiesF.new (v : World) (n d t : Int) : LiesF (v.alloc (.cells #[.int .i64 n, .int .i64 d, .int .i64 t] 24)) v.heap.size n d t := by
  refine ⟨?_, ?_, ?_, ?_⟩
  all_goals simp [go_sem]

theorem LiesF.put {v : World} {b : Nat} {n d t : Int} (h : LiesF v b n d t) (o : Obj) : LiesF (v.alloc o) b n d t := by
  obtain ⟨h0, h1, h2, hz⟩ := h
  refine ⟨?_, ?_, ?_, ?_⟩
  · rw [World.cell?_alloc_past o b 0 hz, h0]
  · rw [World.cell?_alloc_past o b 1 hz, h1]
  · rw [World.cell?_alloc_past o b 2 hz, h2]
  · simp; omega

theorem LiesF.go {v v1 : World} {b : Nat} {n d t : Int} (h : LiesF v b n d t) (hb : Below v.heap.size v v1) : LiesF v1 b n d t := h.below hb h.2.2.2

theorem ex1 : makeG 3 8 0 = ⟨375, 1, -3, 0⟩ := by kernel_rfl
theorem ex2 : makeG 120 (-9) 1 = ⟨-4, 3, 2, 0⟩ := by kernel_rfl
theorem ex3 : makeG 2 3 0 = ⟨2, 3, 0, 0⟩ := by kernel_rfl
theorem ex4 : makeG 15 1 0 = ⟨15, 1, 0, 0⟩ := by kernel_rfl
theorem ex5 : mulG 2 3 0 15 1 0 = ⟨1, 1, 1, 0⟩ := by kernel_rfl

set_option maxRecDepth 100000 in
set_option maxHeartbeats 1000000 in
theorem awake2_yes (w : World) (hT : OfTen w) :
    Calls Tryd.prog 11 #[] w fun e w' => e = .returned (.bool true) ∧ Below w.heap.size w w' := by
  have hB := Below.refl w.heap.size w
  go_enter Tryd.func11, Tryd.ntmps11
  go_wp2_with fail
  refine (make_any 3 8 0 _ (hT.below hB) (by omega) (by omega)).mono ?_
  rintro e w1 ⟨rfl, hb⟩
  rw [ex1]; unfold Got.v
  have l1 := LiesF.new w1 375 1 (-3)
  replace hB := Below.got hB hb 375 1 (-3)
  clear hb
  go_wp2_with fail
  refine (make_any 120 (-9) 1 _ (hT.below hB) (by omega) (by omega)).mono ?_
  rintro e w2 ⟨rfl, hb⟩
  rw [ex2]; unfold Got.v
  have l2 := LiesF.new w2 (-4) 3 2
  replace l1 := (l1.go hb).put (.cells #[.int .i64 (-4), .int .i64 3, .int .i64 2] 24)
  replace hB := Below.got hB hb (-4) 3 2
  clear hb
  go_wp2_with fail
  refine (make_any 2 3 0 _ (hT.below hB) (by omega) (by omega)).mono ?_
  rintro e w3 ⟨rfl, hb⟩
  rw [ex3]; unfold Got.v
  have l3 := LiesF.new w3 2 3 0
  replace l1 := (l1.go hb).put (.cells #[.int .i64 2, .int .i64 3, .int .i64 0] 24)
  replace l2 := (l2.go hb).put (.cells #[.int .i64 2, .int .i64 3, .int .i64 0] 24)
  replace hB := Below.got hB hb 2 3 0
  clear hb
  go_wp2_with fail
  refine (make_any 15 1 0 _ (hT.below hB) (by omega) (by omega)).mono ?_
  rintro e w4 ⟨rfl, hb⟩
  rw [ex4]; unfold Got.v
  have l4 := LiesF.new w4 15 1 0
  replace l1 := (l1.go hb).put (.cells #[.int .i64 15, .int .i64 1, .int .i64 0] 24)
  replace l2 := (l2.go hb).put (.cells #[.int .i64 15, .int .i64 1, .int .i64 0] 24)
  replace l3 := (l3.go hb).put (.cells #[.int .i64 15, .int .i64 1, .int .i64 0] 24)
  replace hB := Below.got hB hb 15 1 0
  clear hb
  obtain ⟨a0, a1, a2, _⟩ := id l3
  obtain ⟨b0, b1, b2, _⟩ := id l4
  go_wp2_with fail
  refine (mul_any 2 3 0 15 1 0 _ (hT.below hB) (by omega) (by omega) (by omega) (by omega)).mono ?_
  rintro e w5 ⟨rfl, hb⟩
  rw [ex5]; unfold Got.v
  clear a0 a1 a2 b0 b1 b2
  have l5 := LiesF.new w5 1 1 1
  replace l1 := (l1.go hb).put (.cells #[.int .i64 1, .int .i64 1, .int .i64 1] 24)
  replace l2 := (l2.go hb).put (.cells #[.int .i64 1, .int .i64 1, .int .i64 1] 24)
  replace hB := Below.got hB hb 1 1 1
  clear hb
  obtain ⟨a0, a1, a2, _⟩ := id l1
  obtain ⟨b0, b1, b2, _⟩ := id l2
  obtain ⟨c0, c1, c2, _⟩ := id l5
  go_wp2
  go_ret
  exact ⟨rfl, hB⟩

end Go.Proofs.YtjklbnakgkffnaaDoor.Frac

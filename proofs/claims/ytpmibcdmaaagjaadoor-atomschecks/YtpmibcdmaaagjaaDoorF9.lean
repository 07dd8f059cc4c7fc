/-
  Contract of drachmlaw02.awake: the chapter's examples hold; the world below stays as it was.
-/
import Derived.Test.YtpmibcdmaaagjaaDoorFB
import Derived.Test.YtpmibcdmaaagjaaDoorFP
namespace Go.Proofs.YtpmibcdmaaagjaaDoor.Frac
open Go.RowKit
open Go.Proofs.YtpmibcdmaaagjaaDoor.Whole
set_option linter.unusedVariables false
set_option linter.unusedSimpArgs false

/-- A new frac behind a call. -/
def putF (v : World) (n d t : Int) : World := v.alloc (.cells #[.int .i64 n, .int .i64 d, .int .i64 t] 67)

theorem Below.got {w v v1 : World} (hB : Below w.heap.size w v) (hb : Below v.heap.size v v1) (n d t : Int) : Below w.heap.size w (v1.alloc (.cells #[.int .i64 n, .int .i64 d, .int .i64 t] 67)) := by
  have h := Below.go hB hb
  have hz := h.size
  go_grown

theorem LiesF.new (v : World) (n d t : Int) : LiesF (v.alloc (.cells #[.int .i64 n, .int .i64 d, .int .i64 t] 67)) v.heap.size n d t := by
  refine ⟨?_, ?_, ?_, ?_⟩
  all_goals simp [go_sem]

theorem LiesF.put {v : World} {b : Nat} {n d t : Int} (h : LiesF v b n d t) (o : Obj) : LiesF (v.alloc o) b n d t := by
  obtain ⟨h0, h1, h2, hz⟩ := h
  refine ⟨?_, ?_, ?_, ?_⟩
  · rw [World.cell?_alloc_past o b 0 hz, h0]
  · rw [World.cell?_alloc_past o b 1 hz, h1]
  · rw [World.cell?_alloc_past o b 2 hz, h2]
  · simp; omega

theorem LiesF.go {v v1 : World} {b : Nat} {n d t : Int} (h : LiesF v b n d t) (hb : Below v.heap.size v v1) : LiesF v1 b n d t := h.below hb h.2.2.2

theorem ex1 : makeG 3 8 0 = ⟨375, 1, -3, 0⟩ := by kernel_rfl
theorem ex2 : makeG 120 (-9) 1 = ⟨-4, 3, 2, 0⟩ := by kernel_rfl
theorem ex3 : makeG 2 3 0 = ⟨2, 3, 0, 0⟩ := by kernel_rfl
theorem ex4 : makeG 15 1 0 = ⟨15, 1, 0, 0⟩ := by kernel_rfl
theorem ex5 : mulG 2 3 0 15 1 0 = ⟨1, 1, 1, 0⟩ := by kernel_rfl

end Go.Proofs.YtpmibcdmaaagjaaDoor.Frac

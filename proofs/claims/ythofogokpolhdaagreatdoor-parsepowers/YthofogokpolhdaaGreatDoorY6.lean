/-
  Contracts of the document's Of and Kind.
-/
import Derived.Test.YthofogokpolhdaaGreatDoorY1X
namespace Go.Proofs.YthofogokpolhdaaGreatDoor.Style
open Go.RowKit
set_option linter.unusedVariables false
set_option linter.unusedSimpArgs false

set_option maxRecDepth 100000 in
set_option maxHeartbeats 1000000 in
theorem rof_any (n : Int) (w : World) :
    Calls Tryz.prog 20 #[.int .i64 n] w fun e w' => e = .returned (stZ n).v ∧ Below w.heap.size w w' := by
  rcases st_cases n with (rfl | rfl | rfl | rfl | rfl) | ⟨h, e1, e2⟩
  · simp only [St.v, stZ]
    go_enter Tryz.func20, Tryz.ntmps20
    go_wp2
    refine bodyPost_ret (v := .agg #[.bool false, .int .u8 46, .int .u8 47, .int .u8 0, .int .u8 123, .int .u8 125]) (by simp [results, Tryz.results20, go_sem]) rfl ⟨rfl, ?_⟩
    go_grown
  · simp only [St.v, stZ]
    go_enter Tryz.func20, Tryz.ntmps20
    go_wp2
    refine bodyPost_ret (v := .agg #[.bool true, .int .u8 46, .int .u8 47, .int .u8 0, .int .u8 123, .int .u8 125]) (by simp [results, Tryz.results20, go_sem]) rfl ⟨rfl, ?_⟩
    go_grown
  · simp only [St.v, stZ]
    go_enter Tryz.func20, Tryz.ntmps20
    go_wp2
    refine bodyPost_ret (v := .agg #[.bool false, .int .u8 42, .int .u8 47, .int .u8 94, .int .u8 60, .int .u8 62]) (by simp [results, Tryz.results20, go_sem]) rfl ⟨rfl, ?_⟩
    go_grown
  · simp only [St.v, stZ]
    go_enter Tryz.func20, Tryz.ntmps20
    go_wp2
    refine bodyPost_ret (v := .agg #[.bool true, .int .u8 46, .int .u8 47, .int .u8 0, .int .u8 0, .int .u8 0]) (by simp [results, Tryz.results20, go_sem]) rfl ⟨rfl, ?_⟩
    go_grown
  · simp only [St.v, stZ]
    go_enter Tryz.func20, Tryz.ntmps20
    go_wp2
    refine bodyPost_ret (v := .agg #[.bool false, .int .u8 46, .int .u8 47, .int .u8 94, .int .u8 0, .int .u8 0]) (by simp [results, Tryz.results20, go_sem]) rfl ⟨rfl, ?_⟩
    go_grown
  · rw [e1]
    have a1 : (n == 1) = false := by simp only [beq_eq_false_iff_ne]; omega
    have a2 : (n == 2) = false := by simp only [beq_eq_false_iff_ne]; omega
    have a3 : (n == 3) = false := by simp only [beq_eq_false_iff_ne]; omega
    have a4 : (n == 4) = false := by simp only [beq_eq_false_iff_ne]; omega
    have a5 : (n == 5) = false := by simp only [beq_eq_false_iff_ne]; omega
    simp only [St.v]
    clear e1 e2 h
    go_enter Tryz.func20, Tryz.ntmps20
    go_wp2
    refine bodyPost_ret (v := .agg #[.bool false, .int .u8 0, .int .u8 0, .int .u8 0, .int .u8 0, .int .u8 0]) (by simp [results, Tryz.results20, go_sem]) rfl ⟨rfl, ?_⟩
    go_grown

end Go.Proofs.YthofogokpolhdaaGreatDoor.Style

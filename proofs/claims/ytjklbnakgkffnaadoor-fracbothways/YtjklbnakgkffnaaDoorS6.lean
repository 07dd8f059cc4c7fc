/-
  The walk of the law FracBothWays: it returns true, for every argument of its kind; old memory stays.
-/
import Derived.Test.YtjklbnakgkffnaaDoorT9
import Derived.Test.YtjklbnakgkffnaaDoorG7
import Derived.Deep.RegionHeld3
namespace Go.Proofs.YtjklbnakgkffnaaDoor.Texts
open Go.RowKit
open Go.Proofs.YtjklbnakgkffnaaDoor.Whole
open Go.Proofs.YtjklbnakgkffnaaDoor.Frac
set_option linter.unusedVariables false
set_option linter.unusedSimpArgs false

theorem bs_of (s : ByteArray) : bs s.data.toList = s := by
  cases s
  simp [bs]

theorem specG_small (a b c : Int) (h1 : a ≤ 9223372036854775807) (h2 : b ≤ 9223372036854775807) : (specG a b c).n ≤ 9223372036854775807 ∧ (specG a b c).d ≤ 9223372036854775807 := by
  unfold specG
  by_cases he : (makeG a b c).e = 0
  · rw [if_pos he]; exact ⟨by have := make_small a b c; omega, make_dsmall a b c h1 h2⟩
  · rw [if_neg he]; decide

/-- How the world stands within the law: its two boxes. -/
def WaysAt (w v : World) (s0 s1 s2 q0 q1 : Int) : Prop := Below w.heap.size w v ∧ LiesF v w.heap.size s0 s1 s2 ∧ v.cell? ⟨w.heap.size + 1, 0, none⟩ = some (.int .i64 q0) ∧ v.cell? ⟨w.heap.size + 1, 1, none⟩ = some (.int .i64 q1) ∧ w.heap.size + 1 < v.heap.size
theorem WaysAt.below {w v v' : World} {s0 s1 s2 q0 q1 : Int} (h : WaysAt w v s0 s1 s2 q0 q1) (hb : Below v.heap.size v v') : WaysAt w v' s0 s1 s2 q0 q1 :=
  ⟨Below.go h.1 hb, h.2.1.go hb, (hb.cell (p := ⟨w.heap.size + 1, 0, none⟩) h.2.2.2.2).trans h.2.2.1, (hb.cell (p := ⟨w.heap.size + 1, 1, none⟩) h.2.2.2.2).trans h.2.2.2.1, by have := hb.size; have := h.2.2.2.2; omega⟩
theorem WaysAt.drew {w v : World} {s0 s1 s2 q0 q1 : Int} (h : WaysAt w v s0 s1 s2 q0 q1) : WaysAt w v.drew s0 s1 s2 q0 q1 := h.below (by go_grown)
theorem WaysAt.new (w : World) (s0 s1 s2 q0 q1 : Int) : WaysAt w ((w.alloc (.cells #[.int .i64 s0, .int .i64 s1, .int .i64 s2] 23)).alloc (.cells #[.int .i64 q0, .int .i64 q1] 35)) s0 s1 s2 q0 q1 := by
  refine ⟨by go_grown, ⟨?_, ?_, ?_, ?_⟩, ?_, ?_, ?_⟩
  all_goals simp [go_sem]
  all_goals try omega
theorem WaysAt.cells {w v : World} {s0 s1 s2 q0 q1 : Int} (h : WaysAt w v s0 s1 s2 q0 q1) : v.cell? ⟨w.heap.size, 0, none⟩ = some (.int .i64 s0) ∧ v.cell? ⟨w.heap.size, 1, none⟩ = some (.int .i64 s1) ∧ v.cell? ⟨w.heap.size, 2, none⟩ = some (.int .i64 s2) ∧ v.cell? ⟨w.heap.size + 1, 0, none⟩ = some (.int .i64 q0) ∧ v.cell? ⟨w.heap.size + 1, 1, none⟩ = some (.int .i64 q1) :=
  ⟨h.2.1.1, h.2.1.2.1, h.2.1.2.2.1, h.2.2.1, h.2.2.2.1⟩

set_option maxRecDepth 100000 in
set_option maxHeartbeats 1000000 in
theorem ways_walk (s0 s1 s2 : Int) (tx : ByteArray) (q0 q1 : Int) (w : World) (hE : Env w) (b0 : -9223372036854775808 ≤ s0 ∧ s0 ≤ 9223372036854775807) (b1 : -9223372036854775808 ≤ s1 ∧ s1 ≤ 9223372036854775807) (b2 : -9223372036854775808 ≤ s2 ∧ s2 ≤ 9223372036854775807) (hs : tx.size ≤ maxLen) (b3 : -9223372036854775808 ≤ q0 ∧ q0 ≤ 9223372036854775807) (b4 : -9223372036854775808 ≤ q1 ∧ q1 ≤ 9223372036854775807) :
    Calls Tryd.prog 4 #[.agg #[.int .i64 s0, .int .i64 s1, .int .i64 s2], .string tx, .agg #[.int .i64 q0, .int .i64 q1]] w fun e w' => e = .returned (.bool true) ∧ Below w.heap.size w w' := by
  have hA := WaysAt.new w s0 s1 s2 q0 q1
  have hsp := spec_any s0 s1 s2
  have hsm := specG_small s0 s1 s2 b0.2 b1.2
  have hr := (spec_right s0 s1 s2 b0.2 b1.2).1
  generalize specG s0 s1 s2 = A at *
  have hbo := fun c h0 h1 w hw => both_walk A.n A.d A.t tx.data.toList q0 c w hw hsm.1 hsm.2 hr b3.1 b3.2 h0 h1
  rw [bs_of] at hbo
  have m0 : 0 ≤ q1 % 256 := by omega
  have m1 : q1 % 256 ≤ 255 := by omega
  obtain ⟨c0, c1, c2, c3, c4⟩ := hA.cells
  go_enter Tryd.func4, Tryd.ntmps4
  go_wp2
  clear c0 c1 c2 c3 c4
  go_region_held3 (fun v => v.cell? ⟨w.heap.size, 0, none⟩ = some (.int .i64 s0) ∧ v.cell? ⟨w.heap.size, 1, none⟩ = some (.int .i64 s1) ∧ v.cell? ⟨w.heap.size, 2, none⟩ = some (.int .i64 s2) ∧ v.cell? ⟨w.heap.size + 1, 0, none⟩ = some (.int .i64 q0) ∧ v.cell? ⟨w.heap.size + 1, 1, none⟩ = some (.int .i64 q1))
    (first | exact hA.cells | exact hA.drew.cells | go_keep)
    (first
      | (go_at_call 15; refine (hsp _ b0.2 b1.2 b2.1 b2.2).mono ?_; rintro e w1 ⟨rfl, hb⟩; replace hA := hA.drew.below hb; clear hb)
      | (go_at_call 17; refine (hbo _ m0 m1 _ (hE.below hA.1)).mono ?_; rintro e w2 ⟨rfl, hb⟩; replace hA := hA.below hb; clear hb))
  go_wp2
  go_ret
  exact ⟨rfl, hA.1⟩

end Go.Proofs.YtjklbnakgkffnaaDoor.Texts

/-
  Contract of (drachmlaw02.Spec).frac: a right frac; the world below stays as it was.
-/
import Derived.Test.YtjklbnakgkffnaaDoorS1
namespace Go.Proofs.YtjklbnakgkffnaaDoor.Frac
open Go.RowKit
open Go.Proofs.YtjklbnakgkffnaaDoor.Whole
set_option linter.unusedVariables false
set_option linter.unusedSimpArgs false

/-- The form of a number by plain numbers; 1, if there is none. -/
def specG (a b c : Int) : Got := if (makeG a b c).e = 0 then makeG a b c else ⟨1, 1, 0, 0⟩

theorem one_right : rightB 1 1 0 = true := by
  rw [right_eq 1 1 0 (by omega) (by omega)]; decide

theorem spec_right (a b c : Int) (h1 : a ≤ 9223372036854775807) (h2 : b ≤ 9223372036854775807) : rightB (specG a b c).n (specG a b c).d (specG a b c).t = true ∧ (specG a b c).e = 0 := by
  unfold specG
  by_cases he : (makeG a b c).e = 0
  · rw [if_pos he, make_right a b c h1 h2, he]; exact ⟨rfl, rfl⟩
  · rw [if_neg he]; exact ⟨one_right, rfl⟩

set_option maxRecDepth 100000 in
set_option maxHeartbeats 1000000 in
theorem spec_any (a b c : Int) (w : World) (h1 : a ≤ 9223372036854775807) (h2 : b ≤ 9223372036854775807) (h3 : -9223372036854775808 ≤ c) (h4 : c ≤ 9223372036854775807) :
    Calls Tryd.prog 15 #[.agg #[.int .i64 a, .int .i64 b, .int .i64 c]] w fun e w' => e = .returned (.agg #[.int .i64 (specG a b c).n, .int .i64 (specG a b c).d, .int .i64 (specG a b c).t]) ∧ Below w.heap.size w w' := by
  have hB : Below w.heap.size w ((w.alloc (.cells #[.int .i64 a, .int .i64 b, .int .i64 c] 23)).alloc (.cells #[.int .i64 0, .int .i64 0, .int .i64 0] 24)) := by go_grown
  have hR : Room ((w.alloc (.cells #[.int .i64 a, .int .i64 b, .int .i64 c] 23)).alloc (.cells #[.int .i64 0, .int .i64 0, .int .i64 0] 24)) (w.heap.size + 1) := by
    refine ⟨?_, ?_, ?_, fun j => ?_, ?_⟩
    all_goals simp [go_sem]
  have E1 := Lib.hid (make_eq a b c h1 h2)
  go_enter Tryd.func15, Tryd.ntmps15
  go_wp2_with fail
  refine (rmake_any a b c _ h1 h2 h3 h4).mono ?_
  rintro e w1 ⟨rfl, hb⟩
  replace hR := hR.below hb hR.2.2.2.2
  replace hB := Below.go hB hb
  clear hb
  obtain ⟨r0, r1, r2, rf, rz⟩ := id hR
  have hz := hB.size
  rw [← E1.out]
  generalize hS : specG a b c = S
  have HS := Lib.hid hS
  clear hS
  by_cases he : (makeG a b c).e = 0
  · have HE : Hid (S = makeG a b c) := by show S = _; rw [← HS.out]; unfold specG; rw [if_pos he]
    have e0 : ((makeG a b c).e != 0) = false := by simpa using he
    clear he
    generalize makeG a b c = G at *
    unfold Got.r
    go_wp2
    refine bodyPost_ret (v := .agg #[.int .i64 G.n, .int .i64 G.d, .int .i64 G.t]) (by simp [results, Tryd.results15, go_sem, r0, r1, r2, rz]) rfl ⟨by rw [show specG a b c = _ from HS.out.trans HE.out], ?_⟩
    go_grown
  · have HE : Hid (S = ⟨1, 1, 0, 0⟩) := by show S = _; rw [← HS.out]; unfold specG; rw [if_neg he]
    have e0 : ((makeG a b c).e != 0) = true := by simpa using he
    clear he
    generalize makeG a b c = G at *
    unfold Got.r
    go_wp2
    refine bodyPost_ret (v := .agg #[.int .i64 1, .int .i64 1, .int .i64 0]) (by simp [results, Tryd.results15, go_sem, r0, r1, r2, rz]) rfl ⟨by rw [show specG a b c = _ from HS.out.trans HE.out], ?_⟩
    go_grown

end Go.Proofs.YtjklbnakgkffnaaDoor.Frac

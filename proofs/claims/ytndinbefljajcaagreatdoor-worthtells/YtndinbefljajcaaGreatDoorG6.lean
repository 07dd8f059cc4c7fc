/-
  Contract of the document's answer for powers: drachmref02.Pow, by one Lean function of the numbers; the world below stays as it was.
-/
import Derived.Test.YtndinbefljajcaaGreatDoorG5
import Derived.Test.YtndinbefljajcaaGreatDoorFP
namespace Go.Proofs.YtndinbefljajcaaGreatDoor.Frac
open Go.RowKit
open Go.Proofs.YtndinbefljajcaaGreatDoor.Whole
set_option linter.unusedVariables false
set_option linter.unusedSimpArgs false

/-- How the world stands within the document's Pow: its argument in a box, and room for the answer. -/
def OneRAt (w v : World) (n d t : Int) : Prop := Below w.heap.size w v ∧ LiesF v w.heap.size n d t ∧ RoomG v (w.heap.size + 1)

theorem OneRAt.below {w v v' : World} {n d t : Int} (h : OneRAt w v n d t) (hb : Below v.heap.size v v') : OneRAt w v' n d t := by
  obtain ⟨h1, h2, h3⟩ := h
  exact ⟨Below.go h1 hb, h2.go hb, h3.below hb h3.2.2.2.2.2⟩

theorem OneRAt.put {w v : World} {n d t : Int} {o : Obj} (h : OneRAt w v n d t) : OneRAt w (v.alloc o) n d t := h.below (by go_grown)

theorem OneRAt.new (w : World) (n d t : Int) : OneRAt w ((w.alloc (.cells #[.int .i64 n, .int .i64 d, .int .i64 t] 28)).alloc (.cells #[.int .i64 0, .int .i64 0, .int .i64 0, .int .i64 0] 49)) n d t := by
  refine ⟨by go_grown, ⟨?_, ?_, ?_, ?_⟩, ⟨?_, ?_, ?_, ?_, fun j => ?_, ?_⟩⟩
  all_goals simp [go_sem]

/-- A box of the document's number taken apart that may be written. -/
def OwnS (v : World) (b : Nat) (x : Sp) : Prop := LiesS v b x ∧ ∀ j, v.frozen? ⟨b, j, none⟩ = false
theorem OwnS.below {v v' : World} {b : Nat} {x : Sp} (h : OwnS v b x) (hb : Below v.heap.size v v') : OwnS v' b x :=
  ⟨h.1.below hb h.1.2.2.2.2.2, fun j => (hb.frozen (p := ⟨b, j, none⟩) h.1.2.2.2.2.2).trans (h.2 j)⟩
theorem OwnS.put {v : World} {b : Nat} {x : Sp} {o : Obj} (h : OwnS v b x) : OwnS (v.alloc o) b x := h.below (by go_grown)
theorem OwnS.new (v : World) (x : Sp) : OwnS (v.alloc (.cells #[.int .i64 x.s, .int .i64 x.p, .int .i64 x.q, .int .i64 x.two, .int .i64 x.five] 77)) v.heap.size x := by
  refine ⟨⟨?_, ?_, ?_, ?_, ?_, ?_⟩, fun j => ?_⟩
  all_goals simp [go_sem]

set_option maxRecDepth 100000 in
set_option maxHeartbeats 1000000 in
theorem rpow_arg (n d t k : Int) (w : World) (h1 : n ≤ 9223372036854775807) (h2 : d ≤ 9223372036854775807) (r : rightR n d t = false)  :
    Calls Tryz.prog 51 #[.agg #[.int .i64 n, .int .i64 d, .int .i64 t], .int .i64 k] w fun e w' => e = .returned (⟨0, 0, 0, 1⟩ : Got).r ∧ Below w.heap.size w w' := by
  have R := Lib.hid r
  clear r
  have hA := OneRAt.new w n d t
  go_enter Tryz.func51, Tryz.ntmps51
  go_wp2_with fail
  refine (rright_any n d t _ h1 h2).mono ?_
  rintro e w1 ⟨rfl, hb⟩
  rw [R.out]
  replace hA := hA.below hb
  clear hb
  obtain ⟨hB, ⟨c0, c1, c2, _⟩, m0, m1, m2, m3, mf, mz⟩ := id hA
  go_wp2
  all_goals
    refine bodyPost_ret (v := (⟨0, 0, 0, 1⟩ : Got).r) (by simp [results, Tryz.results51, go_sem, Got.r, m0, m1, m2, m3]) rfl ⟨rfl, ?_⟩
    go_grown

set_option maxRecDepth 100000 in
set_option maxHeartbeats 1000000 in
theorem rpow_far (n d t k : Int) (w : World) (h1 : n ≤ 9223372036854775807) (h2 : d ≤ 9223372036854775807) (r : rightR n d t = true) (hk : k < -99 ∨ 99 < k) :
    Calls Tryz.prog 51 #[.agg #[.int .i64 n, .int .i64 d, .int .i64 t], .int .i64 k] w fun e w' => e = .returned (⟨0, 0, 0, 1⟩ : Got).r ∧ Below w.heap.size w w' := by
  have R := Lib.hid r
  clear r
  have hA := OneRAt.new w n d t
  go_enter Tryz.func51, Tryz.ntmps51
  go_wp2_with fail
  refine (rright_any n d t _ h1 h2).mono ?_
  rintro e w1 ⟨rfl, hb⟩
  rw [R.out]
  replace hA := hA.below hb
  clear hb
  obtain ⟨hB, ⟨c0, c1, c2, _⟩, m0, m1, m2, m3, mf, mz⟩ := id hA
  go_wp2
  all_goals
    refine bodyPost_ret (v := (⟨0, 0, 0, 1⟩ : Got).r) (by simp [results, Tryz.results51, go_sem, Got.r, m0, m1, m2, m3]) rfl ⟨rfl, ?_⟩
    go_grown

set_option maxRecDepth 100000 in
set_option maxHeartbeats 1000000 in
theorem rpow_zero (n d t k : Int) (w : World) (h1 : n ≤ 9223372036854775807) (h2 : d ≤ 9223372036854775807) (r : rightR n d t = true) (hz : n = 0) (hk : k < 0) (hk' : -99 ≤ k) :
    Calls Tryz.prog 51 #[.agg #[.int .i64 n, .int .i64 d, .int .i64 t], .int .i64 k] w fun e w' => e = .returned (⟨0, 0, 0, 11⟩ : Got).r ∧ Below w.heap.size w w' := by
  have R := Lib.hid r
  clear r
  have zz : (n == 0) = true := by simp [hz]
  clear hz
  have hA := OneRAt.new w n d t
  go_enter Tryz.func51, Tryz.ntmps51
  go_wp2_with fail
  refine (rright_any n d t _ h1 h2).mono ?_
  rintro e w1 ⟨rfl, hb⟩
  rw [R.out]
  replace hA := hA.below hb
  clear hb
  obtain ⟨hB, ⟨c0, c1, c2, _⟩, m0, m1, m2, m3, mf, mz⟩ := id hA
  go_wp2
  all_goals
    refine bodyPost_ret (v := (⟨0, 0, 0, 11⟩ : Got).r) (by simp [results, Tryz.results51, go_sem, Got.r, m0, m1, m2, m3]) rfl ⟨rfl, ?_⟩
    go_grown

set_option maxRecDepth 100000 in
set_option maxHeartbeats 1000000 in
theorem rpow_none (n d t k : Int) (w : World) (h1 : n ≤ 9223372036854775807) (h2 : d ≤ 9223372036854775807) (r : rightR n d t = true) (hz : n = 0) (hk : k = 0) :
    Calls Tryz.prog 51 #[.agg #[.int .i64 n, .int .i64 d, .int .i64 t], .int .i64 k] w fun e w' => e = .returned (⟨1, 1, 0, 0⟩ : Got).r ∧ Below w.heap.size w w' := by
  have R := Lib.hid r
  clear r
  have zz : (n == 0) = true := by simp [hz]
  clear hz
  subst hk
  have hA := OneRAt.new w n d t
  go_enter Tryz.func51, Tryz.ntmps51
  go_wp2_with fail
  refine (rright_any n d t _ h1 h2).mono ?_
  rintro e w1 ⟨rfl, hb⟩
  rw [R.out]
  replace hA := hA.below hb
  clear hb
  obtain ⟨hB, ⟨c0, c1, c2, _⟩, m0, m1, m2, m3, mf, mz⟩ := id hA
  go_wp2
  all_goals
    refine bodyPost_ret (v := (⟨1, 1, 0, 0⟩ : Got).r) (by simp [results, Tryz.results51, go_sem, Got.r, m0, m1, m2, m3]) rfl ⟨rfl, ?_⟩
    go_grown

set_option maxRecDepth 100000 in
set_option maxHeartbeats 1000000 in
theorem rpow_none2 (n d t k : Int) (w : World) (h1 : n ≤ 9223372036854775807) (h2 : d ≤ 9223372036854775807) (r : rightR n d t = true) (hz : n ≠ 0) (hk : k = 0) :
    Calls Tryz.prog 51 #[.agg #[.int .i64 n, .int .i64 d, .int .i64 t], .int .i64 k] w fun e w' => e = .returned (⟨1, 1, 0, 0⟩ : Got).r ∧ Below w.heap.size w w' := by
  have R := Lib.hid r
  clear r
  have z0 : (n == 0) = false := by simpa using hz
  clear hz
  subst hk
  have hA := OneRAt.new w n d t
  go_enter Tryz.func51, Tryz.ntmps51
  go_wp2_with fail
  refine (rright_any n d t _ h1 h2).mono ?_
  rintro e w1 ⟨rfl, hb⟩
  rw [R.out]
  replace hA := hA.below hb
  clear hb
  obtain ⟨hB, ⟨c0, c1, c2, _⟩, m0, m1, m2, m3, mf, mz⟩ := id hA
  go_wp2
  all_goals
    refine bodyPost_ret (v := (⟨1, 1, 0, 0⟩ : Got).r) (by simp [results, Tryz.results51, go_sem, Got.r, m0, m1, m2, m3]) rfl ⟨rfl, ?_⟩
    go_grown

set_option maxRecDepth 100000 in
set_option maxHeartbeats 1000000 in
theorem rpow_same (n d t k : Int) (w : World) (h1 : n ≤ 9223372036854775807) (h2 : d ≤ 9223372036854775807) (r : rightR n d t = true) (hz : n = 0) (hk : 0 < k) (hk' : k ≤ 99) :
    Calls Tryz.prog 51 #[.agg #[.int .i64 n, .int .i64 d, .int .i64 t], .int .i64 k] w fun e w' => e = .returned (⟨n, d, t, 0⟩ : Got).r ∧ Below w.heap.size w w' := by
  have R := Lib.hid r
  clear r
  have zz : (n == 0) = true := by simp [hz]
  have zk : (k == 0) = false := by simp only [beq_eq_false_iff_ne]; omega
  clear hz
  have hA := OneRAt.new w n d t
  go_enter Tryz.func51, Tryz.ntmps51
  go_wp2_with fail
  refine (rright_any n d t _ h1 h2).mono ?_
  rintro e w1 ⟨rfl, hb⟩
  rw [R.out]
  replace hA := hA.below hb
  clear hb
  obtain ⟨hB, ⟨c0, c1, c2, _⟩, m0, m1, m2, m3, mf, mz⟩ := id hA
  go_wp2
  all_goals
    refine bodyPost_ret (v := (⟨n, d, t, 0⟩ : Got).r) (by simp [results, Tryz.results51, go_sem, Got.r, m0, m1, m2, m3]) rfl ⟨rfl, ?_⟩
    go_grown

end Go.Proofs.YtndinbefljajcaaGreatDoor.Frac

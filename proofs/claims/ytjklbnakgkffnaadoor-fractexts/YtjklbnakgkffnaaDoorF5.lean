/-
  Contracts of frac.Make, Right, Mul, Div, Pow, each by one Lean function of the numbers; the world below stays as it was.
-/
import Derived.Test.YtjklbnakgkffnaaDoorF4
namespace Go.Proofs.YtjklbnakgkffnaaDoor.Frac
open Go.RowKit
open Go.Proofs.YtjklbnakgkffnaaDoor.Whole
set_option linter.unusedVariables false
set_option linter.unusedSimpArgs false

theorem Lies.new (w : World) (p : Pt) : Lies (w.alloc (.cells #[.int .i64 p.n, .int .i64 p.d, .int .i64 p.e2, .int .i64 p.e5] 96)) w.heap.size p := by
  refine ⟨?_, ?_, ?_, ?_, ?_⟩
  all_goals simp [go_sem]

theorem Below.go {w v v' : World} (h : Below w.heap.size w v) (h' : Below v.heap.size v v') : Below w.heap.size w v' := h.trans (h'.mono h.size)

/-- In the world v the block b is room for a frac. -/
def Room (v : World) (b : Nat) : Prop :=
  v.cell? ⟨b, 0, none⟩ = some (.int .i64 0) ∧ v.cell? ⟨b, 1, none⟩ = some (.int .i64 0) ∧ v.cell? ⟨b, 2, none⟩ = some (.int .i64 0) ∧ (∀ j, v.frozen? ⟨b, j, none⟩ = false) ∧ b < v.heap.size

theorem Room.below {v v' : World} {b B : Nat} (h : Room v b) (hb : Below B v v') (hB : b < B) : Room v' b := by
  obtain ⟨h0, h1, h2, h3, hz⟩ := h
  exact ⟨(hb.cell (p := ⟨b, 0, none⟩) hB).trans h0, (hb.cell (p := ⟨b, 1, none⟩) hB).trans h1, (hb.cell (p := ⟨b, 2, none⟩) hB).trans h2, fun j => (hb.frozen (p := ⟨b, j, none⟩) hB).trans (h3 j), by have := hb.size; omega⟩

theorem Room.new (w : World) : Room (w.alloc (.cells #[.int .i64 0, .int .i64 0, .int .i64 0] 24)) w.heap.size := by
  refine ⟨?_, ?_, ?_, fun j => ?_, ?_⟩
  all_goals simp [go_sem]

set_option maxRecDepth 100000 in
set_option maxHeartbeats 1000000 in
theorem make_arg (num den ten : Int) (w : World) (h : num < -9223372036854775807 ∨ den < -9223372036854775807) :
    Calls Tryd.prog 29 #[.int .i64 num, .int .i64 den, .int .i64 ten] w fun e w' => e = .returned (.tuple #[.agg #[.int .i64 0, .int .i64 0, .int .i64 0], .int .i64 1]) ∧ Below w.heap.size w w' := by
  by_cases h1 : num < -9223372036854775807
  · go_enter Tryd.func29, Tryd.ntmps29
    go_wp2_with (go_at_call 59; ((with_reducible refine (fits_no _ _ h1).mono ?_); rintro e w' ⟨rfl, rfl⟩))
    refine bodyPost_ret (v := .tuple #[.agg #[.int .i64 0, .int .i64 0, .int .i64 0], .int .i64 1]) (by simp [results, Tryd.results29, go_sem]) rfl ⟨rfl, ?_⟩
    go_grown
  · have h2 : den < -9223372036854775807 := by omega
    go_enter Tryd.func29, Tryd.ntmps29
    go_wp2_with (first
      | (go_at_call_of 59 (Value.int IntKind.i64 den); ((with_reducible refine (fits_no _ _ h2).mono ?_); rintro e w' ⟨rfl, rfl⟩))
      | (go_at_call_of 59 (Value.int IntKind.i64 num); ((with_reducible refine (fits_yes _ _ (by omega)).mono ?_); rintro e w' ⟨rfl, rfl⟩)))
    refine bodyPost_ret (v := .tuple #[.agg #[.int .i64 0, .int .i64 0, .int .i64 0], .int .i64 1]) (by simp [results, Tryd.results29, go_sem]) rfl ⟨rfl, ?_⟩
    go_grown

set_option maxRecDepth 100000 in
set_option maxHeartbeats 1000000 in
theorem make_zero (num ten : Int) (w : World) (h : -9223372036854775807 ≤ num) :
    Calls Tryd.prog 29 #[.int .i64 num, .int .i64 0, .int .i64 ten] w fun e w' => e = .returned (.tuple #[.agg #[.int .i64 0, .int .i64 0, .int .i64 0], .int .i64 11]) ∧ Below w.heap.size w w' := by
  go_enter Tryd.func29, Tryd.ntmps29
  go_wp2_with (go_at_call 59; ((with_reducible refine (fits_yes _ _ (by omega)).mono ?_); rintro e w' ⟨rfl, rfl⟩))
  refine bodyPost_ret (v := .tuple #[.agg #[.int .i64 0, .int .i64 0, .int .i64 0], .int .i64 11]) (by simp [results, Tryd.results29, go_sem]) rfl ⟨rfl, ?_⟩
  go_grown

/-- The powers of ten that are tried, as the program holds them. -/
def NearIs (ten t : Int) : Prop := ten ≤ -2000 ∧ t = -2000 ∨ 2000 < ten ∧ t = 2000 ∨ -2000 < ten ∧ ten ≤ 2000 ∧ t = ten

set_option maxRecDepth 100000 in
set_option maxHeartbeats 2000000 in
theorem make_join (num den ten t : Int) (w : World) (hT : OfTen w) (h1 : num.natAbs ≤ 9223372036854775807) (h2 : den.natAbs ≤ 9223372036854775807) (h0 : den ≠ 0) (ht : NearIs ten t) :
    Calls Tryd.prog 29 #[.int .i64 num, .int .i64 den, .int .i64 ten] w fun e w' => e = .returned (joinP (apartP num t) 1 (turnP (apartP den 0))).v ∧ Below w.heap.size w w' := by
  have z0 : (den == 0) = false := by simpa using h0
  obtain ⟨ok1, _⟩ := apart_ok num t h1 (by unfold NearIs at ht; omega) (by unfold NearIs at ht; omega)
  obtain ⟨ok2, _⟩ := apart_ok den 0 h2 (by omega) (by omega)
  have hne : (apartP den 0).n ≠ 0 := by
    unfold apartP; rw [if_neg h0]; exact spL_ne _ 5 (by omega) (spL_ne _ 2 (by omega) h0)
  have ok3 := turn_ok ok2 hne
  have H3 := Lib.hid hne
  clear hne h0
  rcases ht with ⟨t1, rfl⟩ | ⟨t1, rfl⟩ | ⟨t1, t2, rfl⟩
  all_goals
    go_enter Tryd.func29, Tryd.ntmps29
    go_wp2_with (go_at_call 59; ((with_reducible refine (fits_yes _ _ (by omega)).mono ?_); rintro e w' ⟨rfl, rfl⟩))
    have hB0 : Below w.heap.size w (w.alloc (Obj.cells #[Value.int IntKind.i64 0, Value.int IntKind.i64 0, Value.int IntKind.i64 0] 24)) := by go_grown
    have hR := Room.new w
    refine (apart_any num _ _ (hT.below hB0) h1 (by omega) (by omega)).mono ?_
    rintro e w1 ⟨rfl, hb1⟩
    have hB1 := Below.go hB0 hb1
    replace hR := hR.below hb1 hR.2.2.2.2
    clear hb1 hB0
    go_wp2_with fail
    refine (apart_any den _ _ (hT.below hB1) h2 (by omega) (by omega)).mono ?_
    rintro e w2 ⟨rfl, hb2⟩
    have hB2 := Below.go hB1 hb2
    replace hR := hR.below hb2 hR.2.2.2.2
    clear hb2 hB1
    go_wp2_with fail
    refine (turned_any _ _ (ok2.more (by omega))).mono ?_
    rintro e w3 ⟨rfl, hb3⟩
    have hB3 := Below.go hB2 hb3
    replace hR := hR.below hb3 hR.2.2.2.2
    clear hb3 hB2
    go_wp2_with fail
    refine (times_yes _ _ _ _ _).mono ?_
    rintro e w4 ⟨rfl, rfl⟩
    have hL := Lies.new w3 (turnP (apartP den 0))
    have hA : Below w3.heap.size w3 (w3.alloc (.cells #[.int .i64 (turnP (apartP den 0)).n, .int .i64 (turnP (apartP den 0)).d, .int .i64 (turnP (apartP den 0)).e2, .int .i64 (turnP (apartP den 0)).e5] 96)) := by go_grown
    have hB4 := Below.go hB3 hA
    replace hR := hR.below hA hR.2.2.2.2
    clear hA hB3
    go_wp2_with fail
    refine (join_any _ _ 1 _ _ (hT.below hB4) hL (ok1.more (by omega)) (ok3.more (by omega)) (by omega)).mono ?_
    rintro e w5 ⟨rfl, hb5⟩
    have hB5 := Below.go hB4 hb5
    replace hR := hR.below hb5 hR.2.2.2.2
    clear hb5 hB4 hL
    obtain ⟨r0, r1, r2, rf, rz⟩ := hR
    generalize hG : joinP _ 1 (turnP (apartP den 0)) = G
    have HG := Lib.hid hG
    clear hG
    unfold Got.v
    go_wp2
    refine bodyPost_ret (v := G.v) (by simp [results, Tryd.results29, go_sem, Got.v, r0, r1, r2]) rfl ⟨by rw [HG.out], ?_⟩
    go_grown

theorem make_any (num den ten : Int) (w : World) (hT : OfTen w) (h1 : num ≤ 9223372036854775807) (h2 : den ≤ 9223372036854775807) :
    Calls Tryd.prog 29 #[.int .i64 num, .int .i64 den, .int .i64 ten] w fun e w' => e = .returned (makeG num den ten).v ∧ Below w.heap.size w w' := by
  unfold makeG
  by_cases ha : num < -9223372036854775807 ∨ den < -9223372036854775807
  · rw [if_pos ha]; exact make_arg num den ten w ha
  rw [if_neg ha]
  by_cases h0 : den = 0
  · rw [if_pos h0, h0]; exact make_zero num ten w (by omega)
  rw [if_neg h0]
  refine make_join num den ten (near ten) w hT (by omega) (by omega) h0 ?_
  unfold near NearIs
  by_cases t1 : ten < -2000
  · rw [if_pos t1]; exact .inl ⟨by omega, rfl⟩
  rw [if_neg t1]
  by_cases t2 : 2000 < ten
  · rw [if_pos t2]; exact .inr (.inl ⟨t2, rfl⟩)
  · rw [if_neg t2]; omega

theorem right_of {n d t : Int} {G : Got} (h : makeG n d t = G) : rightB n d t = decide (G.n = n ∧ G.d = d ∧ G.t = t ∧ G.e = 0) := by
  unfold rightB
  rw [h]
  obtain ⟨a, b, c, e⟩ := G
  rw [Bool.eq_iff_iff]
  simp

set_option maxRecDepth 100000 in
set_option maxHeartbeats 1000000 in
theorem right_any (n d t : Int) (w : World) (hT : OfTen w) (h1 : n ≤ 9223372036854775807) (h2 : d ≤ 9223372036854775807) :
    Calls Tryd.prog 35 #[.agg #[.int .i64 n, .int .i64 d, .int .i64 t]] w fun e w' => e = .returned (.bool (rightB n d t)) ∧ Below w.heap.size w w' := by
  have hB0 : Below w.heap.size w (w.alloc (Obj.cells #[Value.int IntKind.i64 n, Value.int IntKind.i64 d, Value.int IntKind.i64 t] 24)) := by go_grown
  go_enter Tryd.func35, Tryd.ntmps35
  go_wp2_with fail
  refine (make_any _ _ _ _ (hT.below hB0) h1 h2).mono ?_
  rintro e w1 ⟨rfl, hb1⟩
  obtain ⟨hc, hf⟩ := bcell hb1
  have c0 : w1.cell? ⟨w.heap.size, 0, none⟩ = some (.int .i64 n) := by rw [hc _ _ (by simp)]; simp [go_sem]
  have c1 : w1.cell? ⟨w.heap.size, 1, none⟩ = some (.int .i64 d) := by rw [hc _ _ (by simp)]; simp [go_sem]
  have c2 : w1.cell? ⟨w.heap.size, 2, none⟩ = some (.int .i64 t) := by rw [hc _ _ (by simp)]; simp [go_sem]
  have hz : w.heap.size < w1.heap.size := by have := hb1.size; simp at this; omega
  have hB1 := Below.go hB0 hb1
  clear hc hf hb1 hB0
  generalize hG : makeG n d t = G
  have HG := Lib.hid hG
  clear hG
  unfold Got.v
  by_cases he : G.e = 0
  · have e0 : (G.e == 0) = true := by simpa using he
    go_wp2
    all_goals go_ret
    all_goals refine ⟨?_, by go_grown⟩
    all_goals (rw [right_of HG.out]; simp [*])
  · have e0 : (G.e == 0) = false := by simpa using he
    go_wp2
    go_ret
    refine ⟨?_, by go_grown⟩
    rw [right_of HG.out]; simp [*]

end Go.Proofs.YtjklbnakgkffnaaDoor.Frac

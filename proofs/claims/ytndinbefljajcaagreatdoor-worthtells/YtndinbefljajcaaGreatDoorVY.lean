/-
  Contract of worth.reckon at any functions that are handed to it; the world below stays as it was. Contract of worth.reckon where nothing is reckoned, and whole; the world below stays as it was. Contracts of worth.Mul, Div, Pow, Of; the world below stays as it was.
-/
import Derived.Test.YtndinbefljajcaaGreatDoorVX
import Derived.Deep.Cut
namespace Go.Proofs.YtndinbefljajcaaGreatDoor.Worth
open Go.RowKit Go.Shelf
open Go.Proofs.YtndinbefljajcaaGreatDoor.Frac (Got OfTen Room)
open Go.Proofs.YtndinbefljajcaaGreatDoor.Dims (D7 dZero Lies7)
set_option linter.unusedVariables false
set_option linter.unusedSimpArgs false

/-- What reckon answers: the numbers, and the dims, put together, or an error. -/
noncomputable def putW (a b : Wo) (G : Got) (P : D7 × Bool) : Wo × Int :=
  if rightW a = false ∨ rightW b = false then (wZero, 1) else if a.g ≠ 0 ∨ b.g ≠ 0 then (wZero, 18) else if G.e ≠ 0 then (wZero, G.e) else if P.2 = false then (wZero, 10) else (⟨G.n, G.d, G.t, P.1, 0⟩, 0)

/-- How the world stands within reckon: both boxes, and room. -/
def ReckAt (w v : World) (a b : Wo) : Prop := Below w.heap.size w v ∧ LiesW v w.heap.size a ∧ LiesW v (w.heap.size + 1) b ∧ LiesW v (w.heap.size + 1 + 1) wZero
theorem ReckAt.go {w v v' : World} {a b : Wo} (h : ReckAt w v a b) (hb : Below v.heap.size v v') : ReckAt w v' a b :=
  ⟨Dims.Below.goB h.1 h.1.size hb, h.2.1.go hb, h.2.2.1.go hb, h.2.2.2.go hb⟩
theorem ReckAt.new (w : World) (a b : Wo) : ReckAt w (((w.alloc (.cells a.cs 30)).alloc (.cells b.cs 30)).alloc (.cells wZero.cs 30)) a b := by
  have h1 := LiesW.new w a
  have h2 := LiesW.new (w.alloc (.cells a.cs 30)) b
  have h3 := LiesW.new ((w.alloc (.cells a.cs 30)).alloc (.cells b.cs 30)) wZero
  simp only [World.size_alloc] at h2 h3
  exact ⟨by go_grown, (h1.alloc _).alloc _, h2.alloc _, h3⟩

set_option maxRecDepth 100000 in
set_option maxHeartbeats 4000000 in
theorem reckon_plain (a b : Wo) (k1 k2 : Nat) (q1 q2 : Array Value) (G : Got) (P : D7 × Bool) (w : World) (hT : OfTen w) (fa : a.Fine) (fb : b.Fine)
    (e1 : ∀ args W, (callFunc k1 args).run Tryz.prog W = .ok (.enter k1 args) W) (e2 : ∀ args W, (callFunc k2 args).run Tryz.prog W = .ok (.enter k2 args) W)
    (h1 : ∀ V, Below w.heap.size w V → Calls Tryz.prog k1 q1 V fun e W' => e = .returned G.v ∧ Below V.heap.size V W')
    (h2 : ∀ V, Below w.heap.size w V → Calls Tryz.prog k2 q2 V fun e W' => e = .returned (.tuple #[P.1.v, .bool P.2]) ∧ Below V.heap.size V W')
    (ra : rightW a = true) (rb : rightW b = true) (pa : a.g = 0) (pb : b.g = 0) :
    Calls Tryz.prog 22 #[a.v, b.v, .func (.func k1) #[] q1, .func (.func k2) #[] q2] w fun e w' => e = .returned (.tuple #[(putW a b G P).1.v, .int .i64 (putW a b G P).2]) ∧ Below w.heap.size w w' := by
  have hA := ReckAt.new w a b
  have rA := right_any a
  have rB := right_any b
  have pA := plain_any a
  have pB := plain_any b
  have RA := Lib.hid ra
  have RB := Lib.hid rb
  have PA : Hid ((a.g == 0) = true) := by show _ = _; simp [pa]
  have PB : Hid ((b.g == 0) = true) := by show _ = _; simp [pb]
  have HP : Hid (putW a b G P = if G.e ≠ 0 then (wZero, G.e) else if P.2 = false then (wZero, 10) else (⟨G.n, G.d, G.t, P.1, 0⟩, 0)) := by
    show _ = _
    unfold putW
    rw [if_neg (by simp [ra, rb]), if_neg (by simp [pa, pb])]
  clear ra rb pa pb
  simp only [Wo.v, Wo.cs, D7.v, wZero, dZero] at rA rB pA pB hA h2 ⊢
  obtain ⟨c0, c1, c2, c3, c4, c5, c6, c7, c8, c9, c10⟩ := hA.2.1.cells
  go_enter Tryz.func22, Tryz.ntmps22
  go_wp2_with fail
  refine (rA _ (hT.below hA.1) fa).mono ?_
  rintro e w1 ⟨rfl, hb⟩
  rw [RA.out]
  replace hA := hA.go hb
  clear hb c0 c1 c2 c3 c4 c5 c6 c7 c8 c9 c10
  obtain ⟨c0, c1, c2, c3, c4, c5, c6, c7, c8, c9, c10⟩ := hA.2.2.1.cells
  go_wp2_with fail
  refine (rB _ (hT.below hA.1) fb).mono ?_
  rintro e w2 ⟨rfl, hb⟩
  rw [RB.out]
  replace hA := hA.go hb
  clear hb c0 c1 c2 c3 c4 c5 c6 c7 c8 c9 c10
  obtain ⟨c0, c1, c2, c3, c4, c5, c6, c7, c8, c9, c10⟩ := hA.2.1.cells
  go_wp2_with fail
  refine (pA _).mono ?_
  rintro e w3 ⟨rfl, hb⟩
  rw [PA.out]
  replace hA := hA.go hb
  clear hb c0 c1 c2 c3 c4 c5 c6 c7 c8 c9 c10
  obtain ⟨c0, c1, c2, c3, c4, c5, c6, c7, c8, c9, c10⟩ := hA.2.2.1.cells
  go_wp2_with fail
  refine (pB _).mono ?_
  rintro e w4 ⟨rfl, hb⟩
  rw [PB.out]
  replace hA := hA.go hb
  clear hb c0 c1 c2 c3 c4 c5 c6 c7 c8 c9 c10
  go_wp2_with fail
  refine (h1 _ hA.1).mono ?_
  rintro e w5 ⟨rfl, hb⟩
  replace hA := hA.go hb
  clear hb
  unfold Frac.Got.v
  have hU : ∀ v : World, Below v.heap.size v (v.alloc (.cells #[.int .i64 G.n, .int .i64 G.d, .int .i64 G.t] 28)) := fun v => by go_grown
  have hN := Frac.LiesF.new w5 G.n G.d G.t
  by_cases he : G.e = 0
  · have he' : (G.e == 0) = true := by simp [he]
    have he2 : (G.e != 0) = false := by simp [he]
    rw [if_neg (by simp [he])] at HP
    have HE := Lib.hid he
    clear he
    go_wp2_with fail
    replace hA := hA.go (hU w5)
    refine (h2 _ hA.1).mono ?_
    rintro e w6 ⟨rfl, hb⟩
    replace hA := hA.go hb
    replace hN := hN.go hb
    clear hb
    obtain ⟨D, o⟩ := P
    have hV : Below w6.heap.size w6 (w6.alloc (.cells #[.int .i64 D.a0, .int .i64 D.a1, .int .i64 D.a2, .int .i64 D.a3, .int .i64 D.a4, .int .i64 D.a5, .int .i64 D.a6] 23)) := by go_grown
    have hM := Lies7.new w6 D
    replace hA := hA.go hV
    replace hN := hN.go hV
    go_upto_region 9 with fail
    clear hV
    generalize (w6.alloc (.cells #[.int .i64 D.a0, .int .i64 D.a1, .int .i64 D.a2, .int .i64 D.a3, .int .i64 D.a4, .int .i64 D.a5, .int .i64 D.a6] 23)) = U at *
    obtain ⟨hB, _, _, hZ⟩ := id hA
    obtain ⟨z0, z1, z2, z3, z4, z5, z6, z7, z8, z9, z10⟩ := hZ.cells
    have zf := hZ.2.1
    have zs := hZ.2.2
    obtain ⟨n0, n1, n2, n3⟩ := hN
    obtain ⟨m0, m1, m2, m3, m4, m5, m6⟩ := hM.cells
    simp only [D7.get] at m0 m1 m2 m3 m4 m5 m6
    clear hA hZ hM h1 h2 rA rB pA pB e1 e2
    cases o with
    | true =>
      rw [if_neg (by simp)] at HP
      go_wp2
      refine bodyPost_ret (v := .tuple #[(⟨G.n, G.d, G.t, D, 0⟩ : Wo).v, .int .i64 0]) (by simp [results, Tryz.results22, go_sem, Wo.v, wZero, dZero, z0, z1, z2, z3, z4, z5, z6, z7, z8, z9, z10]) rfl ⟨by rw [HP.out]; rfl, ?_⟩
      go_grown
    | false =>
      rw [if_pos rfl] at HP
      go_wp2
      refine bodyPost_ret (v := .tuple #[(wZero : Wo).v, .int .i64 10]) (by simp [results, Tryz.results22, go_sem, Wo.v, wZero, dZero, z0, z1, z2, z3, z4, z5, z6, z7, z8, z9, z10]) rfl ⟨by rw [HP.out]; rfl, ?_⟩
      go_grown
  · have he' : (G.e == 0) = false := by simpa using he
    have he2 : (G.e != 0) = true := by simpa using he
    rw [if_pos he] at HP
    have HE := Lib.hid he
    clear he
    replace hA := hA.go (hU w5)
    go_upto_region 6 with fail
    clear hU
    generalize (w5.alloc (.cells #[.int .i64 G.n, .int .i64 G.d, .int .i64 G.t] 28)) = U at *
    obtain ⟨hB, _, _, hZ⟩ := id hA
    obtain ⟨z0, z1, z2, z3, z4, z5, z6, z7, z8, z9, z10⟩ := hZ.cells
    have zf := hZ.2.1
    have zs := hZ.2.2
    clear hA hZ h1 h2 rA rB pA pB e1 e2
    go_wp2
    refine bodyPost_ret (v := .tuple #[(wZero : Wo).v, .int .i64 G.e]) (by simp [results, Tryz.results22, go_sem, Wo.v, wZero, dZero, z0, z1, z2, z3, z4, z5, z6, z7, z8, z9, z10]) rfl ⟨by rw [HP.out]; rfl, ?_⟩
    go_grown

end Go.Proofs.YtndinbefljajcaaGreatDoor.Worth

namespace Go.Proofs.YtndinbefljajcaaGreatDoor.Worth
open Go.RowKit Go.Shelf
open Go.Proofs.YtndinbefljajcaaGreatDoor.Frac (Got OfTen Room)
open Go.Proofs.YtndinbefljajcaaGreatDoor.Dims (D7 dZero Lies7)
set_option linter.unusedVariables false
set_option linter.unusedSimpArgs false

set_option maxRecDepth 100000 in
set_option maxHeartbeats 4000000 in
theorem reckon_arg1 (a b : Wo) (k1 k2 : Nat) (q1 q2 : Array Value) (G : Got) (P : D7 × Bool) (w : World) (hT : OfTen w) (fa : a.Fine) (fb : b.Fine)
    (ra : rightW a = false) :
    Calls Tryz.prog 22 #[a.v, b.v, .func (.func k1) #[] q1, .func (.func k2) #[] q2] w fun e w' => e = .returned (.tuple #[(putW a b G P).1.v, .int .i64 (putW a b G P).2]) ∧ Below w.heap.size w w' := by
  have hA := ReckAt.new w a b
  have rA := right_any a
  have rB := right_any b
  have pA := plain_any a
  have pB := plain_any b
  have RA := Lib.hid ra
  have HP : Hid (putW a b G P = (wZero, 1)) := by
    show _ = _
    unfold putW
    rw [if_pos (.inl ra)]
  clear ra
  simp only [Wo.v, Wo.cs, wZero, dZero] at rA rB pA pB hA ⊢
  obtain ⟨c0, c1, c2, c3, c4, c5, c6, c7, c8, c9, c10⟩ := hA.2.1.cells
  go_enter Tryz.func22, Tryz.ntmps22
  go_wp2_with fail
  refine (rA _ (hT.below hA.1) fa).mono ?_
  rintro e w1 ⟨rfl, hb⟩
  rw [RA.out]
  replace hA := hA.go hb
  clear hb c0 c1 c2 c3 c4 c5 c6 c7 c8 c9 c10
  obtain ⟨hB, _, _, hZ⟩ := id hA
  obtain ⟨z0, z1, z2, z3, z4, z5, z6, z7, z8, z9, z10⟩ := hZ.cells
  have zf := hZ.2.1
  go_wp2
  refine bodyPost_ret (v := .tuple #[(wZero : Wo).v, .int .i64 1]) (by simp [results, Tryz.results22, go_sem, Wo.v, wZero, dZero, z0, z1, z2, z3, z4, z5, z6, z7, z8, z9, z10]) rfl ⟨by rw [HP.out]; rfl, ?_⟩
  go_grown

set_option maxRecDepth 100000 in
set_option maxHeartbeats 4000000 in
theorem reckon_arg2 (a b : Wo) (k1 k2 : Nat) (q1 q2 : Array Value) (G : Got) (P : D7 × Bool) (w : World) (hT : OfTen w) (fa : a.Fine) (fb : b.Fine)
    (ra : rightW a = true) (rb : rightW b = false) :
    Calls Tryz.prog 22 #[a.v, b.v, .func (.func k1) #[] q1, .func (.func k2) #[] q2] w fun e w' => e = .returned (.tuple #[(putW a b G P).1.v, .int .i64 (putW a b G P).2]) ∧ Below w.heap.size w w' := by
  have hA := ReckAt.new w a b
  have rA := right_any a
  have rB := right_any b
  have pA := plain_any a
  have pB := plain_any b
  have RA := Lib.hid ra
  have RB := Lib.hid rb
  have HP : Hid (putW a b G P = (wZero, 1)) := by
    show _ = _
    unfold putW
    rw [if_pos (.inr rb)]
  clear ra rb
  simp only [Wo.v, Wo.cs, wZero, dZero] at rA rB pA pB hA ⊢
  obtain ⟨c0, c1, c2, c3, c4, c5, c6, c7, c8, c9, c10⟩ := hA.2.1.cells
  go_enter Tryz.func22, Tryz.ntmps22
  go_wp2_with fail
  refine (rA _ (hT.below hA.1) fa).mono ?_
  rintro e w1 ⟨rfl, hb⟩
  rw [RA.out]
  replace hA := hA.go hb
  clear hb c0 c1 c2 c3 c4 c5 c6 c7 c8 c9 c10
  obtain ⟨c0, c1, c2, c3, c4, c5, c6, c7, c8, c9, c10⟩ := hA.2.2.1.cells
  go_wp2_with fail
  refine (rB _ (hT.below hA.1) fb).mono ?_
  rintro e w2 ⟨rfl, hb⟩
  rw [RB.out]
  replace hA := hA.go hb
  clear hb c0 c1 c2 c3 c4 c5 c6 c7 c8 c9 c10
  obtain ⟨hB, _, _, hZ⟩ := id hA
  obtain ⟨z0, z1, z2, z3, z4, z5, z6, z7, z8, z9, z10⟩ := hZ.cells
  have zf := hZ.2.1
  go_wp2
  refine bodyPost_ret (v := .tuple #[(wZero : Wo).v, .int .i64 1]) (by simp [results, Tryz.results22, go_sem, Wo.v, wZero, dZero, z0, z1, z2, z3, z4, z5, z6, z7, z8, z9, z10]) rfl ⟨by rw [HP.out]; rfl, ?_⟩
  go_grown

set_option maxRecDepth 100000 in
set_option maxHeartbeats 4000000 in
theorem reckon_special1 (a b : Wo) (k1 k2 : Nat) (q1 q2 : Array Value) (G : Got) (P : D7 × Bool) (w : World) (hT : OfTen w) (fa : a.Fine) (fb : b.Fine)
    (ra : rightW a = true) (rb : rightW b = true) (pa : a.g ≠ 0) :
    Calls Tryz.prog 22 #[a.v, b.v, .func (.func k1) #[] q1, .func (.func k2) #[] q2] w fun e w' => e = .returned (.tuple #[(putW a b G P).1.v, .int .i64 (putW a b G P).2]) ∧ Below w.heap.size w w' := by
  have hA := ReckAt.new w a b
  have rA := right_any a
  have rB := right_any b
  have pA := plain_any a
  have pB := plain_any b
  have RA := Lib.hid ra
  have RB := Lib.hid rb
  have PA : Hid ((a.g == 0) = false) := by show _ = _; simpa using pa
  have HP : Hid (putW a b G P = (wZero, 18)) := by
    show _ = _
    unfold putW
    rw [if_neg (by simp [ra, rb]), if_pos (.inl pa)]
  clear ra rb pa
  simp only [Wo.v, Wo.cs, wZero, dZero] at rA rB pA pB hA ⊢
  obtain ⟨c0, c1, c2, c3, c4, c5, c6, c7, c8, c9, c10⟩ := hA.2.1.cells
  go_enter Tryz.func22, Tryz.ntmps22
  go_wp2_with fail
  refine (rA _ (hT.below hA.1) fa).mono ?_
  rintro e w1 ⟨rfl, hb⟩
  rw [RA.out]
  replace hA := hA.go hb
  clear hb c0 c1 c2 c3 c4 c5 c6 c7 c8 c9 c10
  obtain ⟨c0, c1, c2, c3, c4, c5, c6, c7, c8, c9, c10⟩ := hA.2.2.1.cells
  go_wp2_with fail
  refine (rB _ (hT.below hA.1) fb).mono ?_
  rintro e w2 ⟨rfl, hb⟩
  rw [RB.out]
  replace hA := hA.go hb
  clear hb c0 c1 c2 c3 c4 c5 c6 c7 c8 c9 c10
  obtain ⟨c0, c1, c2, c3, c4, c5, c6, c7, c8, c9, c10⟩ := hA.2.1.cells
  go_wp2_with fail
  refine (pA _).mono ?_
  rintro e w3 ⟨rfl, hb⟩
  rw [PA.out]
  replace hA := hA.go hb
  clear hb c0 c1 c2 c3 c4 c5 c6 c7 c8 c9 c10
  obtain ⟨hB, _, _, hZ⟩ := id hA
  obtain ⟨z0, z1, z2, z3, z4, z5, z6, z7, z8, z9, z10⟩ := hZ.cells
  have zf := hZ.2.1
  go_wp2
  refine bodyPost_ret (v := .tuple #[(wZero : Wo).v, .int .i64 18]) (by simp [results, Tryz.results22, go_sem, Wo.v, wZero, dZero, z0, z1, z2, z3, z4, z5, z6, z7, z8, z9, z10]) rfl ⟨by rw [HP.out]; rfl, ?_⟩
  go_grown

set_option maxRecDepth 100000 in
set_option maxHeartbeats 4000000 in
theorem reckon_special2 (a b : Wo) (k1 k2 : Nat) (q1 q2 : Array Value) (G : Got) (P : D7 × Bool) (w : World) (hT : OfTen w) (fa : a.Fine) (fb : b.Fine)
    (ra : rightW a = true) (rb : rightW b = true) (pa : a.g = 0) (pb : b.g ≠ 0) :
    Calls Tryz.prog 22 #[a.v, b.v, .func (.func k1) #[] q1, .func (.func k2) #[] q2] w fun e w' => e = .returned (.tuple #[(putW a b G P).1.v, .int .i64 (putW a b G P).2]) ∧ Below w.heap.size w w' := by
  have hA := ReckAt.new w a b
  have rA := right_any a
  have rB := right_any b
  have pA := plain_any a
  have pB := plain_any b
  have RA := Lib.hid ra
  have RB := Lib.hid rb
  have PA : Hid ((a.g == 0) = true) := by show _ = _; simp [pa]
  have PB : Hid ((b.g == 0) = false) := by show _ = _; simpa using pb
  have HP : Hid (putW a b G P = (wZero, 18)) := by
    show _ = _
    unfold putW
    rw [if_neg (by simp [ra, rb]), if_pos (.inr pb)]
  clear ra rb pa pb
  simp only [Wo.v, Wo.cs, wZero, dZero] at rA rB pA pB hA ⊢
  obtain ⟨c0, c1, c2, c3, c4, c5, c6, c7, c8, c9, c10⟩ := hA.2.1.cells
  go_enter Tryz.func22, Tryz.ntmps22
  go_wp2_with fail
  refine (rA _ (hT.below hA.1) fa).mono ?_
  rintro e w1 ⟨rfl, hb⟩
  rw [RA.out]
  replace hA := hA.go hb
  clear hb c0 c1 c2 c3 c4 c5 c6 c7 c8 c9 c10
  obtain ⟨c0, c1, c2, c3, c4, c5, c6, c7, c8, c9, c10⟩ := hA.2.2.1.cells
  go_wp2_with fail
  refine (rB _ (hT.below hA.1) fb).mono ?_
  rintro e w2 ⟨rfl, hb⟩
  rw [RB.out]
  replace hA := hA.go hb
  clear hb c0 c1 c2 c3 c4 c5 c6 c7 c8 c9 c10
  obtain ⟨c0, c1, c2, c3, c4, c5, c6, c7, c8, c9, c10⟩ := hA.2.1.cells
  go_wp2_with fail
  refine (pA _).mono ?_
  rintro e w3 ⟨rfl, hb⟩
  rw [PA.out]
  replace hA := hA.go hb
  clear hb c0 c1 c2 c3 c4 c5 c6 c7 c8 c9 c10
  obtain ⟨c0, c1, c2, c3, c4, c5, c6, c7, c8, c9, c10⟩ := hA.2.2.1.cells
  go_wp2_with fail
  refine (pB _).mono ?_
  rintro e w4 ⟨rfl, hb⟩
  rw [PB.out]
  replace hA := hA.go hb
  clear hb c0 c1 c2 c3 c4 c5 c6 c7 c8 c9 c10
  obtain ⟨hB, _, _, hZ⟩ := id hA
  obtain ⟨z0, z1, z2, z3, z4, z5, z6, z7, z8, z9, z10⟩ := hZ.cells
  have zf := hZ.2.1
  go_wp2
  refine bodyPost_ret (v := .tuple #[(wZero : Wo).v, .int .i64 18]) (by simp [results, Tryz.results22, go_sem, Wo.v, wZero, dZero, z0, z1, z2, z3, z4, z5, z6, z7, z8, z9, z10]) rfl ⟨by rw [HP.out]; rfl, ?_⟩
  go_grown

theorem reckon_any (a b : Wo) (k1 k2 : Nat) (q1 q2 : Array Value) (G : Got) (P : D7 × Bool) (w : World) (hT : OfTen w) (fa : a.Fine) (fb : b.Fine)
    (e1 : ∀ args W, (callFunc k1 args).run Tryz.prog W = .ok (.enter k1 args) W) (e2 : ∀ args W, (callFunc k2 args).run Tryz.prog W = .ok (.enter k2 args) W)
    (h1 : ∀ V, Below w.heap.size w V → Calls Tryz.prog k1 q1 V fun e W' => e = .returned G.v ∧ Below V.heap.size V W')
    (h2 : ∀ V, Below w.heap.size w V → Calls Tryz.prog k2 q2 V fun e W' => e = .returned (.tuple #[P.1.v, .bool P.2]) ∧ Below V.heap.size V W') :
    Calls Tryz.prog 22 #[a.v, b.v, .func (.func k1) #[] q1, .func (.func k2) #[] q2] w fun e w' => e = .returned (.tuple #[(putW a b G P).1.v, .int .i64 (putW a b G P).2]) ∧ Below w.heap.size w w' := by
  by_cases ra : rightW a = true
  · by_cases rb : rightW b = true
    · by_cases pa : a.g = 0
      · by_cases pb : b.g = 0
        · exact reckon_plain a b k1 k2 q1 q2 G P w hT fa fb e1 e2 h1 h2 ra rb pa pb
        · exact reckon_special2 a b k1 k2 q1 q2 G P w hT fa fb ra rb pa pb
      · exact reckon_special1 a b k1 k2 q1 q2 G P w hT fa fb ra rb pa
    · exact reckon_arg2 a b k1 k2 q1 q2 G P w hT fa fb ra (by simpa using rb)
  · exact reckon_arg1 a b k1 k2 q1 q2 G P w hT fa fb (by simpa using ra)

end Go.Proofs.YtndinbefljajcaaGreatDoor.Worth

namespace Go.Proofs.YtndinbefljajcaaGreatDoor.Worth
open Go.RowKit Go.Shelf
open Go.Proofs.YtndinbefljajcaaGreatDoor.Frac (Got OfTen Room)
open Go.Proofs.YtndinbefljajcaaGreatDoor.Dims (D7 dZero Lies7)
set_option linter.unusedVariables false
set_option linter.unusedSimpArgs false

noncomputable def mulW (a b : Wo) : Wo × Int := putW a b (Frac.mulG a.n a.d a.t b.n b.d b.t) (Dims.addG a.D b.D)
noncomputable def divW (a b : Wo) : Wo × Int := putW a b (Frac.divG a.n a.d a.t b.n b.d b.t) (Dims.subG a.D b.D)
noncomputable def powW (a : Wo) (n : Int) : Wo × Int := if n < -99 ∨ 99 < n then (wZero, 1) else putW a a (Frac.powG a.n a.d a.t n) (Dims.timesG a.D n)
def ofW (n : Int) : Wo × Int := (⟨(Frac.makeG n 1 0).n, (Frac.makeG n 1 0).d, (Frac.makeG n 1 0).t, dZero, 0⟩, (Frac.makeG n 1 0).e)

set_option maxRecDepth 100000 in
set_option maxHeartbeats 4000000 in
theorem mul_any (a b : Wo) (w : World) (hT : OfTen w) (fa : a.Fine) (fb : b.Fine) :
    Calls Tryz.prog 9 #[a.v, b.v] w fun e w' => e = .returned (.tuple #[(mulW a b).1.v, .int .i64 (mulW a b).2]) ∧ Below w.heap.size w w' := by
  have hA := ReckAt.new w a b
  have hR : ∀ V, ReckAt w V a b → Calls Tryz.prog 22 #[a.v, b.v, .func (.func 23) #[] #[.pointer (some ⟨w.heap.size, 0, none⟩), .pointer (some ⟨w.heap.size + 1, 0, none⟩)], .func (.func 25) #[] #[.pointer (some ⟨w.heap.size, 0, none⟩), .pointer (some ⟨w.heap.size + 1, 0, none⟩)]] V fun e w' => e = .returned (.tuple #[(mulW a b).1.v, .int .i64 (mulW a b).2]) ∧ Below V.heap.size V w' := by
    intro V hV
    refine reckon_any a b 23 25 _ _ (Frac.mulG a.n a.d a.t b.n b.d b.t) (Dims.addG a.D b.D) V (hT.below hV.1) fa fb (enters_of Tryz.func23 (by kernel_rfl) rfl) (enters_of Tryz.func25 (by kernel_rfl) rfl) ?_ ?_
    · intro U hU
      exact mul1_any a b w.heap.size (w.heap.size + 1) U (hT.below (hV.go hU).1) (hV.go hU).2.1 (hV.go hU).2.2.1 fb fa
    · intro U hU
      exact mul2_any a b w.heap.size (w.heap.size + 1) U (hV.go hU).2.1 (hV.go hU).2.2.1 fb fa
  generalize mulW a b = R at *
  simp only [Wo.v, Wo.cs, wZero, dZero] at hA hR ⊢
  obtain ⟨c0, c1, c2, c3, c4, c5, c6, c7, c8, c9, c10⟩ := hA.2.1.cells
  obtain ⟨d0, d1, d2, d3, d4, d5, d6, d7, d8, d9, d10⟩ := hA.2.2.1.cells
  go_enter Tryz.func9, Tryz.ntmps9
  go_wp2_with fail
  refine (hR _ hA).mono ?_
  rintro e w1 ⟨rfl, hb⟩
  replace hA := hA.go hb
  clear hb c0 c1 c2 c3 c4 c5 c6 c7 c8 c9 c10 d0 d1 d2 d3 d4 d5 d6 d7 d8 d9 d10 hR
  obtain ⟨hB, _, _, hZ⟩ := id hA
  obtain ⟨z0, z1, z2, z3, z4, z5, z6, z7, z8, z9, z10⟩ := hZ.cells
  have zf := hZ.2.1
  clear hA hZ
  go_wp2
  refine bodyPost_ret (v := .tuple #[R.1.v, .int .i64 R.2]) (by simp [results, Tryz.results9, go_sem, Wo.v, z0, z1, z2, z3, z4, z5, z6, z7, z8, z9, z10]) rfl ⟨rfl, ?_⟩
  go_grown

set_option maxRecDepth 100000 in
set_option maxHeartbeats 4000000 in
theorem div_any (a b : Wo) (w : World) (hT : OfTen w) (fa : a.Fine) (fb : b.Fine) :
    Calls Tryz.prog 14 #[a.v, b.v] w fun e w' => e = .returned (.tuple #[(divW a b).1.v, .int .i64 (divW a b).2]) ∧ Below w.heap.size w w' := by
  have hA := ReckAt.new w a b
  have hR : ∀ V, ReckAt w V a b → Calls Tryz.prog 22 #[a.v, b.v, .func (.func 39) #[] #[.pointer (some ⟨w.heap.size, 0, none⟩), .pointer (some ⟨w.heap.size + 1, 0, none⟩)], .func (.func 41) #[] #[.pointer (some ⟨w.heap.size, 0, none⟩), .pointer (some ⟨w.heap.size + 1, 0, none⟩)]] V fun e w' => e = .returned (.tuple #[(divW a b).1.v, .int .i64 (divW a b).2]) ∧ Below V.heap.size V w' := by
    intro V hV
    refine reckon_any a b 39 41 _ _ (Frac.divG a.n a.d a.t b.n b.d b.t) (Dims.subG a.D b.D) V (hT.below hV.1) fa fb (enters_of Tryz.func39 (by kernel_rfl) rfl) (enters_of Tryz.func41 (by kernel_rfl) rfl) ?_ ?_
    · intro U hU
      exact div1_any a b w.heap.size (w.heap.size + 1) U (hT.below (hV.go hU).1) (hV.go hU).2.1 (hV.go hU).2.2.1 fb fa
    · intro U hU
      exact div2_any a b w.heap.size (w.heap.size + 1) U (hV.go hU).2.1 (hV.go hU).2.2.1 fb fa
  generalize divW a b = R at *
  simp only [Wo.v, Wo.cs, wZero, dZero] at hA hR ⊢
  obtain ⟨c0, c1, c2, c3, c4, c5, c6, c7, c8, c9, c10⟩ := hA.2.1.cells
  obtain ⟨d0, d1, d2, d3, d4, d5, d6, d7, d8, d9, d10⟩ := hA.2.2.1.cells
  go_enter Tryz.func14, Tryz.ntmps14
  go_wp2_with fail
  refine (hR _ hA).mono ?_
  rintro e w1 ⟨rfl, hb⟩
  replace hA := hA.go hb
  clear hb c0 c1 c2 c3 c4 c5 c6 c7 c8 c9 c10 d0 d1 d2 d3 d4 d5 d6 d7 d8 d9 d10 hR
  obtain ⟨hB, _, _, hZ⟩ := id hA
  obtain ⟨z0, z1, z2, z3, z4, z5, z6, z7, z8, z9, z10⟩ := hZ.cells
  have zf := hZ.2.1
  clear hA hZ
  go_wp2
  refine bodyPost_ret (v := .tuple #[R.1.v, .int .i64 R.2]) (by simp [results, Tryz.results14, go_sem, Wo.v, z0, z1, z2, z3, z4, z5, z6, z7, z8, z9, z10]) rfl ⟨rfl, ?_⟩
  go_grown

/-- How the world stands within Pow. -/
def PowAt (w v : World) (a : Wo) (n : Int) : Prop := Below w.heap.size w v ∧ LiesW v w.heap.size a ∧ v.cell? ⟨w.heap.size + 1, 0, none⟩ = some (.int .i64 n) ∧ LiesW v (w.heap.size + 1 + 1) wZero
theorem PowAt.go {w v v' : World} {a : Wo} {n : Int} (h : PowAt w v a n) (hb : Below v.heap.size v v') : PowAt w v' a n :=
  ⟨Dims.Below.goB h.1 h.1.size hb, h.2.1.go hb, (hb.cell (p := ⟨w.heap.size + 1, 0, none⟩) (by have := h.2.2.2.2.2; show w.heap.size + 1 < _; omega)).trans h.2.2.1, h.2.2.2.go hb⟩
theorem PowAt.new (w : World) (a : Wo) (n : Int) : PowAt w (((w.alloc (.cells a.cs 30)).alloc (.cells #[.int .i64 n] 3)).alloc (.cells wZero.cs 30)) a n := by
  have h1 := LiesW.new w a
  have h3 := LiesW.new ((w.alloc (.cells a.cs 30)).alloc (.cells #[.int .i64 n] 3)) wZero
  simp only [World.size_alloc] at h3
  refine ⟨by go_grown, (h1.alloc _).alloc _, ?_, h3⟩
  simp [go_sem]

set_option maxRecDepth 100000 in
set_option maxHeartbeats 4000000 in
theorem pow_any (a : Wo) (n : Int) (w : World) (hT : OfTen w) (fa : a.Fine) (n0 : -9223372036854775808 ≤ n) (n1 : n ≤ 9223372036854775807) :
    Calls Tryz.prog 15 #[a.v, .int .i64 n] w fun e w' => e = .returned (.tuple #[(powW a n).1.v, .int .i64 (powW a n).2]) ∧ Below w.heap.size w w' := by
  have hA := PowAt.new w a n
  by_cases hn : n < -99 ∨ 99 < n
  · have HP : Hid (powW a n = (wZero, 1)) := by show _ = _; unfold powW; rw [if_pos hn]
    simp only [Wo.v, Wo.cs, wZero, dZero] at hA ⊢
    obtain ⟨hB, _, b0, hZ⟩ := id hA
    obtain ⟨z0, z1, z2, z3, z4, z5, z6, z7, z8, z9, z10⟩ := hZ.cells
    have zf := hZ.2.1
    rcases hn with hn | hn
    · have t1 : decide (n < -99) = true := by simpa using hn
      go_enter Tryz.func15, Tryz.ntmps15
      go_wp2
      refine bodyPost_ret (v := .tuple #[wZero.v, .int .i64 1]) (by simp [results, Tryz.results15, go_sem, Wo.v, wZero, dZero]) rfl ⟨by rw [HP.out]; rfl, ?_⟩
      go_grown
    · have t1 : decide (n < -99) = false := by simp; omega
      have t2 : decide (99 < n) = true := by simpa using hn
      go_enter Tryz.func15, Tryz.ntmps15
      go_wp2
      refine bodyPost_ret (v := .tuple #[wZero.v, .int .i64 1]) (by simp [results, Tryz.results15, go_sem, Wo.v, wZero, dZero]) rfl ⟨by rw [HP.out]; rfl, ?_⟩
      go_grown
  · have hR : ∀ V, PowAt w V a n → Calls Tryz.prog 22 #[a.v, a.v, .func (.func 43) #[] #[.pointer (some ⟨w.heap.size, 0, none⟩), .pointer (some ⟨w.heap.size + 1, 0, none⟩)], .func (.func 45) #[] #[.pointer (some ⟨w.heap.size, 0, none⟩), .pointer (some ⟨w.heap.size + 1, 0, none⟩)]] V fun e w' => e = .returned (.tuple #[(powW a n).1.v, .int .i64 (powW a n).2]) ∧ Below V.heap.size V w' := by
      intro V hV
      have e : powW a n = putW a a (Frac.powG a.n a.d a.t n) (Dims.timesG a.D n) := by unfold powW; rw [if_neg hn]
      rw [e]
      refine reckon_any a a 43 45 _ _ (Frac.powG a.n a.d a.t n) (Dims.timesG a.D n) V (hT.below hV.1) fa fa (enters_of Tryz.func43 (by kernel_rfl) rfl) (enters_of Tryz.func45 (by kernel_rfl) rfl) ?_ ?_
      · intro U hU
        have h := hV.go hU
        exact pow1_any a n w.heap.size (w.heap.size + 1) U (hT.below h.1) h.2.1 h.2.2.1 (by have := h.2.2.2.2.2; omega) n0 n1 fa
      · intro U hU
        have h := hV.go hU
        exact pow2_any a n w.heap.size (w.heap.size + 1) U h.2.1 h.2.2.1 (by have := h.2.2.2.2.2; omega) n0 n1 fa
    have t1 : decide (n < -99) = false := by simp; omega
    have t2 : decide (99 < n) = false := by simp; omega
    have u1 : -99 ≤ n := by omega
    have u2 : n ≤ 99 := by omega
    generalize powW a n = R at *
    simp only [Wo.v, Wo.cs, wZero, dZero] at hA hR ⊢
    obtain ⟨c0, c1, c2, c3, c4, c5, c6, c7, c8, c9, c10⟩ := hA.2.1.cells
    have d0 := hA.2.2.1
    go_enter Tryz.func15, Tryz.ntmps15
    go_wp2_with fail
    refine (hR _ hA).mono ?_
    rintro e w1 ⟨rfl, hb⟩
    replace hA := hA.go hb
    clear hb c0 c1 c2 c3 c4 c5 c6 c7 c8 c9 c10 d0 hR
    obtain ⟨hB, _, _, hZ⟩ := id hA
    obtain ⟨z0, z1, z2, z3, z4, z5, z6, z7, z8, z9, z10⟩ := hZ.cells
    have zf := hZ.2.1
    clear hA hZ
    go_wp2
    refine bodyPost_ret (v := .tuple #[R.1.v, .int .i64 R.2]) (by simp [results, Tryz.results15, go_sem, Wo.v, z0, z1, z2, z3, z4, z5, z6, z7, z8, z9, z10]) rfl ⟨rfl, ?_⟩
    go_grown

set_option maxRecDepth 100000 in
set_option maxHeartbeats 4000000 in
theorem of_any (n : Int) (w : World) (hT : OfTen w) (n1 : n ≤ 9223372036854775807) :
    Calls Tryz.prog 5 #[.int .i64 n] w fun e w' => e = .returned (.tuple #[(ofW n).1.v, .int .i64 (ofW n).2]) ∧ Below w.heap.size w w' := by
  have hB0 : Below w.heap.size w (w.alloc (.cells wZero.cs 30)) := by go_grown
  have hZ := LiesW.new w wZero
  have hM := Frac.make_any n 1 0
  unfold ofW
  generalize Frac.makeG n 1 0 = G at *
  simp only [Wo.v, Wo.cs, wZero, dZero] at hB0 hZ ⊢
  go_enter Tryz.func5, Tryz.ntmps5
  go_wp2_with fail
  refine (hM _ (hT.below hB0) n1 (by omega)).mono ?_
  rintro e w1 ⟨rfl, hb⟩
  replace hB0 := Frac.Below.go hB0 hb
  replace hZ := hZ.go hb
  clear hb hM
  unfold Frac.Got.v
  have hU : Below w1.heap.size w1 (w1.alloc (.cells #[.int .i64 G.n, .int .i64 G.d, .int .i64 G.t] 28)) := by go_grown
  have hN := Frac.LiesF.new w1 G.n G.d G.t
  replace hZ := hZ.go hU
  replace hB0 := Frac.Below.go hB0 hU
  go_upto_region 2 with fail
  clear hU
  generalize (w1.alloc (.cells #[.int .i64 G.n, .int .i64 G.d, .int .i64 G.t] 28)) = U at *
  obtain ⟨z0, z1, z2, z3, z4, z5, z6, z7, z8, z9, z10⟩ := hZ.cells
  have zf := hZ.2.1
  obtain ⟨n0, n1', n2, n3⟩ := hN
  go_wp2
  refine bodyPost_ret (v := .tuple #[(⟨G.n, G.d, G.t, dZero, 0⟩ : Wo).v, .int .i64 G.e]) (by simp [results, Tryz.results5, go_sem, Wo.v, dZero, z0, z1, z2, z3, z4, z5, z6, z7, z8, z9, z10]) rfl ⟨rfl, ?_⟩
  go_grown

end Go.Proofs.YtndinbefljajcaaGreatDoor.Worth


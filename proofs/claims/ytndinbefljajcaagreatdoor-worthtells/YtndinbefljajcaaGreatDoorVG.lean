/-
  Contracts of the document's answers for worths: Right, may, put, Of; the world below stays as it was.
-/
import Derived.Test.YtndinbefljajcaaGreatDoorVB
import Derived.Test.YtndinbefljajcaaGreatDoorQ2
import Derived.Deep.Cut
namespace Go.Proofs.YtndinbefljajcaaGreatDoor.Worth
open Go.RowKit Go.Shelf
open Go.Proofs.YtndinbefljajcaaGreatDoor.Frac (Got OfTen Room specG)
open Go.Proofs.YtndinbefljajcaaGreatDoor.Dims (D7 dZero dOf Lies7 get_of)
open Go.Proofs.YtndinbefljajcaaGreatDoor.Dims (gotV)
set_option linter.unusedVariables false
set_option linter.unusedSimpArgs false

/-- A worth and an error's number, as the document's answer. -/
def gotW (r : Wo × Int) : Value := .agg #[.int .i64 r.1.n, .int .i64 r.1.d, .int .i64 r.1.t, .int .i64 r.1.D.a0, .int .i64 r.1.D.a1, .int .i64 r.1.D.a2, .int .i64 r.1.D.a3, .int .i64 r.1.D.a4, .int .i64 r.1.D.a5, .int .i64 r.1.D.a6, .int .i64 r.1.g, .int .i64 r.2]
def zeros12 : Array Value := #[.int .i64 0, .int .i64 0, .int .i64 0, .int .i64 0, .int .i64 0, .int .i64 0, .int .i64 0, .int .i64 0, .int .i64 0, .int .i64 0, .int .i64 0, .int .i64 0]

set_option maxRecDepth 100000 in
set_option maxHeartbeats 4000000 in
theorem rright_any (a : Wo) (w : World) (hf : a.Fine) :
    Calls Tryz.prog 20 #[a.v] w fun e w' => e = .returned (.bool (rightW a)) ∧ Below w.heap.size w w' := by
  have hA := OneAt.new w a
  have rF := Frac.rright_any a.n a.d a.t
  have rD := Dims.rright_any a.D
  have fn := hf.n
  have fd := hf.d
  have fD := hf.D
  have g0 := hf.g0
  have g1 := hf.g1
  rw [← Frac.right_eq a.n a.d a.t fn fd] at rF
  have HW : Hid (rightW a = (Frac.rightB a.n a.d a.t && (Dims.rightB a.D && (decide (0 ≤ a.g) && decide (a.g ≤ 99))))) := rfl
  generalize Frac.rightB a.n a.d a.t = b1 at *
  generalize Dims.rightB a.D = b2 at *
  generalize rightW a = X at *
  simp only [Wo.v, Wo.cs, D7.v] at rD hA ⊢
  obtain ⟨c0, c1, c2, c3, c4, c5, c6, c7, c8, c9, c10⟩ := hA.2.cells
  go_enter Tryz.func20, Tryz.ntmps20
  go_wp2_with fail
  refine (rF _ fn fd).mono ?_
  rintro e w1 ⟨rfl, hb⟩
  replace hA := hA.go hb
  clear hb c0 c1 c2 c3 c4 c5 c6 c7 c8 c9 c10
  obtain ⟨c0, c1, c2, c3, c4, c5, c6, c7, c8, c9, c10⟩ := hA.2.cells
  go_wp2_with fail
  refine (rD _ fD).mono ?_
  rintro e w2 ⟨rfl, hb⟩
  replace hA := hA.go hb
  clear hb c0 c1 c2 c3 c4 c5 c6 c7 c8 c9 c10
  obtain ⟨c0, c1, c2, c3, c4, c5, c6, c7, c8, c9, c10⟩ := hA.2.cells
  have hB := hA.1
  cases b1 with
  | false =>
    have HX : Hid (X = false) := by show _ = _; rw [HW.out]; rfl
    go_wp2
    refine bodyPost_ret (v := .bool false) (by simp [results, Tryz.results20, go_sem]) rfl ⟨by rw [HX.out], hB⟩
  | true =>
    cases b2 with
    | false =>
      have HX : Hid (X = false) := by show _ = _; rw [HW.out]; rfl
      go_wp2
      refine bodyPost_ret (v := .bool false) (by simp [results, Tryz.results20, go_sem]) rfl ⟨by rw [HX.out], hB⟩
    | true =>
      by_cases p0 : 0 ≤ a.g
      · by_cases p1 : a.g ≤ 99
        · have HX : Hid (X = true) := by show _ = _; rw [HW.out]; simp [p0, p1]
          go_wp2
          refine bodyPost_ret (v := .bool true) (by simp [results, Tryz.results20, go_sem]) rfl ⟨by rw [HX.out], hB⟩
        · have HX : Hid (X = false) := by show _ = _; rw [HW.out]; simp [p1]
          go_wp2
          refine bodyPost_ret (v := .bool false) (by simp [results, Tryz.results20, go_sem] <;> omega) rfl ⟨by rw [HX.out], hB⟩
      · have HX : Hid (X = false) := by show _ = _; rw [HW.out]; simp [p0]
        go_wp2
        refine bodyPost_ret (v := .bool false) (by simp [results, Tryz.results20, go_sem]) rfl ⟨by rw [HX.out], hB⟩

/-- The error of what is handed in. -/
noncomputable def mayW (a b : Wo) : Int := if rightW a = false ∨ rightW b = false then 1 else if a.g ≠ 0 ∨ b.g ≠ 0 then 18 else 0
theorem mayW_in (a b : Wo) : mayW a b = 0 ∨ mayW a b = 1 ∨ mayW a b = 18 := by
  unfold mayW; split
  · exact .inr (.inl rfl)
  · split
    · exact .inr (.inr rfl)
    · exact .inl rfl
/-- How the world stands within a function of two worths. -/
def TwoW (w v : World) (a b : Wo) : Prop := Below w.heap.size w v ∧ LiesW v w.heap.size a ∧ LiesW v (w.heap.size + 1) b
theorem TwoW.go {w v v' : World} {a b : Wo} (h : TwoW w v a b) (hb : Below v.heap.size v v') : TwoW w v' a b := ⟨Dims.Below.goB h.1 h.1.size hb, h.2.1.go hb, h.2.2.go hb⟩
theorem TwoW.new (w : World) (a b : Wo) : TwoW w ((w.alloc (.cells a.cs 30)).alloc (.cells b.cs 30)) a b := by
  have h1 := LiesW.new w a
  have h2 := LiesW.new (w.alloc (.cells a.cs 30)) b
  simp only [World.size_alloc] at h2
  exact ⟨by go_grown, h1.alloc _, h2⟩

set_option maxRecDepth 100000 in
set_option maxHeartbeats 4000000 in
theorem may_any (a b : Wo) (w : World) (fa : a.Fine) (fb : b.Fine) :
    Calls Tryz.prog 47 #[a.v, b.v] w fun e w' => e = .returned (.int .i64 (mayW a b)) ∧ Below w.heap.size w w' := by
  have hA := TwoW.new w a b
  have rA := fun V => rright_any a V fa
  have rB := fun V => rright_any b V fb
  have HM : Hid (mayW a b = if rightW a = false ∨ rightW b = false then 1 else if a.g ≠ 0 ∨ b.g ≠ 0 then 18 else 0) := rfl
  generalize rightW a = b1 at *
  generalize rightW b = b2 at *
  generalize mayW a b = X at *
  simp only [Wo.v, Wo.cs] at rA rB hA ⊢
  obtain ⟨c0, c1, c2, c3, c4, c5, c6, c7, c8, c9, c10⟩ := hA.2.1.cells
  go_enter Tryz.func47, Tryz.ntmps47
  go_wp2_with fail
  refine (rA _).mono ?_
  rintro e w1 ⟨rfl, hb⟩
  replace hA := hA.go hb
  clear hb c0 c1 c2 c3 c4 c5 c6 c7 c8 c9 c10
  obtain ⟨c0, c1, c2, c3, c4, c5, c6, c7, c8, c9, c10⟩ := hA.2.2.cells
  go_wp2_with fail
  refine (rB _).mono ?_
  rintro e w2 ⟨rfl, hb⟩
  replace hA := hA.go hb
  clear hb c0 c1 c2 c3 c4 c5 c6 c7 c8 c9 c10
  obtain ⟨c0, c1, c2, c3, c4, c5, c6, c7, c8, c9, c10⟩ := hA.2.1.cells
  obtain ⟨d0, d1, d2, d3, d4, d5, d6, d7, d8, d9, d10⟩ := hA.2.2.cells
  have hB := hA.1
  by_cases hr : b1 = false ∨ b2 = false
  · have HX : Hid (X = 1) := by show _ = _; rw [HM.out, if_pos hr]
    rcases hr with rfl | rfl
    · go_wp2
      refine bodyPost_ret (v := .int .i64 1) (by simp [results, Tryz.results47, go_sem]) rfl ⟨by rw [HX.out], hB⟩
    · cases b1
      all_goals
        go_wp2
        refine bodyPost_ret (v := .int .i64 1) (by simp [results, Tryz.results47, go_sem]) rfl ⟨by rw [HX.out], hB⟩
  · obtain ⟨rfl, rfl⟩ : b1 = true ∧ b2 = true := by cases b1 <;> cases b2 <;> simp_all
    by_cases hg : a.g ≠ 0 ∨ b.g ≠ 0
    · have HX : Hid (X = 18) := by show _ = _; rw [HM.out, if_neg hr, if_pos hg]
      clear hr
      by_cases g1 : a.g = 0
      · have g2 : (a.g != 0) = false := by simp [g1]
        have g3 : (b.g != 0) = true := by simpa using hg.resolve_left (fun h => h g1)
        clear hg g1
        go_wp2
        refine bodyPost_ret (v := .int .i64 18) (by simp [results, Tryz.results47, go_sem]) rfl ⟨by rw [HX.out], hB⟩
      · have g2 : (a.g != 0) = true := by simpa using g1
        clear hg g1
        go_wp2
        refine bodyPost_ret (v := .int .i64 18) (by simp [results, Tryz.results47, go_sem]) rfl ⟨by rw [HX.out], hB⟩
    · have HX : Hid (X = 0) := by show _ = _; rw [HM.out, if_neg hr, if_neg hg]
      have g2 : (a.g != 0) = false := by simp; omega
      have g3 : (b.g != 0) = false := by simp; omega
      clear hr hg
      go_wp2
      refine bodyPost_ret (v := .int .i64 0) (by simp [results, Tryz.results47, go_sem]) rfl ⟨by rw [HX.out], hB⟩

/-- A number, and dims, put together. -/
def putG (G : Got) (P : D7 × Bool) : Wo × Int := if G.e ≠ 0 then (wZero, G.e) else if P.2 = false then (wZero, 10) else (⟨G.n, G.d, G.t, P.1, 0⟩, 0)
theorem putW_may (a b : Wo) (G : Got) (P : D7 × Bool) : putW a b G P = if mayW a b ≠ 0 then (wZero, mayW a b) else putG G P := by
  unfold putW mayW putG
  split
  · simp
  · split
    · simp
    · simp
def PutAt (w v : World) (G : Got) (P : D7 × Bool) : Prop := Below w.heap.size w v ∧ LiesC v w.heap.size #[.int .i64 G.n, .int .i64 G.d, .int .i64 G.t, .int .i64 G.e] ∧ LiesC v (w.heap.size + 1) #[.int .i64 P.1.a0, .int .i64 P.1.a1, .int .i64 P.1.a2, .int .i64 P.1.a3, .int .i64 P.1.a4, .int .i64 P.1.a5, .int .i64 P.1.a6, .bool P.2] ∧ LiesC v (w.heap.size + 1 + 1) zeros12
theorem PutAt.new (w : World) (G : Got) (P : D7 × Bool) : PutAt w (((w.alloc (.cells #[.int .i64 G.n, .int .i64 G.d, .int .i64 G.t, .int .i64 G.e] 49)).alloc (.cells #[.int .i64 P.1.a0, .int .i64 P.1.a1, .int .i64 P.1.a2, .int .i64 P.1.a3, .int .i64 P.1.a4, .int .i64 P.1.a5, .int .i64 P.1.a6, .bool P.2] 52)).alloc (.cells zeros12 38)) G P := by
  have h1 := LiesC.new w #[.int .i64 G.n, .int .i64 G.d, .int .i64 G.t, .int .i64 G.e] 49
  have h2 := LiesC.new (w.alloc (.cells #[.int .i64 G.n, .int .i64 G.d, .int .i64 G.t, .int .i64 G.e] 49)) #[.int .i64 P.1.a0, .int .i64 P.1.a1, .int .i64 P.1.a2, .int .i64 P.1.a3, .int .i64 P.1.a4, .int .i64 P.1.a5, .int .i64 P.1.a6, .bool P.2] 52
  have h3 := LiesC.new ((w.alloc (.cells #[.int .i64 G.n, .int .i64 G.d, .int .i64 G.t, .int .i64 G.e] 49)).alloc (.cells #[.int .i64 P.1.a0, .int .i64 P.1.a1, .int .i64 P.1.a2, .int .i64 P.1.a3, .int .i64 P.1.a4, .int .i64 P.1.a5, .int .i64 P.1.a6, .bool P.2] 52)) zeros12 38
  simp only [World.size_alloc] at h2 h3
  exact ⟨by go_grown, (h1.go (by go_grown)).go (by go_grown), h2.go (by go_grown), h3⟩
theorem LiesC.zeros {v : World} {b : Nat} (h : LiesC v b zeros12) : v.cell? ⟨b, 0, none⟩ = some (.int .i64 0) ∧ v.cell? ⟨b, 1, none⟩ = some (.int .i64 0) ∧ v.cell? ⟨b, 2, none⟩ = some (.int .i64 0) ∧ v.cell? ⟨b, 3, none⟩ = some (.int .i64 0) ∧ v.cell? ⟨b, 4, none⟩ = some (.int .i64 0) ∧ v.cell? ⟨b, 5, none⟩ = some (.int .i64 0) ∧ v.cell? ⟨b, 6, none⟩ = some (.int .i64 0) ∧ v.cell? ⟨b, 7, none⟩ = some (.int .i64 0) ∧ v.cell? ⟨b, 8, none⟩ = some (.int .i64 0) ∧ v.cell? ⟨b, 9, none⟩ = some (.int .i64 0) ∧ v.cell? ⟨b, 10, none⟩ = some (.int .i64 0) ∧ v.cell? ⟨b, 11, none⟩ = some (.int .i64 0) :=
  ⟨h.1 0 (by decide), h.1 1 (by decide), h.1 2 (by decide), h.1 3 (by decide), h.1 4 (by decide), h.1 5 (by decide), h.1 6 (by decide), h.1 7 (by decide), h.1 8 (by decide), h.1 9 (by decide), h.1 10 (by decide), h.1 11 (by decide)⟩

set_option maxRecDepth 100000 in
set_option maxHeartbeats 8000000 in
theorem put_any (G : Got) (P : D7 × Bool) (w : World) :
    Calls Tryz.prog 12 #[G.r, gotV P] w fun e w' => e = .returned (gotW (putG G P)) ∧ Below w.heap.size w w' := by
  have hA := PutAt.new w G P
  have HP : Hid (putG G P = if G.e ≠ 0 then (wZero, G.e) else if P.2 = false then (wZero, 10) else (⟨G.n, G.d, G.t, P.1, 0⟩, 0)) := rfl
  generalize putG G P = R at *
  obtain ⟨D, o⟩ := P
  simp only [Frac.Got.r, gotV, zeros12] at hA ⊢
  go_enter Tryz.func12, Tryz.ntmps12
  go_upto_region 1 with fail
  generalize (((w.alloc (.cells #[.int .i64 G.n, .int .i64 G.d, .int .i64 G.t, .int .i64 G.e] 49)).alloc (.cells #[.int .i64 D.a0, .int .i64 D.a1, .int .i64 D.a2, .int .i64 D.a3, .int .i64 D.a4, .int .i64 D.a5, .int .i64 D.a6, .bool o] 52)).alloc (.cells #[.int .i64 0, .int .i64 0, .int .i64 0, .int .i64 0, .int .i64 0, .int .i64 0, .int .i64 0, .int .i64 0, .int .i64 0, .int .i64 0, .int .i64 0, .int .i64 0] 38)) = V at *
  obtain ⟨hB, hG, hD, hZ⟩ := hA
  have zf := hZ.2.1
  obtain ⟨z0, z1, z2, z3, z4, z5, z6, z7, z8, z9, z10, z11⟩ := LiesC.zeros hZ
  have x0 := hG.1 0 (by simp)
  have x1 := hG.1 1 (by simp)
  have x2 := hG.1 2 (by simp)
  have x3 := hG.1 3 (by simp)
  have y0 := hD.1 0 (by simp)
  have y1 := hD.1 1 (by simp)
  have y2 := hD.1 2 (by simp)
  have y3 := hD.1 3 (by simp)
  have y4 := hD.1 4 (by simp)
  have y5 := hD.1 5 (by simp)
  have y6 := hD.1 6 (by simp)
  have y7 := hD.1 7 (by simp)
  simp only [List.getElem?_toArray, List.getElem?_cons_zero, List.getElem?_cons_succ] at x0 x1 x2 x3 y0 y1 y2 y3 y4 y5 y6 y7
  clear hG hD hZ
  by_cases he : G.e = 0
  · have e1 : (G.e != 0) = false := by simp [he]
    rw [if_neg (by simp [he])] at HP
    clear he
    cases o with
    | true =>
      rw [if_neg (by simp)] at HP
      go_wp2
      refine bodyPost_ret (v := gotW (⟨G.n, G.d, G.t, D, 0⟩, 0)) (by simp [results, Tryz.results12, go_sem, gotW, z0, z1, z2, z3, z4, z5, z6, z7, z8, z9, z10, z11]) rfl ⟨by rw [HP.out], ?_⟩
      go_grown
    | false =>
      rw [if_pos rfl] at HP
      go_wp2
      refine bodyPost_ret (v := gotW (wZero, 10)) (by simp [results, Tryz.results12, go_sem, gotW, wZero, dZero, z0, z1, z2, z3, z4, z5, z6, z7, z8, z9, z10, z11]) rfl ⟨by rw [HP.out], ?_⟩
      go_grown
  · have e1 : (G.e != 0) = true := by simpa using he
    rw [if_pos he] at HP
    clear he
    go_wp2
    refine bodyPost_ret (v := gotW (wZero, G.e)) (by simp [results, Tryz.results12, go_sem, gotW, wZero, dZero, z0, z1, z2, z3, z4, z5, z6, z7, z8, z9, z10, z11]) rfl ⟨by rw [HP.out], ?_⟩
    go_grown

end Go.Proofs.YtndinbefljajcaaGreatDoor.Worth

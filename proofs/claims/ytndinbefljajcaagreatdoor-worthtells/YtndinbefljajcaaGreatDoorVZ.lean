/-
  Contract of (drachmref04.Spec).Worth: a right worth; the world below stays as it was. Contract of (drachmref04.Spec).Worth: the worth that numbers are taken for; the world below stays as it was.
-/
import Derived.Test.YtndinbefljajcaaGreatDoorVX
import Derived.Test.YtndinbefljajcaaGreatDoorSA
import Derived.Deep.Cut
namespace Go.Proofs.YtndinbefljajcaaGreatDoor.Worth
open Go.RowKit Go.Shelf
open Go.Proofs.YtndinbefljajcaaGreatDoor.Frac (Got OfTen Room LiesG specG)
open Go.Proofs.YtndinbefljajcaaGreatDoor.Dims (D7 dZero dOf Lies7 get_of zero_get of_get seven)
set_option linter.unusedVariables false
set_option linter.unusedSimpArgs false

/-- As far as it is made: k places. -/
def part (f : Nat → Int) (k j : Nat) : Int := if j < k then f j else 0
def Wo.setD (a : Wo) (i : Nat) (x : Int) : Wo := ⟨a.n, a.d, a.t, dOf (fun j => if j = i then x else a.D.get j), a.g⟩
def Wo.setG (a : Wo) (x : Int) : Wo := ⟨a.n, a.d, a.t, a.D, x⟩
theorem LiesW.other {v : World} {b : Nat} {a : Wo} (h : LiesW v b a) (b' i : Nat) (u : Value) (hn : b' ≠ b) : LiesW (v.setCell ⟨b', i, none⟩ u) b a :=
  h.block (by rw [World.size_setCell]; exact Nat.le_refl _) (Below.heap_setCell v ⟨b', i, none⟩ u b (fun e => hn e.symm))
theorem cs_dim (a : Wo) : ∀ i, i < 7 → a.cs[3 + i]? = some (.int .i64 (a.D.get i)) := seven rfl rfl rfl rfl rfl rfl rfl
theorem LiesW.dim {v : World} {b : Nat} {a : Wo} (h : LiesW v b a) (i : Nat) (hi : i < 7) : v.cell? ⟨b, 3 + i, none⟩ = some (.int .i64 (a.D.get i)) := (h.1 (3 + i) (by omega)).trans (cs_dim a i hi)
theorem LiesW.setD {v : World} {b : Nat} {a : Wo} (h : LiesW v b a) (i : Nat) (hi : i < 7) (x : Int) : LiesW (v.setCell ⟨b, 3 + i, none⟩ (.int .i64 x)) b (a.setD i x) := by
  have hc := h.dim i hi
  refine ⟨fun j hj => ?_, fun j => ?_, ?_⟩
  · by_cases e : j = 3 + i
    · subst e
      rw [World.cell?_setCell_same _ _ _ hc, cs_dim _ i hi]
      simp only [Wo.setD]
      rw [get_of _ i hi, if_pos rfl]
    · rw [World.cell?_setCell_other _ _ _ _ (by intro hh; injection hh with e1 e2; exact e e2.symm), h.1 j hj]
      match j, hj with
      | 0, _ => rfl
      | 1, _ => rfl
      | 2, _ => rfl
      | 10, _ => rfl
      | 3, _ => rw [cs_dim a 0 (by omega), cs_dim _ 0 (by omega)]; simp only [Wo.setD]; rw [get_of _ 0 (by omega), if_neg (by omega)]
      | 4, _ => rw [cs_dim a 1 (by omega), cs_dim _ 1 (by omega)]; simp only [Wo.setD]; rw [get_of _ 1 (by omega), if_neg (by omega)]
      | 5, _ => rw [cs_dim a 2 (by omega), cs_dim _ 2 (by omega)]; simp only [Wo.setD]; rw [get_of _ 2 (by omega), if_neg (by omega)]
      | 6, _ => rw [cs_dim a 3 (by omega), cs_dim _ 3 (by omega)]; simp only [Wo.setD]; rw [get_of _ 3 (by omega), if_neg (by omega)]
      | 7, _ => rw [cs_dim a 4 (by omega), cs_dim _ 4 (by omega)]; simp only [Wo.setD]; rw [get_of _ 4 (by omega), if_neg (by omega)]
      | 8, _ => rw [cs_dim a 5 (by omega), cs_dim _ 5 (by omega)]; simp only [Wo.setD]; rw [get_of _ 5 (by omega), if_neg (by omega)]
      | 9, _ => rw [cs_dim a 6 (by omega), cs_dim _ 6 (by omega)]; simp only [Wo.setD]; rw [get_of _ 6 (by omega), if_neg (by omega)]
  · rw [World.frozen?_setCell]; exact h.2.1 j
  · rw [World.size_setCell]; exact h.2.2
theorem LiesW.setG {v : World} {b : Nat} {a : Wo} (h : LiesW v b a) (x : Int) : LiesW (v.setCell ⟨b, 10, none⟩ (.int .i64 x)) b (a.setG x) := by
  have hc := h.cells.2.2.2.2.2.2.2.2.2.2
  refine ⟨fun j hj => ?_, fun j => ?_, ?_⟩
  · by_cases e : j = 10
    · subst e
      rw [World.cell?_setCell_same _ _ _ hc]; rfl
    · rw [World.cell?_setCell_other _ _ _ _ (by intro hh; injection hh with e1 e2; exact e e2.symm), h.1 j hj]
      match j, hj with
      | 0, _ => rfl
      | 1, _ => rfl
      | 2, _ => rfl
      | 3, _ => rfl
      | 4, _ => rfl
      | 5, _ => rfl
      | 6, _ => rfl
      | 7, _ => rfl
      | 8, _ => rfl
      | 9, _ => rfl
      | 10, _ => exact absurd rfl e
  · rw [World.frozen?_setCell]; exact h.2.1 j
  · rw [World.size_setCell]; exact h.2.2

theorem LiesW.newS (v : World) (a : Wo) : LiesW (v.alloc (.cells a.cs 25)) v.heap.size a := by
  refine ⟨fun j hj => ?_, fun j => ?_, ?_⟩
  · match j, hj with
    | 0, _ => simp [go_sem, Wo.cs]
    | 1, _ => simp [go_sem, Wo.cs]
    | 2, _ => simp [go_sem, Wo.cs]
    | 3, _ => simp [go_sem, Wo.cs]
    | 4, _ => simp [go_sem, Wo.cs]
    | 5, _ => simp [go_sem, Wo.cs]
    | 6, _ => simp [go_sem, Wo.cs]
    | 7, _ => simp [go_sem, Wo.cs]
    | 8, _ => simp [go_sem, Wo.cs]
    | 9, _ => simp [go_sem, Wo.cs]
    | 10, _ => simp [go_sem, Wo.cs]
  all_goals simp [go_sem]

/-- The tag that a number is taken for. -/
def tagOf (g : Int) : Int := if (g.tmod 8 + 8) % 8 < 4 then (g.tmod 8 + 8) % 8 else 0
/-- The worth that numbers are taken for. -/
def specW (s : Wo) : Wo := ⟨(specG s.n s.d s.t).n, (specG s.n s.d s.t).d, (specG s.n s.d s.t).t, dOf (fun i => (s.D.get i).tmod 10), tagOf s.g⟩

end Go.Proofs.YtndinbefljajcaaGreatDoor.Worth

namespace Go.Proofs.YtndinbefljajcaaGreatDoor.Worth
open Go.RowKit Go.Shelf
open Go.Proofs.YtndinbefljajcaaGreatDoor.Frac (Got OfTen Room LiesG specG)
open Go.Proofs.YtndinbefljajcaaGreatDoor.Dims (D7 dZero dOf Lies7 get_of zero_get of_get seven)
set_option linter.unusedVariables false
set_option linter.unusedSimpArgs false

/-- How the world stands within Worth: the spec's box, and room. -/
def SpecAt (w v : World) (s : Wo) : Prop := Below w.heap.size w v ∧ LiesW v w.heap.size s ∧ LiesW v (w.heap.size + 1) wZero
theorem SpecAt.go {w v v' : World} {s : Wo} (h : SpecAt w v s) (hb : Below v.heap.size v v') : SpecAt w v' s :=
  ⟨Dims.Below.goB h.1 h.1.size hb, h.2.1.go hb, h.2.2.go hb⟩
theorem SpecAt.other {w v : World} {s : Wo} (h : SpecAt w v s) (b' o : Nat) (u : Value) (hn : w.heap.size + 1 < b') : SpecAt w (v.setCell ⟨b', o, none⟩ u) s :=
  ⟨h.1.setCell (p := ⟨b', o, none⟩) (by show w.heap.size ≤ b'; omega) u, h.2.1.other _ _ _ (by omega), h.2.2.other _ _ _ (by omega)⟩
theorem SpecAt.new (w : World) (s : Wo) : SpecAt w ((w.alloc (.cells s.cs 25)).alloc (.cells wZero.cs 30)) s := by
  have h1 : LiesW (w.alloc (.cells s.cs 25)) w.heap.size s := LiesW.newS w s
  have h3 := LiesW.new (w.alloc (.cells s.cs 25)) wZero
  simp only [World.size_alloc] at h3
  exact ⟨by go_grown, h1.alloc _, h3⟩

/-- The worth as far as it is made: k powers. -/
def partW (s : Wo) (S : Got) (k : Nat) : Wo := ⟨S.n, S.d, S.t, dOf (Worth.part (fun i => (s.D.get i).tmod 10) k), 0⟩
theorem partW_zero (s : Wo) (S : Got) : partW s S 0 = ⟨S.n, S.d, S.t, dZero, 0⟩ := rfl
theorem partW_step (s : Wo) (S : Got) (k : Nat) (hk : k < 7) : (partW s S k).setD k ((s.D.get k).tmod 10) = partW s S (k + 1) := by
  unfold partW Wo.setD
  congr 1
  refine Dims.of_congr fun j hj => ?_
  rw [get_of _ j hj]
  unfold Worth.part
  by_cases e : j = k
  · subst e; rw [if_pos rfl, if_pos (by omega)]
  · rw [if_neg e]
    by_cases h : j < k
    · rw [if_pos h, if_pos (by omega)]
    · rw [if_neg h, if_neg (by omega)]
theorem partW_all (s : Wo) (S : Got) : partW s S 7 = ⟨S.n, S.d, S.t, dOf (fun i => (s.D.get i).tmod 10), 0⟩ := by
  have h : dOf (Worth.part (fun i => (s.D.get i).tmod 10) 7) = dOf (fun i => (s.D.get i).tmod 10) := Dims.of_congr fun j hj => by unfold Worth.part; rw [if_pos hj]
  unfold partW
  rw [h]

set_option maxRecDepth 100000 in
set_option maxHeartbeats 4000000 in
theorem spec_any (s : Wo) (w : World) (hf : s.Fine) (t0 : -9223372036854775808 ≤ s.t) (t1 : s.t ≤ 9223372036854775807) :
    Calls Tryz.prog 8 #[s.v] w fun e w' => e = .returned (specW s).v ∧ Below w.heap.size w w' := by
  have hA := SpecAt.new w s
  have hM := Frac.rmake_any s.n s.d s.t
  have E1 := Lib.hid (Frac.make_eq s.n s.d s.t hf.n hf.d)
  have f1 := hf.n
  have f2 := hf.d
  have fD := Lib.hid hf.D
  have g0 := hf.g0
  have g1 := hf.g1
  have HW : Hid (specW s = (⟨(specG s.n s.d s.t).n, (specG s.n s.d s.t).d, (specG s.n s.d s.t).t, dOf (fun i => (s.D.get i).tmod 10), tagOf s.g⟩ : Wo)) := rfl
  generalize specW s = X at *
  simp only [Wo.v, Wo.cs, wZero, dZero] at hA ⊢
  obtain ⟨c0, c1, c2, c3, c4, c5, c6, c7, c8, c9, c10⟩ := hA.2.1.cells
  go_enter Tryz.func8, Tryz.ntmps8
  go_wp2_with fail
  refine (hM _ f1 f2 t0 t1).mono ?_
  rintro e w1 ⟨rfl, hb⟩
  replace hA := hA.go hb
  clear hb c0 c1 c2 c3 c4 c5 c6 c7 c8 c9 c10 hM
  rw [← E1.out]
  have hz1 := hA.2.2.2.2
  by_cases he : (Frac.makeG s.n s.d s.t).e = 0
  · have HS : Hid (specG s.n s.d s.t = Frac.makeG s.n s.d s.t) := by show _ = _; unfold specG; rw [if_pos he]
    have e0 : ((Frac.makeG s.n s.d s.t).e != 0) = false := by simpa using he
    clear he
    generalize Frac.makeG s.n s.d s.t = G at *
    unfold Frac.Got.r
    go_upto_region 5 with fail
    have hL := LiesW.new (w1.alloc (.cells #[.int .i64 G.n, .int .i64 G.d, .int .i64 G.t, .int .i64 G.e] 49)) (partW s G 0)
    rw [partW_zero] at hL
    simp only [Wo.cs, dZero, World.size_alloc] at hL
    replace hA := hA.go (v' := ((w1.alloc (.cells #[.int .i64 G.n, .int .i64 G.d, .int .i64 G.t, .int .i64 G.e] 49)).alloc (.cells #[.int .i64 G.n, .int .i64 G.d, .int .i64 G.t, .int .i64 0, .int .i64 0, .int .i64 0, .int .i64 0, .int .i64 0, .int .i64 0, .int .i64 0, .int .i64 0] 30))) (by go_grown)
    generalize ((w1.alloc (.cells #[.int .i64 G.n, .int .i64 G.d, .int .i64 G.t, .int .i64 G.e] 49)).alloc (.cells #[.int .i64 G.n, .int .i64 G.d, .int .i64 G.t, .int .i64 0, .int .i64 0, .int .i64 0, .int .i64 0, .int .i64 0, .int .i64 0, .int .i64 0, .int .i64 0] 30)) = V at *
    obtain ⟨B, HB, hB1⟩ : ∃ B, Hid (w1.heap.size + 1 = B) ∧ w.heap.size + 1 < B := ⟨_, Lib.hid rfl, by omega⟩
    rw [show w1.heap.size + 1 = B from HB.out] at hL
    simp only [show w1.heap.size + 1 = B from HB.out]
    go_wp2
    go_loopw [5] (fun i wr => ∃ (k : Nat), i = .int .i64 k ∧ k ≤ 7 ∧ SpecAt w wr s ∧ LiesW wr B (partW s G k)) (fun i _ => (7 - intOf i).toNat)
    case atStart => exact ⟨0, rfl, by omega, hA, by rw [partW_zero]; exact hL⟩
    case round =>
      clear hA hL
      obtain ⟨k, rfl, hk, hA, hL⟩ := hrel
      by_cases h7 : k < 7
      · have k7 : (k : Int) < 7 := by omega
        have xa := hA.2.1.dim k h7
        have xd := hL.dim k h7
        have xf := hL.2.1 (3 + k)
        have bs0 := (fD.out k h7).1
        have bs1 := (fD.out k h7).2
        have hA2 := hA.other B (3 + k) (.int .i64 ((s.D.get k).tmod 10)) hB1
        have hL2 := hL.setD k h7 ((s.D.get k).tmod 10)
        rw [partW_step s _ k h7] at hL2
        go_wp2
        go_roundw
        case rel => exact ⟨k + 1, rfl, by omega, hA2.go (by go_grown), hL2⟩
        case measure => simp only [intOf]; omega
      · have k7 : ¬ (k : Int) < 7 := by omega
        obtain rfl : k = 7 := by omega
        rw [partW_all] at hL
        generalize dOf (fun i => (s.D.get i).tmod 10) = DD at *
        obtain ⟨c0, c1, c2, c3, c4, c5, c6, c7, c8, c9, c10⟩ := hA.2.1.cells
        obtain ⟨z0, z1, z2, z3, z4, z5, z6, z7, z8, z9, z10⟩ := hA.2.2.cells
        have zf := hA.2.2.2.1
        obtain ⟨l0, l1, l2, l3, l4, l5, l6, l7, l8, l9, l10⟩ := hL.cells
        have lf := hL.2.1
        have m0 := (Frac.tmod_in s.g 8 (by omega)).1
        have m1 := (Frac.tmod_in s.g 8 (by omega)).2
        go_upto_region 10 with fail
        have HT : Hid (tagOf s.g = if (s.g.tmod 8 + 8) % 8 < 4 then (s.g.tmod 8 + 8) % 8 else 0) := rfl
        have q0 : 0 ≤ (s.g.tmod 8 + 8) % 8 := by omega
        have q1 : (s.g.tmod 8 + 8) % 8 < 8 := by omega
        generalize (s.g.tmod 8 + 8) % 8 = T at *
        clear m0 m1 c0 c1 c2 c3 c4 c5 c6 c7 c8 c9 c10
        by_cases h4 : T < 4
        · rw [if_pos h4] at HT
          have hL2 := hL.setG T
          have hA2 := hA.other B 10 (.int .i64 T) hB1
          go_upto_region 12 with fail
          clear hL hA l0 l1 l2 l3 l4 l5 l6 l7 l8 l9 l10 z0 z1 z2 z3 z4 z5 z6 z7 z8 z9 z10 zf lf
          generalize wr.setCell ⟨B, 10, none⟩ (.int .i64 T) = U at *
          obtain ⟨l0, l1, l2, l3, l4, l5, l6, l7, l8, l9, l10⟩ := hL2.cells
          simp only [Wo.setG] at l0 l1 l2 l3 l4 l5 l6 l7 l8 l9 l10
          obtain ⟨hB, _, hZ⟩ := id hA2
          obtain ⟨z0, z1, z2, z3, z4, z5, z6, z7, z8, z9, z10⟩ := hZ.cells
          have zf := hZ.2.1
          clear hA2 hZ hL2
          go_wp2
          refine bodyPost_ret (v := (⟨G.n, G.d, G.t, DD, T⟩ : Wo).v) (by simp [results, Tryz.results8, go_sem, Wo.v, z0, z1, z2, z3, z4, z5, z6, z7, z8, z9, z10]) rfl ⟨by rw [HW.out, HS.out, HT.out]; rfl, ?_⟩
          go_grown
        · rw [if_neg h4] at HT
          obtain ⟨hB, _, hZ⟩ := id hA
          clear hA hZ hL
          go_wp2
          refine bodyPost_ret (v := (⟨G.n, G.d, G.t, DD, 0⟩ : Wo).v) (by simp [results, Tryz.results8, go_sem, Wo.v, z0, z1, z2, z3, z4, z5, z6, z7, z8, z9, z10]) rfl ⟨by rw [HW.out, HS.out, HT.out]; rfl, ?_⟩
          go_grown
  · have HS : Hid (specG s.n s.d s.t = ⟨1, 1, 0, 0⟩) := by show _ = _; unfold specG; rw [if_neg he]
    have e0 : ((Frac.makeG s.n s.d s.t).e != 0) = true := by simpa using he
    clear he
    generalize Frac.makeG s.n s.d s.t = G at *
    unfold Frac.Got.r
    go_upto_region 5 with fail
    have hL := LiesW.new (w1.alloc (.cells #[.int .i64 1, .int .i64 1, .int .i64 0, .int .i64 G.e] 49)) (partW s (⟨1, 1, 0, 0⟩ : Got) 0)
    rw [partW_zero] at hL
    simp only [Wo.cs, dZero, World.size_alloc] at hL
    replace hA := hA.go (v' := ((w1.alloc (.cells #[.int .i64 1, .int .i64 1, .int .i64 0, .int .i64 G.e] 49)).alloc (.cells #[.int .i64 1, .int .i64 1, .int .i64 0, .int .i64 0, .int .i64 0, .int .i64 0, .int .i64 0, .int .i64 0, .int .i64 0, .int .i64 0, .int .i64 0] 30))) (by go_grown)
    generalize ((w1.alloc (.cells #[.int .i64 1, .int .i64 1, .int .i64 0, .int .i64 G.e] 49)).alloc (.cells #[.int .i64 1, .int .i64 1, .int .i64 0, .int .i64 0, .int .i64 0, .int .i64 0, .int .i64 0, .int .i64 0, .int .i64 0, .int .i64 0, .int .i64 0] 30)) = V at *
    obtain ⟨B, HB, hB1⟩ : ∃ B, Hid (w1.heap.size + 1 = B) ∧ w.heap.size + 1 < B := ⟨_, Lib.hid rfl, by omega⟩
    rw [show w1.heap.size + 1 = B from HB.out] at hL
    simp only [show w1.heap.size + 1 = B from HB.out]
    go_wp2
    go_loopw [5] (fun i wr => ∃ (k : Nat), i = .int .i64 k ∧ k ≤ 7 ∧ SpecAt w wr s ∧ LiesW wr B (partW s (⟨1, 1, 0, 0⟩ : Got) k)) (fun i _ => (7 - intOf i).toNat)
    case atStart => exact ⟨0, rfl, by omega, hA, by rw [partW_zero]; exact hL⟩
    case round =>
      clear hA hL
      obtain ⟨k, rfl, hk, hA, hL⟩ := hrel
      by_cases h7 : k < 7
      · have k7 : (k : Int) < 7 := by omega
        have xa := hA.2.1.dim k h7
        have xd := hL.dim k h7
        have xf := hL.2.1 (3 + k)
        have bs0 := (fD.out k h7).1
        have bs1 := (fD.out k h7).2
        have hA2 := hA.other B (3 + k) (.int .i64 ((s.D.get k).tmod 10)) hB1
        have hL2 := hL.setD k h7 ((s.D.get k).tmod 10)
        rw [partW_step s _ k h7] at hL2
        go_wp2
        go_roundw
        case rel => exact ⟨k + 1, rfl, by omega, hA2.go (by go_grown), hL2⟩
        case measure => simp only [intOf]; omega
      · have k7 : ¬ (k : Int) < 7 := by omega
        obtain rfl : k = 7 := by omega
        rw [partW_all] at hL
        generalize dOf (fun i => (s.D.get i).tmod 10) = DD at *
        obtain ⟨c0, c1, c2, c3, c4, c5, c6, c7, c8, c9, c10⟩ := hA.2.1.cells
        obtain ⟨z0, z1, z2, z3, z4, z5, z6, z7, z8, z9, z10⟩ := hA.2.2.cells
        have zf := hA.2.2.2.1
        obtain ⟨l0, l1, l2, l3, l4, l5, l6, l7, l8, l9, l10⟩ := hL.cells
        have lf := hL.2.1
        have m0 := (Frac.tmod_in s.g 8 (by omega)).1
        have m1 := (Frac.tmod_in s.g 8 (by omega)).2
        go_upto_region 10 with fail
        have HT : Hid (tagOf s.g = if (s.g.tmod 8 + 8) % 8 < 4 then (s.g.tmod 8 + 8) % 8 else 0) := rfl
        have q0 : 0 ≤ (s.g.tmod 8 + 8) % 8 := by omega
        have q1 : (s.g.tmod 8 + 8) % 8 < 8 := by omega
        generalize (s.g.tmod 8 + 8) % 8 = T at *
        clear m0 m1 c0 c1 c2 c3 c4 c5 c6 c7 c8 c9 c10
        by_cases h4 : T < 4
        · rw [if_pos h4] at HT
          have hL2 := hL.setG T
          have hA2 := hA.other B 10 (.int .i64 T) hB1
          go_upto_region 12 with fail
          clear hL hA l0 l1 l2 l3 l4 l5 l6 l7 l8 l9 l10 z0 z1 z2 z3 z4 z5 z6 z7 z8 z9 z10 zf lf
          generalize wr.setCell ⟨B, 10, none⟩ (.int .i64 T) = U at *
          obtain ⟨l0, l1, l2, l3, l4, l5, l6, l7, l8, l9, l10⟩ := hL2.cells
          simp only [Wo.setG] at l0 l1 l2 l3 l4 l5 l6 l7 l8 l9 l10
          obtain ⟨hB, _, hZ⟩ := id hA2
          obtain ⟨z0, z1, z2, z3, z4, z5, z6, z7, z8, z9, z10⟩ := hZ.cells
          have zf := hZ.2.1
          clear hA2 hZ hL2
          go_wp2
          refine bodyPost_ret (v := (⟨1, 1, 0, DD, T⟩ : Wo).v) (by simp [results, Tryz.results8, go_sem, Wo.v, z0, z1, z2, z3, z4, z5, z6, z7, z8, z9, z10]) rfl ⟨by rw [HW.out, HS.out, HT.out]; rfl, ?_⟩
          go_grown
        · rw [if_neg h4] at HT
          obtain ⟨hB, _, hZ⟩ := id hA
          clear hA hZ hL
          go_wp2
          refine bodyPost_ret (v := (⟨1, 1, 0, DD, 0⟩ : Wo).v) (by simp [results, Tryz.results8, go_sem, Wo.v, z0, z1, z2, z3, z4, z5, z6, z7, z8, z9, z10]) rfl ⟨by rw [HW.out, HS.out, HT.out]; rfl, ?_⟩
          go_grown


end Go.Proofs.YtndinbefljajcaaGreatDoor.Worth


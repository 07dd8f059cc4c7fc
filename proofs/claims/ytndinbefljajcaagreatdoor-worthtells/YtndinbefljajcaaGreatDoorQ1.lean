/-
  Contracts of the document's answers for dims: Right, Add, Times; the world below stays as it was.
-/
import Derived.Test.YtndinbefljajcaaGreatDoorD6
import Derived.RegionTactic
import Derived.BigRegion
import Derived.ChangeAlike
namespace Go.Proofs.YtndinbefljajcaaGreatDoor.Dims
open Go.RowKit Go.Shelf
set_option linter.unusedVariables false
set_option linter.unusedSimpArgs false

set_option maxRecDepth 100000 in
set_option maxHeartbeats 1000000 in
theorem rright_any (a : D7) (w : World) (hf : Fine a) :
    Calls Tryz.prog 56 #[a.v] w fun e w' => e = .returned (.bool (rightB a)) ∧ Below w.heap.size w w' := by
  have hA := OneAt.new w a
  simp only [D7.v]
  go_enter Tryz.func56, Tryz.ntmps56
  go_wp2
  generalize w.alloc (.cells #[.int .i64 a.a0, .int .i64 a.a1, .int .i64 a.a2, .int .i64 a.a3, .int .i64 a.a4, .int .i64 a.a5, .int .i64 a.a6] 23) = W0 at *
  go_loopw [3] (fun i wr => ∃ (k : Nat), i = .int .i64 k ∧ k ≤ 7 ∧ (∀ j, j < k → -99 ≤ a.get j ∧ a.get j ≤ 99) ∧ OneAt w wr a) (fun i _ => (7 - intOf i).toNat)
  case atStart => exact ⟨0, rfl, by omega, fun j hj => by omega, hA⟩
  case round =>
    clear hA
    obtain ⟨k, rfl, hk, hin, hA⟩ := hrel
    have HI := Lib.hid hin
    clear hin
    by_cases h7 : k < 7
    · have k7 : (k : Int) < 7 := by omega
      have cc := hA.2.1 k h7
      by_cases h1 : a.get k < -99
      · have HR := Lib.hid (rightB_no (a := a) (fun h => by have := h k h7; omega))
        go_wp2
        go_ret
        exact ⟨by rw [HR.out]; rfl, hA.1⟩
      · by_cases h2 : 99 < a.get k
        · have HR := Lib.hid (rightB_no (a := a) (fun h => by have := h k h7; omega))
          go_wp2
          go_ret
          exact ⟨by rw [HR.out]; rfl, hA.1⟩
        · go_wp2
          go_roundw
          case rel => exact ⟨k + 1, rfl, by omega, fun j hj => by
            by_cases e : j = k
            · subst e; omega
            · exact HI.out j (by omega), hA⟩
          case measure => simp only [intOf]; omega
    · have k7 : ¬ (k : Int) < 7 := by omega
      obtain rfl : k = 7 := by omega
      have HR := Lib.hid (rightB_of (a := a) HI.out)
      go_wp2
      go_ret
      exact ⟨by rw [HR.out]; rfl, hA.1⟩

/-- Dims, if there are some, as the document's answer. -/
def gotV (g : D7 × Bool) : Value := .agg #[.int .i64 g.1.a0, .int .i64 g.1.a1, .int .i64 g.1.a2, .int .i64 g.1.a3, .int .i64 g.1.a4, .int .i64 g.1.a5, .int .i64 g.1.a6, .bool g.2]
/-- Room for such an answer. -/
def Room8 (v : World) (b : Nat) : Prop := v.cell? ⟨b, 0, none⟩ = some (.int .i64 0) ∧ v.cell? ⟨b, 1, none⟩ = some (.int .i64 0) ∧ v.cell? ⟨b, 2, none⟩ = some (.int .i64 0) ∧ v.cell? ⟨b, 3, none⟩ = some (.int .i64 0) ∧ v.cell? ⟨b, 4, none⟩ = some (.int .i64 0) ∧ v.cell? ⟨b, 5, none⟩ = some (.int .i64 0) ∧ v.cell? ⟨b, 6, none⟩ = some (.int .i64 0) ∧ v.cell? ⟨b, 7, none⟩ = some (.bool false) ∧ (∀ j, v.frozen? ⟨b, j, none⟩ = false) ∧ b < v.heap.size
theorem Room8.block {v v' : World} {b : Nat} (h : Room8 v b) (hs : v.heap.size ≤ v'.heap.size) (hb : v'.heap[b]? = v.heap[b]?) : Room8 v' b := by
  obtain ⟨h0, h1, h2, h3, h4, h5, h6, h7, hf, hz⟩ := h
  have hc : ∀ j, v'.cell? ⟨b, j, none⟩ = v.cell? ⟨b, j, none⟩ := fun j => World.cell?_of_block (a := ⟨b, j, none⟩) hb
  exact ⟨(hc 0).trans h0, (hc 1).trans h1, (hc 2).trans h2, (hc 3).trans h3, (hc 4).trans h4, (hc 5).trans h5, (hc 6).trans h6, (hc 7).trans h7, fun j => (frozen_of_block (a := ⟨b, j, none⟩) hb).trans (hf j), by omega⟩
theorem Room8.go {v v' : World} {b : Nat} (h : Room8 v b) (hb : Below v.heap.size v v') : Room8 v' b := h.block hb.size (hb.block b h.2.2.2.2.2.2.2.2.2)
theorem Room8.other {v : World} {b : Nat} (h : Room8 v b) (b' o : Nat) (u : Value) (hn : b ≠ b') : Room8 (v.setCell ⟨b', o, none⟩ u) b := h.block (by rw [World.size_setCell]; exact Nat.le_refl _) (Below.heap_setCell v ⟨b', o, none⟩ u b hn)
theorem Room8.new (v : World) : Room8 (v.alloc (.cells #[.int .i64 0, .int .i64 0, .int .i64 0, .int .i64 0, .int .i64 0, .int .i64 0, .int .i64 0, .bool false] 52)) v.heap.size := by
  refine ⟨?_, ?_, ?_, ?_, ?_, ?_, ?_, ?_, fun j => ?_, ?_⟩
  all_goals simp [go_sem]

/-- How the world stands within the document's Add. -/
def RAddAt (w v : World) (a b : D7) : Prop := Below w.heap.size w v ∧ Lies7 v w.heap.size a.get ∧ Lies7 v (w.heap.size + 1) b.get ∧ Room8 v (w.heap.size + 1 + 1)
theorem RAddAt.go {w v v' : World} {a b : D7} (h : RAddAt w v a b) (hb : Below v.heap.size v v') : RAddAt w v' a b :=
  ⟨Below.goB h.1 h.1.size hb, h.2.1.below hb h.2.1.2.2, h.2.2.1.below hb h.2.2.1.2.2, h.2.2.2.go hb⟩
theorem RAddAt.other {w v : World} {a b : D7} (h : RAddAt w v a b) (b' o : Nat) (u : Value) (hn : w.heap.size + 1 + 1 < b') : RAddAt w (v.setCell ⟨b', o, none⟩ u) a b :=
  ⟨h.1.setCell (p := ⟨b', o, none⟩) (by show w.heap.size ≤ b'; omega) _, h.2.1.other _ _ _ (by omega), h.2.2.1.other _ _ _ (by omega), h.2.2.2.other _ _ _ (by omega)⟩
theorem RAddAt.new (w : World) (a b : D7) : RAddAt w (((w.alloc (.cells #[.int .i64 a.a0, .int .i64 a.a1, .int .i64 a.a2, .int .i64 a.a3, .int .i64 a.a4, .int .i64 a.a5, .int .i64 a.a6] 23)).alloc (.cells #[.int .i64 b.a0, .int .i64 b.a1, .int .i64 b.a2, .int .i64 b.a3, .int .i64 b.a4, .int .i64 b.a5, .int .i64 b.a6] 23)).alloc (.cells #[.int .i64 0, .int .i64 0, .int .i64 0, .int .i64 0, .int .i64 0, .int .i64 0, .int .i64 0, .bool false] 52)) a b := by
  have h1 := Lies7.new w a
  have h2 := Lies7.new (w.alloc (.cells #[.int .i64 a.a0, .int .i64 a.a1, .int .i64 a.a2, .int .i64 a.a3, .int .i64 a.a4, .int .i64 a.a5, .int .i64 a.a6] 23)) b
  have h3 := Room8.new ((w.alloc (.cells #[.int .i64 a.a0, .int .i64 a.a1, .int .i64 a.a2, .int .i64 a.a3, .int .i64 a.a4, .int .i64 a.a5, .int .i64 a.a6] 23)).alloc (.cells #[.int .i64 b.a0, .int .i64 b.a1, .int .i64 b.a2, .int .i64 b.a3, .int .i64 b.a4, .int .i64 b.a5, .int .i64 b.a6] 23))
  simp only [World.size_alloc] at h2 h3
  exact ⟨by go_grown, (h1.alloc _).alloc _, h2.alloc _, h3⟩

/-- So far the sums, then 0. -/
def part (f : Nat → Int) (k j : Nat) : Int := if j < k then f j else 0
theorem Lies7.part {W : World} {b : Nat} {f : Nat → Int} {k : Nat} (h : Lies7 W b (part f k)) (hk : k < 7) : Lies7 (W.setCell ⟨b, k, none⟩ (.int .i64 (f k))) b (Dims.part f (k + 1)) := by
  refine (h.set k (f k)).congr fun j hj => ?_
  unfold Dims.part
  by_cases e : j = k
  · subst e; simp
  · rw [if_neg e]
    by_cases l : j < k
    · rw [if_pos l, if_pos (by omega)]
    · rw [if_neg l, if_neg (by omega)]

set_option maxRecDepth 100000 in
set_option maxHeartbeats 2000000 in
theorem radd_any (a b : D7) (w : World) (fa : Fine a) (fb : Fine b) :
    Calls Tryz.prog 49 #[a.v, b.v, .int .i64 (1)] w fun e w' => e = .returned (gotV (addG a b)) ∧ Below w.heap.size w w' := by
  have hA := RAddAt.new w a b
  have rA := rright_any a
  have rB := rright_any b
  simp only [D7.v] at rA rB ⊢
  obtain ⟨c0, c1, c2, c3, c4, c5, c6⟩ := hA.2.1.cells
  simp only [D7.get] at c0 c1 c2 c3 c4 c5 c6
  go_enter Tryz.func49, Tryz.ntmps49
  go_wp2_with fail
  refine (rA _ fa).mono ?_
  rintro e w1 ⟨rfl, hb⟩
  replace hA := hA.go hb
  clear hb c0 c1 c2 c3 c4 c5 c6
  obtain ⟨c0, c1, c2, c3, c4, c5, c6⟩ := hA.2.2.1.cells
  simp only [D7.get] at c0 c1 c2 c3 c4 c5 c6
  go_wp2_with fail
  refine (rB _ fb).mono ?_
  rintro e w2 ⟨rfl, hb⟩
  replace hA := hA.go hb
  clear hb c0 c1 c2 c3 c4 c5 c6
  obtain ⟨hB, lA, lB, m0, m1, m2, m3, m4, m5, m6, m7, mf, mz⟩ := id hA
  by_cases ra : Right a
  · by_cases rb : Right b
    · rw [rightB_of ra, rightB_of rb]
      have fo : Fine (dOf (fun i => a.get i + b.get i)) := fun i hi => by
        rw [get_of _ i hi]; have := ra i hi; have := rb i hi; omega
      have rO := rright_any (dOf (fun i => a.get i + b.get i))
      have HO : Hid ((Right (dOf (fun i => a.get i + b.get i)) → addG a b = (dOf (fun i => a.get i + b.get i), true)) ∧ (¬ Right (dOf (fun i => a.get i + b.get i)) → addG a b = (dZero, false))) := ⟨fun h => reckon_yes ra rb h, fun h => reckon_no (fun h' => h h'.2.2)⟩
      go_wp2
      have lD := Lies7.new w2 dZero
      replace lD : Lies7 _ w2.heap.size (part (fun i => a.get i + b.get i) 0) := lD.congr (fun j _ => by rw [zero_get]; rfl)
      simp only [dZero] at lD
      replace hA := hA.go (v' := w2.alloc (.cells #[.int .i64 0, .int .i64 0, .int .i64 0, .int .i64 0, .int .i64 0, .int .i64 0, .int .i64 0] 23)) (by go_grown)
      have hw2 : w.heap.size + 1 + 1 < w2.heap.size := mz
      clear hB lA lB m0 m1 m2 m3 m4 m5 m6 m7 mf mz rA rB
      generalize w2.alloc (.cells #[.int .i64 0, .int .i64 0, .int .i64 0, .int .i64 0, .int .i64 0, .int .i64 0, .int .i64 0] 23) = V at *
      go_loopw [10] (fun i wr => ∃ (k : Nat), i = .int .i64 k ∧ k ≤ 7 ∧ RAddAt w wr a b ∧ Lies7 wr w2.heap.size (part (fun i => a.get i + b.get i) k)) (fun i _ => (7 - intOf i).toNat)
      case atStart => exact ⟨0, rfl, by omega, hA, lD⟩
      case round =>
        clear hA lD
        obtain ⟨k, rfl, hk, hA, lD⟩ := hrel
        by_cases h7 : k < 7
        · have k7 : (k : Int) < 7 := by omega
          have xa := hA.2.1.1 k h7
          have xb := hA.2.2.1.1 k h7
          have xd := lD.1 k h7
          have xf := lD.2.1 k
          have ba := ra k h7
          have bb := rb k h7
          have hA2 := hA.other w2.heap.size k (.int .i64 (a.get k + b.get k)) hw2
          have lD2 := lD.part h7
          go_wp2
          go_region
          go_wp2
          go_roundw
          case rel => exact ⟨k + 1, rfl, by omega, hA2.go (by go_grown), lD2⟩
          case measure => simp only [intOf]; omega
        · have k7 : ¬ (k : Int) < 7 := by omega
          obtain rfl : k = 7 := by omega
          replace lD : Lies7 wr w2.heap.size (dOf (fun i => a.get i + b.get i)).get := lD.congr (fun j hj => by rw [get_of _ j hj]; unfold part; rw [if_pos hj])
          generalize dOf (fun i => a.get i + b.get i) = O at *
          simp only [D7.v] at rO
          obtain ⟨c0, c1, c2, c3, c4, c5, c6⟩ := lD.cells
          simp only [D7.get] at c0 c1 c2 c3 c4 c5 c6
          go_wp2_with fail
          refine (rO _ fo).mono ?_
          rintro e u ⟨rfl, hb⟩
          replace hA := hA.go hb
          replace lD := lD.below hb lD.2.2
          clear hb c0 c1 c2 c3 c4 c5 c6
          obtain ⟨hB, lA, lB, m0, m1, m2, m3, m4, m5, m6, m7, mf, mz⟩ := id hA
          by_cases ro : Right O
          · rw [rightB_of ro]
            have HG2 : Hid (addG a b = (O, true)) := HO.out.1 ro
            obtain ⟨c0, c1, c2, c3, c4, c5, c6⟩ := lD.cells
            simp only [D7.get] at c0 c1 c2 c3 c4 c5 c6
            go_wp2
            refine bodyPost_ret (v := gotV (O, true)) (by simp [results, Tryz.results49, go_sem, gotV, m0, m1, m2, m3, m4, m5, m6, m7]) rfl ⟨by rw [HG2.out], ?_⟩
            go_grown
          · rw [rightB_no ro]
            have HG2 : Hid (addG a b = (dZero, false)) := HO.out.2 ro
            go_wp2
            refine bodyPost_ret (v := gotV (dZero, false)) (by simp [results, Tryz.results49, go_sem, gotV, dZero, m0, m1, m2, m3, m4, m5, m6, m7]) rfl ⟨by rw [HG2.out], ?_⟩
            go_grown
    · rw [rightB_of ra, rightB_no rb]
      have HG : Hid (addG a b = (dZero, false)) := reckon_no (fun h => rb h.2.1)
      go_wp2
      refine bodyPost_ret (v := gotV (dZero, false)) (by simp [results, Tryz.results49, go_sem, gotV, dZero, m0, m1, m2, m3, m4, m5, m6, m7]) rfl ⟨by rw [HG.out], ?_⟩
      go_grown
  · rw [rightB_no ra]
    have HG : Hid (addG a b = (dZero, false)) := reckon_no (fun h => ra h.1)
    cases rightB b
    all_goals
      go_wp2
      refine bodyPost_ret (v := gotV (dZero, false)) (by simp [results, Tryz.results49, go_sem, gotV, dZero, m0, m1, m2, m3, m4, m5, m6, m7]) rfl ⟨by rw [HG.out], ?_⟩
      go_grown

set_option maxRecDepth 100000 in
set_option maxHeartbeats 2000000 in
theorem rsub_any (a b : D7) (w : World) (fa : Fine a) (fb : Fine b) :
    Calls Tryz.prog 49 #[a.v, b.v, .int .i64 (-1)] w fun e w' => e = .returned (gotV (subG a b)) ∧ Below w.heap.size w w' := by
  have hA := RAddAt.new w a b
  have rA := rright_any a
  have rB := rright_any b
  simp only [D7.v] at rA rB ⊢
  obtain ⟨c0, c1, c2, c3, c4, c5, c6⟩ := hA.2.1.cells
  simp only [D7.get] at c0 c1 c2 c3 c4 c5 c6
  go_enter Tryz.func49, Tryz.ntmps49
  go_wp2_with fail
  refine (rA _ fa).mono ?_
  rintro e w1 ⟨rfl, hb⟩
  replace hA := hA.go hb
  clear hb c0 c1 c2 c3 c4 c5 c6
  obtain ⟨c0, c1, c2, c3, c4, c5, c6⟩ := hA.2.2.1.cells
  simp only [D7.get] at c0 c1 c2 c3 c4 c5 c6
  go_wp2_with fail
  refine (rB _ fb).mono ?_
  rintro e w2 ⟨rfl, hb⟩
  replace hA := hA.go hb
  clear hb c0 c1 c2 c3 c4 c5 c6
  obtain ⟨hB, lA, lB, m0, m1, m2, m3, m4, m5, m6, m7, mf, mz⟩ := id hA
  by_cases ra : Right a
  · by_cases rb : Right b
    · rw [rightB_of ra, rightB_of rb]
      have fo : Fine (dOf (fun i => a.get i - b.get i)) := fun i hi => by
        rw [get_of _ i hi]; have := ra i hi; have := rb i hi; omega
      have rO := rright_any (dOf (fun i => a.get i - b.get i))
      have HO : Hid ((Right (dOf (fun i => a.get i - b.get i)) → subG a b = (dOf (fun i => a.get i - b.get i), true)) ∧ (¬ Right (dOf (fun i => a.get i - b.get i)) → subG a b = (dZero, false))) := ⟨fun h => reckon_yes ra rb h, fun h => reckon_no (fun h' => h h'.2.2)⟩
      go_wp2
      have lD := Lies7.new w2 dZero
      replace lD : Lies7 _ w2.heap.size (part (fun i => a.get i - b.get i) 0) := lD.congr (fun j _ => by rw [zero_get]; rfl)
      simp only [dZero] at lD
      replace hA := hA.go (v' := w2.alloc (.cells #[.int .i64 0, .int .i64 0, .int .i64 0, .int .i64 0, .int .i64 0, .int .i64 0, .int .i64 0] 23)) (by go_grown)
      have hw2 : w.heap.size + 1 + 1 < w2.heap.size := mz
      clear hB lA lB m0 m1 m2 m3 m4 m5 m6 m7 mf mz rA rB
      generalize w2.alloc (.cells #[.int .i64 0, .int .i64 0, .int .i64 0, .int .i64 0, .int .i64 0, .int .i64 0, .int .i64 0] 23) = V at *
      go_loopw [10] (fun i wr => ∃ (k : Nat), i = .int .i64 k ∧ k ≤ 7 ∧ RAddAt w wr a b ∧ Lies7 wr w2.heap.size (part (fun i => a.get i - b.get i) k)) (fun i _ => (7 - intOf i).toNat)
      case atStart => exact ⟨0, rfl, by omega, hA, lD⟩
      case round =>
        clear hA lD
        obtain ⟨k, rfl, hk, hA, lD⟩ := hrel
        by_cases h7 : k < 7
        · have k7 : (k : Int) < 7 := by omega
          have xa := hA.2.1.1 k h7
          have xb := hA.2.2.1.1 k h7
          have xd := lD.1 k h7
          have xf := lD.2.1 k
          have ba := ra k h7
          have bb := rb k h7
          have hA2 := hA.other w2.heap.size k (.int .i64 (a.get k + -b.get k)) hw2
          have lD2 : Lies7 (wr.setCell ⟨w2.heap.size, k, none⟩ (.int .i64 (a.get k + -b.get k))) w2.heap.size (part (fun i => a.get i - b.get i) (k + 1)) := by
            rw [show a.get k + -b.get k = a.get k - b.get k by omega]
            exact lD.part h7
          go_wp2
          go_region
          go_wp2
          go_roundw
          case rel => exact ⟨k + 1, rfl, by omega, hA2.go (by go_grown), lD2⟩
          case measure => simp only [intOf]; omega
        · have k7 : ¬ (k : Int) < 7 := by omega
          obtain rfl : k = 7 := by omega
          replace lD : Lies7 wr w2.heap.size (dOf (fun i => a.get i - b.get i)).get := lD.congr (fun j hj => by rw [get_of _ j hj]; unfold part; rw [if_pos hj])
          generalize dOf (fun i => a.get i - b.get i) = O at *
          simp only [D7.v] at rO
          obtain ⟨c0, c1, c2, c3, c4, c5, c6⟩ := lD.cells
          simp only [D7.get] at c0 c1 c2 c3 c4 c5 c6
          go_wp2_with fail
          refine (rO _ fo).mono ?_
          rintro e u ⟨rfl, hb⟩
          replace hA := hA.go hb
          replace lD := lD.below hb lD.2.2
          clear hb c0 c1 c2 c3 c4 c5 c6
          obtain ⟨hB, lA, lB, m0, m1, m2, m3, m4, m5, m6, m7, mf, mz⟩ := id hA
          by_cases ro : Right O
          · rw [rightB_of ro]
            have HG2 : Hid (subG a b = (O, true)) := HO.out.1 ro
            obtain ⟨c0, c1, c2, c3, c4, c5, c6⟩ := lD.cells
            simp only [D7.get] at c0 c1 c2 c3 c4 c5 c6
            go_wp2
            refine bodyPost_ret (v := gotV (O, true)) (by simp [results, Tryz.results49, go_sem, gotV, m0, m1, m2, m3, m4, m5, m6, m7]) rfl ⟨by rw [HG2.out], ?_⟩
            go_grown
          · rw [rightB_no ro]
            have HG2 : Hid (subG a b = (dZero, false)) := HO.out.2 ro
            go_wp2
            refine bodyPost_ret (v := gotV (dZero, false)) (by simp [results, Tryz.results49, go_sem, gotV, dZero, m0, m1, m2, m3, m4, m5, m6, m7]) rfl ⟨by rw [HG2.out], ?_⟩
            go_grown
    · rw [rightB_of ra, rightB_no rb]
      have HG : Hid (subG a b = (dZero, false)) := reckon_no (fun h => rb h.2.1)
      go_wp2
      refine bodyPost_ret (v := gotV (dZero, false)) (by simp [results, Tryz.results49, go_sem, gotV, dZero, m0, m1, m2, m3, m4, m5, m6, m7]) rfl ⟨by rw [HG.out], ?_⟩
      go_grown
  · rw [rightB_no ra]
    have HG : Hid (subG a b = (dZero, false)) := reckon_no (fun h => ra h.1)
    cases rightB b
    all_goals
      go_wp2
      refine bodyPost_ret (v := gotV (dZero, false)) (by simp [results, Tryz.results49, go_sem, gotV, dZero, m0, m1, m2, m3, m4, m5, m6, m7]) rfl ⟨by rw [HG.out], ?_⟩
      go_grown

end Go.Proofs.YtndinbefljajcaaGreatDoor.Dims

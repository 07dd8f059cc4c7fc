/-
  Contract of the document's Times; the world below stays as it was.
-/
import Derived.Test.YtndinbefljajcaaGreatDoorQ1
namespace Go.Proofs.YtndinbefljajcaaGreatDoor.Dims
open Go.RowKit Go.Shelf
set_option linter.unusedVariables false
set_option linter.unusedSimpArgs false

/-- How the world stands within the document's Times. -/
def RTimAt (w v : World) (a : D7) : Prop := Below w.heap.size w v ∧ Lies7 v w.heap.size a.get ∧ Room8 v (w.heap.size + 1)
theorem RTimAt.go {w v v' : World} {a : D7} (h : RTimAt w v a) (hb : Below v.heap.size v v') : RTimAt w v' a :=
  ⟨Below.goB h.1 h.1.size hb, h.2.1.below hb h.2.1.2.2, h.2.2.go hb⟩
theorem RTimAt.other {w v : World} {a : D7} (h : RTimAt w v a) (b' o : Nat) (u : Value) (hn : w.heap.size + 1 < b') : RTimAt w (v.setCell ⟨b', o, none⟩ u) a :=
  ⟨h.1.setCell (p := ⟨b', o, none⟩) (by show w.heap.size ≤ b'; omega) _, h.2.1.other _ _ _ (by omega), h.2.2.other _ _ _ (by omega)⟩
theorem RTimAt.new (w : World) (a : D7) : RTimAt w ((w.alloc (.cells #[.int .i64 a.a0, .int .i64 a.a1, .int .i64 a.a2, .int .i64 a.a3, .int .i64 a.a4, .int .i64 a.a5, .int .i64 a.a6] 23)).alloc (.cells #[.int .i64 0, .int .i64 0, .int .i64 0, .int .i64 0, .int .i64 0, .int .i64 0, .int .i64 0, .bool false] 52)) a := by
  have h1 := Lies7.new w a
  have h3 := Room8.new (w.alloc (.cells #[.int .i64 a.a0, .int .i64 a.a1, .int .i64 a.a2, .int .i64 a.a3, .int .i64 a.a4, .int .i64 a.a5, .int .i64 a.a6] 23))
  simp only [World.size_alloc] at h3
  exact ⟨by go_grown, h1.alloc _, h3⟩

/-- The number of times is within the limits, or what has come is all 0. -/
def Mild (a : D7) (n : Int) (k : Nat) : Prop := (-99 ≤ n ∧ n ≤ 99) ∨ ∀ j, j < k → a.get j = 0
theorem mild_all (a : D7) (n : Int) (h : Mild a n 7) : dOf (fun i => a.get i * within n 100) = dOf (fun i => a.get i * n) := by
  refine of_congr fun i hi => ?_
  rcases h with h | h
  · rw [within_in (by omega) (by omega)]
  · rw [h i hi]; simp
theorem wild (a : D7) (n : Int) (k : Nat) (hk : k < 7) (ha : a.get k ≠ 0) (hn : n < -99 ∨ 99 < n) : timesG a n = (dZero, false) := by
  refine reckon_no (fun h => ?_)
  have h1 := h.2.2 k hk
  rw [get_of _ k hk] at h1
  have hr := h.1 k hk
  have hw : within n 100 = 100 ∨ within n 100 = -100 := by unfold within; omega
  rcases hw with hw | hw <;> rw [hw] at h1 <;> omega

set_option maxRecDepth 100000 in
set_option maxHeartbeats 2000000 in
theorem rtimes_any (a : D7) (n : Int) (w : World) (fa : Fine a) (n0 : -9223372036854775808 ≤ n) (n1 : n ≤ 9223372036854775807) :
    Calls Tryz.prog 52 #[a.v, .int .i64 n] w fun e w' => e = .returned (gotV (timesG a n)) ∧ Below w.heap.size w w' := by
  have hA := RTimAt.new w a
  have rA := rright_any a
  simp only [D7.v] at rA ⊢
  obtain ⟨c0, c1, c2, c3, c4, c5, c6⟩ := hA.2.1.cells
  simp only [D7.get] at c0 c1 c2 c3 c4 c5 c6
  go_enter Tryz.func52, Tryz.ntmps52
  go_wp2_with fail
  refine (rA _ fa).mono ?_
  rintro e w1 ⟨rfl, hb⟩
  replace hA := hA.go hb
  clear hb c0 c1 c2 c3 c4 c5 c6
  obtain ⟨hB, lA, m0, m1, m2, m3, m4, m5, m6, m7, mf, mz⟩ := id hA
  by_cases ra : Right a
  · rw [rightB_of ra]
    go_wp2
    have lD := Lies7.new w1 dZero
    replace lD : Lies7 _ w1.heap.size (part (fun i => a.get i * n) 0) := lD.congr (fun j _ => by rw [zero_get]; rfl)
    simp only [dZero] at lD
    replace hA := hA.go (v' := w1.alloc (.cells #[.int .i64 0, .int .i64 0, .int .i64 0, .int .i64 0, .int .i64 0, .int .i64 0, .int .i64 0] 23)) (by go_grown)
    have hw1 : w.heap.size + 1 < w1.heap.size := mz
    clear hB lA m0 m1 m2 m3 m4 m5 m6 m7 mf mz rA
    generalize w1.alloc (.cells #[.int .i64 0, .int .i64 0, .int .i64 0, .int .i64 0, .int .i64 0, .int .i64 0, .int .i64 0] 23) = V at *
    go_loopw [7] (fun i wr => ∃ (k : Nat), i = .int .i64 k ∧ k ≤ 7 ∧ Hid (Mild a n k) ∧ RTimAt w wr a ∧ Lies7 wr w1.heap.size (part (fun i => a.get i * n) k)) (fun i _ => (7 - intOf i).toNat)
    case atStart => exact ⟨0, rfl, by omega, Or.inr (fun j hj => by omega), hA, lD⟩
    case round =>
      clear hA lD
      obtain ⟨k, rfl, hk, hM, hA, lD⟩ := hrel
      by_cases h7 : k < 7
      · have k7 : (k : Int) < 7 := by omega
        have xa := hA.2.1.1 k h7
        by_cases hz : a.get k = 0
        · have e1 : (a.get k != 0) = false := by simp [hz]
          have lD2 : Lies7 wr w1.heap.size (part (fun i => a.get i * n) (k + 1)) := lD.congr fun j hj => by
            unfold part
            by_cases e : j = k
            · subst e; simp [hz]
            · by_cases l : j < k
              · rw [if_pos l, if_pos (by omega)]
              · rw [if_neg l, if_neg (by omega)]
          have hM2 : Hid (Mild a n (k + 1)) := hM.out.elim Or.inl (fun h => Or.inr fun j hj => by
            by_cases e : j = k
            · subst e; exact hz
            · exact h j (by omega))
          clear hz
          go_wp2
          go_roundw
          case rel => exact ⟨k + 1, rfl, by omega, hM2, hA, lD2⟩
          case measure => simp only [intOf]; omega
        · have e1 : (a.get k != 0) = true := by simpa using hz
          by_cases h1 : n < -99
          · have HG := Lib.hid (wild a n k h7 hz (.inl h1))
            obtain ⟨hB, lA, m0, m1, m2, m3, m4, m5, m6, m7, mf, mz⟩ := id hA
            clear hz
            go_wp2
            refine bodyPost_ret (v := gotV (dZero, false)) (by simp [results, Tryz.results52, go_sem, gotV, dZero, m0, m1, m2, m3, m4, m5, m6, m7]) rfl ⟨by rw [HG.out], ?_⟩
            go_grown
          · by_cases h2 : 99 < n
            · have HG := Lib.hid (wild a n k h7 hz (.inr h2))
              obtain ⟨hB, lA, m0, m1, m2, m3, m4, m5, m6, m7, mf, mz⟩ := id hA
              clear hz
              go_wp2
              refine bodyPost_ret (v := gotV (dZero, false)) (by simp [results, Tryz.results52, go_sem, gotV, dZero, m0, m1, m2, m3, m4, m5, m6, m7]) rfl ⟨by rw [HG.out], ?_⟩
              go_grown
            · have hb := mul_upto (m := 99) (k := 99) (ra k h7) (show -99 ≤ n ∧ n ≤ 99 by omega) (by omega)
              have b1 : -9801 ≤ a.get k * n := by omega
              have b2 : a.get k * n ≤ 9801 := by omega
              have xd := lD.1 k h7
              have xf := lD.2.1 k
              have hA2 := hA.other w1.heap.size k (.int .i64 (a.get k * n)) hw1
              have lD2 := lD.part h7
              have hM2 : Hid (Mild a n (k + 1)) := Or.inl ⟨by omega, by omega⟩
              clear hz hb
              go_wp2
              go_roundw
              case rel => exact ⟨k + 1, rfl, by omega, hM2, hA2, lD2⟩
              case measure => simp only [intOf]; omega
      · have k7 : ¬ (k : Int) < 7 := by omega
        obtain rfl : k = 7 := by omega
        have hO := mild_all a n hM.out
        have HO : Hid ((Right (dOf (fun i => a.get i * n)) → timesG a n = (dOf (fun i => a.get i * n), true)) ∧ (¬ Right (dOf (fun i => a.get i * n)) → timesG a n = (dZero, false))) := by
          rw [← hO]
          exact ⟨fun h => reckon_yes ra ra h, fun h => reckon_no (fun h' => h h'.2.2)⟩
        have fo : Fine (dOf (fun i => a.get i * n)) := by
          intro i hi
          rw [get_of _ i hi]
          rcases hM.out with h | h
          · have := mul_upto (m := 99) (k := 99) (ra i hi) h (by omega)
            omega
          · rw [h i hi]; simp
        have rO := rright_any (dOf (fun i => a.get i * n))
        replace lD : Lies7 wr w1.heap.size (dOf (fun i => a.get i * n)).get := lD.congr (fun j hj => by rw [get_of _ j hj]; unfold part; rw [if_pos hj])
        clear hO hM
        generalize dOf (fun i => a.get i * n) = O at *
        simp only [D7.v] at rO
        obtain ⟨c0, c1, c2, c3, c4, c5, c6⟩ := lD.cells
        simp only [D7.get] at c0 c1 c2 c3 c4 c5 c6
        go_wp2_with fail
        refine (rO _ fo).mono ?_
        rintro e u ⟨rfl, hb⟩
        replace hA := hA.go hb
        replace lD := lD.below hb lD.2.2
        clear hb c0 c1 c2 c3 c4 c5 c6
        obtain ⟨hB, lA, m0, m1, m2, m3, m4, m5, m6, m7, mf, mz⟩ := id hA
        by_cases ro : Right O
        · rw [rightB_of ro]
          have HG2 : Hid (timesG a n = (O, true)) := HO.out.1 ro
          obtain ⟨c0, c1, c2, c3, c4, c5, c6⟩ := lD.cells
          simp only [D7.get] at c0 c1 c2 c3 c4 c5 c6
          go_wp2
          refine bodyPost_ret (v := gotV (O, true)) (by simp [results, Tryz.results52, go_sem, gotV, m0, m1, m2, m3, m4, m5, m6, m7]) rfl ⟨by rw [HG2.out], ?_⟩
          go_grown
        · rw [rightB_no ro]
          have HG2 : Hid (timesG a n = (dZero, false)) := HO.out.2 ro
          go_wp2
          refine bodyPost_ret (v := gotV (dZero, false)) (by simp [results, Tryz.results52, go_sem, gotV, dZero, m0, m1, m2, m3, m4, m5, m6, m7]) rfl ⟨by rw [HG2.out], ?_⟩
          go_grown
  · rw [rightB_no ra]
    have HG : Hid (timesG a n = (dZero, false)) := reckon_no (fun h => ra h.1)
    go_wp2
    refine bodyPost_ret (v := gotV (dZero, false)) (by simp [results, Tryz.results52, go_sem, gotV, dZero, m0, m1, m2, m3, m4, m5, m6, m7]) rfl ⟨by rw [HG.out], ?_⟩
    go_grown

end Go.Proofs.YtndinbefljajcaaGreatDoor.Dims

/-
  Contracts of the laws' own functions awake and near: the chapter's example holds; dims by rests.
-/
import Derived.Test.YtndinbefljajcaaDoorDR
namespace Go.Proofs.YtndinbefljajcaaDoor.Dims
open Go.RowKit Go.Shelf
set_option linter.unusedVariables false
set_option linter.unusedSimpArgs false

def exD : D7 := ⟨1, -2, 0, 0, 0, 0, 0⟩
theorem ex_right : Right exD := by
  refine seven ?_ ?_ ?_ ?_ ?_ ?_ ?_ <;> simp [exD, D7.get]
theorem ex_text : textL exD = [109, 49, 115, 45, 50] := by
  have h1 : Lib.itoa 1 = [49] := Texts.itoa_one
  have h2 : Lib.itoa (-2) = [45, 50] := by
    unfold Lib.itoa
    rw [if_pos (by omega)]
    show 45 :: Lib.decDigits 2 = _
    rw [Lib.decDigits_one (by decide)]
    decide
  simp [textL, tailL, exD, itemO, item, h1, h2, letter]

set_option maxRecDepth 100000 in
set_option maxHeartbeats 1000000 in
theorem awake_yes (w : World) (hE : Env w) :
    Calls Tryd.prog 9 #[] w fun e w' => e = .returned (.bool true) ∧ Below w.heap.size w w' := by
  have hR := read_any (textL exD) (by rw [ex_text]; decide) w hE
  rw [read_text exD ex_right, ex_text] at hR
  have hT := fun v hv => text_yes exD v hv ex_right
  rw [ex_text] at hT
  simp only [D7.v, exD, bs] at hR hT
  have q := eq7
  have qe := eqB_same exD
  simp only [exD] at qe
  go_enter Tryd.func9, Tryd.ntmps9
  go_wp2_with fail
  refine hR.mono ?_
  rintro e w1 ⟨rfl, hb⟩
  have hO := Lies7.new w1 exD
  simp only [exD] at hO
  have hB : Below w.heap.size w (w1.alloc (.cells #[.int .i64 1, .int .i64 (-2), .int .i64 0, .int .i64 0, .int .i64 0, .int .i64 0, .int .i64 0] 23)) := Below.goB hb hb.size (by go_grown)
  go_wp2_with fail
  generalize w1.alloc (.cells #[.int .i64 1, .int .i64 (-2), .int .i64 0, .int .i64 0, .int .i64 0, .int .i64 0, .int .i64 0] 23) = U at *
  refine (hT _ (hE.below hB)).mono ?_
  rintro e w2 ⟨rfl, hb2⟩
  replace hO := hO.below hb2 hO.2.2
  replace hB := Below.goB hB hB.size hb2
  obtain ⟨c0, c1, c2, c3, c4, c5, c6⟩ := hO.cells
  simp only [D7.get] at c0 c1 c2 c3 c4 c5 c6
  clear hb hb2 hR hT
  go_wp2
  go_ret
  exact ⟨rfl, hB⟩

/-- Dims by rests. -/
def nearG (a : D7) (m : Int) : D7 := dOf (fun i => (a.get i).tmod (m + 1))

set_option maxRecDepth 100000 in
set_option maxHeartbeats 2000000 in
theorem near_any (a : D7) (m : Int) (w : World) (hf : Fine a) (h0 : 1 ≤ m) (h1 : m ≤ 1000) :
    Calls Tryd.prog 13 #[a.v, .int .i64 m] w fun e w' => e = .returned (nearG a m).v ∧ Below w.heap.size w w' := by
  have hA := Lies7.new w a
  have hR := Lies7.new (w.alloc (.cells #[.int .i64 a.a0, .int .i64 a.a1, .int .i64 a.a2, .int .i64 a.a3, .int .i64 a.a4, .int .i64 a.a5, .int .i64 a.a6] 23)) dZero
  replace hA := hA.alloc (.cells #[.int .i64 0, .int .i64 0, .int .i64 0, .int .i64 0, .int .i64 0, .int .i64 0, .int .i64 0] 23)
  have hW : Below w.heap.size w ((w.alloc (.cells #[.int .i64 a.a0, .int .i64 a.a1, .int .i64 a.a2, .int .i64 a.a3, .int .i64 a.a4, .int .i64 a.a5, .int .i64 a.a6] 23)).alloc (.cells #[.int .i64 0, .int .i64 0, .int .i64 0, .int .i64 0, .int .i64 0, .int .i64 0, .int .i64 0] 23)) := by go_grown
  replace hA : Lies7 _ w.heap.size (upTo (fun i => (a.get i).tmod (m + 1)) a 0) := hA.congr (fun j _ => by simp [upTo])
  simp only [dZero, World.size_alloc] at hR hA
  have hm : ¬ m + 1 = 0 := by omega
  have hm2 : (m + 1 == 0) = false := by simp; omega
  simp only [D7.v]
  go_enter Tryd.func13, Tryd.ntmps13
  go_wp2
  generalize ((w.alloc (.cells #[.int .i64 a.a0, .int .i64 a.a1, .int .i64 a.a2, .int .i64 a.a3, .int .i64 a.a4, .int .i64 a.a5, .int .i64 a.a6] 23)).alloc (.cells #[.int .i64 0, .int .i64 0, .int .i64 0, .int .i64 0, .int .i64 0, .int .i64 0, .int .i64 0] 23)) = W0 at *
  refine wp_loop_rounds 8 ?_
  rw [rounds_succ]
  have cc := hA.1 0 (by omega)
  simp only [upTo, Nat.zero_add, Nat.reduceAdd, Nat.reduceLT, Nat.lt_irrefl, Nat.not_lt_zero, if_false, D7.get] at cc
  have cf := hA.2.1 0
  have hx := hf 0 (by omega)
  simp only [D7.get] at hx
  go_wp2
  replace hA := hA.up
  replace hR := hR.other w.heap.size 0 (.int .i64 (a.a0.tmod (m + 1))) (by omega)
  replace hW := hW.setCell (p := ⟨w.heap.size, 0, none⟩) (Nat.le_refl _) (.int .i64 (a.a0.tmod (m + 1)))
  clear cc cf hx
  simp only [D7.get] at hA
  generalize W0.setCell ⟨w.heap.size, 0, none⟩ (.int .i64 (a.a0.tmod (m + 1))) = W1 at *
  rw [rounds_succ]
  have cc := hA.1 1 (by omega)
  simp only [upTo, Nat.zero_add, Nat.reduceAdd, Nat.reduceLT, Nat.lt_irrefl, Nat.not_lt_zero, if_false, D7.get] at cc
  have cf := hA.2.1 1
  have hx := hf 1 (by omega)
  simp only [D7.get] at hx
  go_wp2
  replace hA := hA.up
  replace hR := hR.other w.heap.size 1 (.int .i64 (a.a1.tmod (m + 1))) (by omega)
  replace hW := hW.setCell (p := ⟨w.heap.size, 1, none⟩) (Nat.le_refl _) (.int .i64 (a.a1.tmod (m + 1)))
  clear cc cf hx
  simp only [D7.get] at hA
  generalize W1.setCell ⟨w.heap.size, 1, none⟩ (.int .i64 (a.a1.tmod (m + 1))) = W2 at *
  rw [rounds_succ]
  have cc := hA.1 2 (by omega)
  simp only [upTo, Nat.zero_add, Nat.reduceAdd, Nat.reduceLT, Nat.lt_irrefl, Nat.not_lt_zero, if_false, D7.get] at cc
  have cf := hA.2.1 2
  have hx := hf 2 (by omega)
  simp only [D7.get] at hx
  go_wp2
  replace hA := hA.up
  replace hR := hR.other w.heap.size 2 (.int .i64 (a.a2.tmod (m + 1))) (by omega)
  replace hW := hW.setCell (p := ⟨w.heap.size, 2, none⟩) (Nat.le_refl _) (.int .i64 (a.a2.tmod (m + 1)))
  clear cc cf hx
  simp only [D7.get] at hA
  generalize W2.setCell ⟨w.heap.size, 2, none⟩ (.int .i64 (a.a2.tmod (m + 1))) = W3 at *
  rw [rounds_succ]
  have cc := hA.1 3 (by omega)
  simp only [upTo, Nat.zero_add, Nat.reduceAdd, Nat.reduceLT, Nat.lt_irrefl, Nat.not_lt_zero, if_false, D7.get] at cc
  have cf := hA.2.1 3
  have hx := hf 3 (by omega)
  simp only [D7.get] at hx
  go_wp2
  replace hA := hA.up
  replace hR := hR.other w.heap.size 3 (.int .i64 (a.a3.tmod (m + 1))) (by omega)
  replace hW := hW.setCell (p := ⟨w.heap.size, 3, none⟩) (Nat.le_refl _) (.int .i64 (a.a3.tmod (m + 1)))
  clear cc cf hx
  simp only [D7.get] at hA
  generalize W3.setCell ⟨w.heap.size, 3, none⟩ (.int .i64 (a.a3.tmod (m + 1))) = W4 at *
  rw [rounds_succ]
  have cc := hA.1 4 (by omega)
  simp only [upTo, Nat.zero_add, Nat.reduceAdd, Nat.reduceLT, Nat.lt_irrefl, Nat.not_lt_zero, if_false, D7.get] at cc
  have cf := hA.2.1 4
  have hx := hf 4 (by omega)
  simp only [D7.get] at hx
  go_wp2
  replace hA := hA.up
  replace hR := hR.other w.heap.size 4 (.int .i64 (a.a4.tmod (m + 1))) (by omega)
  replace hW := hW.setCell (p := ⟨w.heap.size, 4, none⟩) (Nat.le_refl _) (.int .i64 (a.a4.tmod (m + 1)))
  clear cc cf hx
  simp only [D7.get] at hA
  generalize W4.setCell ⟨w.heap.size, 4, none⟩ (.int .i64 (a.a4.tmod (m + 1))) = W5 at *
  rw [rounds_succ]
  have cc := hA.1 5 (by omega)
  simp only [upTo, Nat.zero_add, Nat.reduceAdd, Nat.reduceLT, Nat.lt_irrefl, Nat.not_lt_zero, if_false, D7.get] at cc
  have cf := hA.2.1 5
  have hx := hf 5 (by omega)
  simp only [D7.get] at hx
  go_wp2
  replace hA := hA.up
  replace hR := hR.other w.heap.size 5 (.int .i64 (a.a5.tmod (m + 1))) (by omega)
  replace hW := hW.setCell (p := ⟨w.heap.size, 5, none⟩) (Nat.le_refl _) (.int .i64 (a.a5.tmod (m + 1)))
  clear cc cf hx
  simp only [D7.get] at hA
  generalize W5.setCell ⟨w.heap.size, 5, none⟩ (.int .i64 (a.a5.tmod (m + 1))) = W6 at *
  rw [rounds_succ]
  have cc := hA.1 6 (by omega)
  simp only [upTo, Nat.zero_add, Nat.reduceAdd, Nat.reduceLT, Nat.lt_irrefl, Nat.not_lt_zero, if_false, D7.get] at cc
  have cf := hA.2.1 6
  have hx := hf 6 (by omega)
  simp only [D7.get] at hx
  go_wp2
  replace hA := hA.up
  replace hR := hR.other w.heap.size 6 (.int .i64 (a.a6.tmod (m + 1))) (by omega)
  replace hW := hW.setCell (p := ⟨w.heap.size, 6, none⟩) (Nat.le_refl _) (.int .i64 (a.a6.tmod (m + 1)))
  clear cc cf hx
  simp only [D7.get] at hA
  generalize W6.setCell ⟨w.heap.size, 6, none⟩ (.int .i64 (a.a6.tmod (m + 1))) = W7 at *
  rw [rounds_succ]
  obtain ⟨c0, c1, c2, c3, c4, c5, c6⟩ := hA.cells
  simp only [upTo, Nat.zero_add, Nat.reduceAdd, Nat.reduceLT, if_true, D7.get] at c0 c1 c2 c3 c4 c5 c6
  obtain ⟨d0, d1, d2, d3, d4, d5, d6⟩ := hR.cells
  have df := hR.2.1
  have hn : ¬ w.heap.size + 1 = w.heap.size := by omega
  go_wp2
  refine bodyPost_ret (v := (nearG a m).v) (by simp [results, Tryd.results13, go_sem, d0, d1, d2, d3, d4, d5, d6, nearG, dOf, D7.v, D7.get]) rfl ⟨rfl, ?_⟩
  go_grown

theorem near_get (a : D7) (m : Int) (i : Nat) (hi : i < 7) (h0 : 1 ≤ m) : -m ≤ (nearG a m).get i ∧ (nearG a m).get i ≤ m := by
  unfold nearG
  rw [get_of _ i hi]
  have h1 := Int.lt_tmod_of_pos (a.get i) (b := m + 1) (by omega)
  have h2 := Int.tmod_lt_of_pos (a.get i) (b := m + 1) (by omega)
  omega
theorem near_right (a : D7) (m : Int) (h0 : 1 ≤ m) (h1 : m ≤ 99) : Right (nearG a m) := fun i hi => by have := near_get a m i hi h0; omega

end Go.Proofs.YtndinbefljajcaaDoor.Dims

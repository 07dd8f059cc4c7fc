/-
  Contracts of dims.within, of the function that Right hands to each, and of each at any function that is handed to it.
-/
import Derived.Test.YtndinbefljajcaaGreatDoorDM
import Derived.Test.YtndinbefljajcaaGreatDoorChecked
import Derived.WalkKit
import Derived.WalkSpells
import Derived.Lib.Hide
import Derived.BigQuiet
import Derived.Deep.QuietTactic
import Derived.Deep.RegionWith
import Derived.Deep.RegionHeld3
import Derived.Handy
namespace Go.Proofs.YtndinbefljajcaaGreatDoor.Dims
open Go.RowKit
set_option linter.unusedVariables false
set_option linter.unusedSimpArgs false

/-- Dims as the model's array. -/
def D7.v (a : D7) : Value := .agg #[.int .i64 a.a0, .int .i64 a.a1, .int .i64 a.a2, .int .i64 a.a3, .int .i64 a.a4, .int .i64 a.a5, .int .i64 a.a6]

set_option maxRecDepth 100000 in
set_option maxHeartbeats 1000000 in
theorem within_any (x l : Int) (w : World) (h0 : 0 ≤ l) (h1 : l ≤ 1000) (hx : -9223372036854775808 ≤ x) (hx1 : x ≤ 9223372036854775807) :
    Calls Tryz.prog 76 #[.int .i64 x, .int .i64 l] w fun e w' => e = .returned (.int .i64 (within x l)) ∧ w = w' := by
  have hw := Lib.hid (show within x l = max (-l) (min x l) from rfl)
  go_enter Tryz.func76, Tryz.ntmps76
  go_wp2
  all_goals
    go_ret
    refine ⟨?_, rfl⟩
    rename_i hA
    first
      | rw [if_pos h] at hA
      | rw [if_neg (by omega)] at hA
    show Ending.returned (.int .i64 _) = _
    rw [hw.out]
    congr 2
    omega

theorem right1_any (i x : Int) (w : World) (hx : -9223372036854775808 ≤ x) (hx1 : x ≤ 9223372036854775807) :
    Calls Tryz.prog 81 #[.int .i64 i, .int .i64 x] w fun e w' => e = .returned (.int .i64 (within x 99)) ∧ w = w' := by
  go_enter Tryz.func81, Tryz.ntmps81
  go_wp2_with fail
  refine (within_any x 99 w (by omega) (by omega) hx hx1).mono ?_
  rintro e w1 ⟨rfl, rfl⟩
  go_wp2
  go_ret
  exact ⟨rfl, rfl⟩

/-- The blocks from B on stand as they stood. -/
def Owns (B : Nat) (W W' : World) : Prop := W.heap.size ≤ W'.heap.size ∧ ∀ b, B ≤ b → b < W.heap.size → W'.heap[b]? = W.heap[b]?

theorem Owns.refl (B : Nat) (W : World) : Owns B W W := ⟨Nat.le_refl _, fun _ _ _ => rfl⟩
theorem Owns.of_below {B : Nat} {W W' : World} (h : Below W.heap.size W W') : Owns B W W' := ⟨h.size, fun b _ hb => h.block b hb⟩
theorem frozen_of_block {w w' : World} {a : Addr} (h : w'.heap[a.block]? = w.heap[a.block]?) : w'.frozen? a = w.frozen? a := by
  unfold World.frozen?; rw [h]

/-- Seven powers lie in a block that may be written. -/
def Lies7 (W : World) (b : Nat) (x : Nat → Int) : Prop := (∀ j, j < 7 → W.cell? ⟨b, j, none⟩ = some (.int .i64 (x j))) ∧ (∀ j, W.frozen? ⟨b, j, none⟩ = false) ∧ b < W.heap.size
theorem Lies7.block {W W' : World} {b : Nat} {x : Nat → Int} (h : Lies7 W b x) (hs : W.heap.size ≤ W'.heap.size) (hb : W'.heap[b]? = W.heap[b]?) : Lies7 W' b x :=
  ⟨fun j hj => (World.cell?_of_block (a := ⟨b, j, none⟩) hb).trans (h.1 j hj), fun j => (frozen_of_block (a := ⟨b, j, none⟩) hb).trans (h.2.1 j), by have := h.2.2; omega⟩
theorem Lies7.owns {W W' : World} {b B : Nat} {x : Nat → Int} (h : Lies7 W b x) (ho : Owns B W W') (hB : B ≤ b) : Lies7 W' b x := h.block ho.1 (ho.2 b hB h.2.2)
theorem Lies7.below {W W' : World} {b B : Nat} {x : Nat → Int} (h : Lies7 W b x) (ho : Below B W W') (hB : b < B) : Lies7 W' b x := h.block ho.size (ho.block b hB)
theorem Lies7.set {W : World} {b : Nat} {x : Nat → Int} (h : Lies7 W b x) (i : Nat) (y : Int) : Lies7 (W.setCell ⟨b, i, none⟩ (.int .i64 y)) b (fun j => if j = i then y else x j) := by
  refine ⟨fun j hj => ?_, fun j => (World.frozen?_setCell _ _ _ _).trans (h.2.1 j), by rw [World.size_setCell]; exact h.2.2⟩
  by_cases hji : j = i
  · subst hji
    rw [World.cell?_setCell_same _ _ _ (h.1 j hj)]; simp
  · rw [World.cell?_setCell_other _ _ _ _ (by intro e; injection e with e1 e2; exact hji e2.symm), h.1 j hj]; simp [hji]
theorem Lies7.other {W : World} {b : Nat} {x : Nat → Int} (h : Lies7 W b x) (b' i : Nat) (v : Value) (hn : b' ≠ b) : Lies7 (W.setCell ⟨b', i, none⟩ v) b x :=
  h.block (by rw [World.size_setCell]; exact Nat.le_refl _) (Below.heap_setCell W ⟨b', i, none⟩ v b (fun e => hn e.symm))
theorem Lies7.new (W : World) (a : D7) : Lies7 (W.alloc (.cells #[.int .i64 a.a0, .int .i64 a.a1, .int .i64 a.a2, .int .i64 a.a3, .int .i64 a.a4, .int .i64 a.a5, .int .i64 a.a6] 23)) W.heap.size a.get := by
  refine ⟨?_, fun j => ?_, by simp⟩
  · refine seven ?_ ?_ ?_ ?_ ?_ ?_ ?_ <;> simp [go_sem, D7.get]
  · simp [go_sem]
theorem Lies7.alloc {W : World} {b : Nat} {x : Nat → Int} (h : Lies7 W b x) (o : Obj) : Lies7 (W.alloc o) b x := h.block (by simp) (Below.heap_alloc W o b h.2.2)
theorem Lies7.drew {W : World} {b : Nat} {x : Nat → Int} (h : Lies7 W b x) : Lies7 W.drew b x := h
theorem Lies7.congr {W : World} {b : Nat} {x y : Nat → Int} (h : Lies7 W b x) (e : ∀ j, j < 7 → x j = y j) : Lies7 W b y := ⟨fun j hj => by rw [← e j hj]; exact h.1 j hj, h.2⟩
theorem Lies7.cells {W : World} {b : Nat} {x : Nat → Int} (h : Lies7 W b x) : W.cell? ⟨b, 0, none⟩ = some (.int .i64 (x 0)) ∧ W.cell? ⟨b, 1, none⟩ = some (.int .i64 (x 1)) ∧ W.cell? ⟨b, 2, none⟩ = some (.int .i64 (x 2)) ∧ W.cell? ⟨b, 3, none⟩ = some (.int .i64 (x 3)) ∧ W.cell? ⟨b, 4, none⟩ = some (.int .i64 (x 4)) ∧ W.cell? ⟨b, 5, none⟩ = some (.int .i64 (x 5)) ∧ W.cell? ⟨b, 6, none⟩ = some (.int .i64 (x 6)) :=
  ⟨h.1 0 (by omega), h.1 1 (by omega), h.1 2 (by omega), h.1 3 (by omega), h.1 4 (by omega), h.1 5 (by omega), h.1 6 (by omega)⟩

theorem i0 (a b c d e f g : Value) (w : World) : (Instr.index 23 (.agg #[a, b, c, d, e, f, g]) (.int .i64 0)).run Tryz.prog w = .ok a w := by kernel_rfl
theorem i1 (a b c d e f g : Value) (w : World) : (Instr.index 23 (.agg #[a, b, c, d, e, f, g]) (.int .i64 1)).run Tryz.prog w = .ok b w := by kernel_rfl
theorem i2 (a b c d e f g : Value) (w : World) : (Instr.index 23 (.agg #[a, b, c, d, e, f, g]) (.int .i64 2)).run Tryz.prog w = .ok c w := by kernel_rfl
theorem i3 (a b c d e f g : Value) (w : World) : (Instr.index 23 (.agg #[a, b, c, d, e, f, g]) (.int .i64 3)).run Tryz.prog w = .ok d w := by kernel_rfl
theorem i4 (a b c d e f g : Value) (w : World) : (Instr.index 23 (.agg #[a, b, c, d, e, f, g]) (.int .i64 4)).run Tryz.prog w = .ok e w := by kernel_rfl
theorem i5 (a b c d e f g : Value) (w : World) : (Instr.index 23 (.agg #[a, b, c, d, e, f, g]) (.int .i64 5)).run Tryz.prog w = .ok f w := by kernel_rfl
theorem i6 (a b c d e f g : Value) (w : World) : (Instr.index 23 (.agg #[a, b, c, d, e, f, g]) (.int .i64 6)).run Tryz.prog w = .ok g w := by kernel_rfl

/-- What lies in each's own array behind k rounds. -/
def upTo (r : Nat → Int) (a : D7) (k j : Nat) : Int := if j < k then r j else a.get j

theorem Lies7.up {W : World} {b : Nat} {r : Nat → Int} {a : D7} {k : Nat} (h : Lies7 W b (upTo r a k)) : Lies7 (W.setCell ⟨b, k, none⟩ (.int .i64 (r k))) b (upTo r a (k + 1)) := by
  refine (h.set k (r k)).congr fun j hj => ?_
  unfold upTo
  by_cases e : j = k
  · subst e; simp
  · rw [if_neg e]
    by_cases l : j < k
    · rw [if_pos l, if_pos (by omega)]
    · rw [if_neg l, if_neg (by omega)]

set_option maxRecDepth 100000 in
set_option maxHeartbeats 2000000 in
theorem each_any (a : D7) (k : Nat) (caps : Array Value) (r : Nat → Int) (S : Nat → World → Prop) (w : World)
    (eg : ∀ args W, (callFunc k args).run Tryz.prog W = .ok (.enter k args) W)
    (hS : ∀ i W W', S i W → Below w.heap.size W W' → S i W')
    (hc : ∀ i, i < 7 → ∀ W, S i W → w.heap.size ≤ W.heap.size → Calls Tryz.prog k (#[.int .i64 i, .int .i64 (a.get i)] ++ caps) W fun e W' => e = .returned (.int .i64 (r i)) ∧ S (i + 1) W' ∧ Owns w.heap.size W W')
    (h0 : S 0 w) :
    Calls Tryz.prog 80 #[a.v, .func (.func k) #[] caps] w fun e w' => e = .returned (dOf r).v ∧ S 7 w' := by
  have hA := Lies7.new w a
  have hR := Lies7.new (w.alloc (.cells #[.int .i64 a.a0, .int .i64 a.a1, .int .i64 a.a2, .int .i64 a.a3, .int .i64 a.a4, .int .i64 a.a5, .int .i64 a.a6] 23)) dZero
  replace hA := hA.alloc (.cells #[.int .i64 0, .int .i64 0, .int .i64 0, .int .i64 0, .int .i64 0, .int .i64 0, .int .i64 0] 23)
  have hW : Below w.heap.size w ((w.alloc (.cells #[.int .i64 a.a0, .int .i64 a.a1, .int .i64 a.a2, .int .i64 a.a3, .int .i64 a.a4, .int .i64 a.a5, .int .i64 a.a6] 23)).alloc (.cells #[.int .i64 0, .int .i64 0, .int .i64 0, .int .i64 0, .int .i64 0, .int .i64 0, .int .i64 0] 23)) := by go_grown
  have s0 := hS 0 _ _ h0 hW
  have hz := hW.size
  clear hW h0
  replace hA : Lies7 _ w.heap.size (upTo r a 0) := hA.congr (fun j _ => by simp [upTo])
  simp only [dZero, World.size_alloc] at hR hA
  have HC := Lib.hid hc
  have HS := Lib.hid hS
  clear hc hS
  simp only [D7.v]
  obtain ⟨c0, c1, c2, c3, c4, c5, c6⟩ := hA.cells
  simp only [upTo, D7.get, Nat.not_lt_zero, if_false] at c0 c1 c2 c3 c4 c5 c6
  have j0 := i0; have j1 := i1; have j2 := i2; have j3 := i3; have j4 := i4; have j5 := i5; have j6 := i6
  go_enter Tryz.func80, Tryz.ntmps80
  go_wp2
  clear c0 c1 c2 c3 c4 c5 c6
  generalize ((w.alloc (.cells #[.int .i64 a.a0, .int .i64 a.a1, .int .i64 a.a2, .int .i64 a.a3, .int .i64 a.a4, .int .i64 a.a5, .int .i64 a.a6] 23)).alloc (.cells #[.int .i64 0, .int .i64 0, .int .i64 0, .int .i64 0, .int .i64 0, .int .i64 0, .int .i64 0] 23)) = W0 at *
  refine wp_loop_rounds 8 ?_
  rw [rounds_succ]
  go_wp2_with fail
  refine (HC.out 0 (by omega) _ s0 hz).mono ?_
  rintro e W1' ⟨rfl, t1, ho⟩
  replace hA := hA.owns ho (Nat.le_refl _)
  replace hR := hR.owns ho (Nat.le_succ _)
  replace hz : w.heap.size ≤ W1'.heap.size := Nat.le_trans hz ho.1
  clear ho s0
  have cc := hA.1 0 (by omega)
  have cf := hA.2.1 0
  replace hA := hA.up
  replace hR := hR.other w.heap.size 0 (.int .i64 (r 0)) (by omega)
  have s1 := HS.out 1 _ (W1'.setCell ⟨w.heap.size, 0, none⟩ (.int .i64 (r 0))) t1 (by go_grown)
  replace hz : w.heap.size ≤ (W1'.setCell ⟨w.heap.size, 0, none⟩ (.int .i64 (r 0))).heap.size := by rw [World.size_setCell]; exact hz
  go_wp2
  clear cc cf t1
  generalize W1'.setCell ⟨w.heap.size, 0, none⟩ (.int .i64 (r 0)) = W1 at *
  rw [rounds_succ]
  go_wp2_with fail
  refine (HC.out 1 (by omega) _ s1 hz).mono ?_
  rintro e W2' ⟨rfl, t2, ho⟩
  replace hA := hA.owns ho (Nat.le_refl _)
  replace hR := hR.owns ho (Nat.le_succ _)
  replace hz : w.heap.size ≤ W2'.heap.size := Nat.le_trans hz ho.1
  clear ho s1
  have cc := hA.1 1 (by omega)
  have cf := hA.2.1 1
  replace hA := hA.up
  replace hR := hR.other w.heap.size 1 (.int .i64 (r 1)) (by omega)
  have s2 := HS.out 2 _ (W2'.setCell ⟨w.heap.size, 1, none⟩ (.int .i64 (r 1))) t2 (by go_grown)
  replace hz : w.heap.size ≤ (W2'.setCell ⟨w.heap.size, 1, none⟩ (.int .i64 (r 1))).heap.size := by rw [World.size_setCell]; exact hz
  go_wp2
  clear cc cf t2
  generalize W2'.setCell ⟨w.heap.size, 1, none⟩ (.int .i64 (r 1)) = W2 at *
  rw [rounds_succ]
  go_wp2_with fail
  refine (HC.out 2 (by omega) _ s2 hz).mono ?_
  rintro e W3' ⟨rfl, t3, ho⟩
  replace hA := hA.owns ho (Nat.le_refl _)
  replace hR := hR.owns ho (Nat.le_succ _)
  replace hz : w.heap.size ≤ W3'.heap.size := Nat.le_trans hz ho.1
  clear ho s2
  have cc := hA.1 2 (by omega)
  have cf := hA.2.1 2
  replace hA := hA.up
  replace hR := hR.other w.heap.size 2 (.int .i64 (r 2)) (by omega)
  have s3 := HS.out 3 _ (W3'.setCell ⟨w.heap.size, 2, none⟩ (.int .i64 (r 2))) t3 (by go_grown)
  replace hz : w.heap.size ≤ (W3'.setCell ⟨w.heap.size, 2, none⟩ (.int .i64 (r 2))).heap.size := by rw [World.size_setCell]; exact hz
  go_wp2
  clear cc cf t3
  generalize W3'.setCell ⟨w.heap.size, 2, none⟩ (.int .i64 (r 2)) = W3 at *
  rw [rounds_succ]
  go_wp2_with fail
  refine (HC.out 3 (by omega) _ s3 hz).mono ?_
  rintro e W4' ⟨rfl, t4, ho⟩
  replace hA := hA.owns ho (Nat.le_refl _)
  replace hR := hR.owns ho (Nat.le_succ _)
  replace hz : w.heap.size ≤ W4'.heap.size := Nat.le_trans hz ho.1
  clear ho s3
  have cc := hA.1 3 (by omega)
  have cf := hA.2.1 3
  replace hA := hA.up
  replace hR := hR.other w.heap.size 3 (.int .i64 (r 3)) (by omega)
  have s4 := HS.out 4 _ (W4'.setCell ⟨w.heap.size, 3, none⟩ (.int .i64 (r 3))) t4 (by go_grown)
  replace hz : w.heap.size ≤ (W4'.setCell ⟨w.heap.size, 3, none⟩ (.int .i64 (r 3))).heap.size := by rw [World.size_setCell]; exact hz
  go_wp2
  clear cc cf t4
  generalize W4'.setCell ⟨w.heap.size, 3, none⟩ (.int .i64 (r 3)) = W4 at *
  rw [rounds_succ]
  go_wp2_with fail
  refine (HC.out 4 (by omega) _ s4 hz).mono ?_
  rintro e W5' ⟨rfl, t5, ho⟩
  replace hA := hA.owns ho (Nat.le_refl _)
  replace hR := hR.owns ho (Nat.le_succ _)
  replace hz : w.heap.size ≤ W5'.heap.size := Nat.le_trans hz ho.1
  clear ho s4
  have cc := hA.1 4 (by omega)
  have cf := hA.2.1 4
  replace hA := hA.up
  replace hR := hR.other w.heap.size 4 (.int .i64 (r 4)) (by omega)
  have s5 := HS.out 5 _ (W5'.setCell ⟨w.heap.size, 4, none⟩ (.int .i64 (r 4))) t5 (by go_grown)
  replace hz : w.heap.size ≤ (W5'.setCell ⟨w.heap.size, 4, none⟩ (.int .i64 (r 4))).heap.size := by rw [World.size_setCell]; exact hz
  go_wp2
  clear cc cf t5
  generalize W5'.setCell ⟨w.heap.size, 4, none⟩ (.int .i64 (r 4)) = W5 at *
  rw [rounds_succ]
  go_wp2_with fail
  refine (HC.out 5 (by omega) _ s5 hz).mono ?_
  rintro e W6' ⟨rfl, t6, ho⟩
  replace hA := hA.owns ho (Nat.le_refl _)
  replace hR := hR.owns ho (Nat.le_succ _)
  replace hz : w.heap.size ≤ W6'.heap.size := Nat.le_trans hz ho.1
  clear ho s5
  have cc := hA.1 5 (by omega)
  have cf := hA.2.1 5
  replace hA := hA.up
  replace hR := hR.other w.heap.size 5 (.int .i64 (r 5)) (by omega)
  have s6 := HS.out 6 _ (W6'.setCell ⟨w.heap.size, 5, none⟩ (.int .i64 (r 5))) t6 (by go_grown)
  replace hz : w.heap.size ≤ (W6'.setCell ⟨w.heap.size, 5, none⟩ (.int .i64 (r 5))).heap.size := by rw [World.size_setCell]; exact hz
  go_wp2
  clear cc cf t6
  generalize W6'.setCell ⟨w.heap.size, 5, none⟩ (.int .i64 (r 5)) = W6 at *
  rw [rounds_succ]
  go_wp2_with fail
  refine (HC.out 6 (by omega) _ s6 hz).mono ?_
  rintro e W7' ⟨rfl, t7, ho⟩
  replace hA := hA.owns ho (Nat.le_refl _)
  replace hR := hR.owns ho (Nat.le_succ _)
  replace hz : w.heap.size ≤ W7'.heap.size := Nat.le_trans hz ho.1
  clear ho s6
  have cc := hA.1 6 (by omega)
  have cf := hA.2.1 6
  replace hA := hA.up
  replace hR := hR.other w.heap.size 6 (.int .i64 (r 6)) (by omega)
  have s7 := HS.out 7 _ (W7'.setCell ⟨w.heap.size, 6, none⟩ (.int .i64 (r 6))) t7 (by go_grown)
  replace hz : w.heap.size ≤ (W7'.setCell ⟨w.heap.size, 6, none⟩ (.int .i64 (r 6))).heap.size := by rw [World.size_setCell]; exact hz
  go_wp2
  clear cc cf t7
  generalize W7'.setCell ⟨w.heap.size, 6, none⟩ (.int .i64 (r 6)) = W7 at *
  rw [rounds_succ]
  obtain ⟨c0, c1, c2, c3, c4, c5, c6⟩ := hA.cells
  simp only [upTo, Nat.zero_add, Nat.reduceAdd, Nat.reduceLT, if_true] at c0 c1 c2 c3 c4 c5 c6
  obtain ⟨d0, d1, d2, d3, d4, d5, d6⟩ := hR.cells
  have df := hR.2.1
  have hn : ¬ w.heap.size + 1 = w.heap.size := by omega
  go_wp2
  refine bodyPost_ret (v := .agg #[.int .i64 (r 0), .int .i64 (r 1), .int .i64 (r 2), .int .i64 (r 3), .int .i64 (r 4), .int .i64 (r 5), .int .i64 (r 6)]) (by simp [results, Tryz.results80, go_sem, d0, d1, d2, d3, d4, d5, d6]) rfl ⟨rfl, HS.out 7 _ _ s7 ?_⟩
  go_grown

end Go.Proofs.YtndinbefljajcaaGreatDoor.Dims

/-
  Contracts of dims.Right, dims.reckon, Add, Sub, Times: what they answer at any dims; the world below stays as it was.
-/
import Derived.Test.YtndinbefljajcaaGreatDoorD1
import Derived.Shelf.Abstract
namespace Go.Proofs.YtndinbefljajcaaGreatDoor.Dims
open Go.RowKit Go.Shelf
set_option linter.unusedVariables false
set_option linter.unusedSimpArgs false

theorem Below.goB {B : Nat} {w v v' : World} (h : Below B w v) (hz : B ≤ v.heap.size) (hb : Below v.heap.size v v') : Below B w v' := h.trans (hb.mono hz)

/-- Are they the same? -/
def eqB (a b : D7) : Bool := a.a0 == b.a0 && (a.a1 == b.a1 && (a.a2 == b.a2 && (a.a3 == b.a3 && (a.a4 == b.a4 && (a.a5 == b.a5 && a.a6 == b.a6)))))
theorem eqB_iff (a b : D7) : eqB a b = true ↔ a = b := by
  obtain ⟨a0, a1, a2, a3, a4, a5, a6⟩ := a
  obtain ⟨b0, b1, b2, b3, b4, b5, b6⟩ := b
  simp [eqB]
theorem eqB_same (a : D7) : eqB a a = true := (eqB_iff a a).2 rfl
theorem eqB_no {a b : D7} (h : a ≠ b) : eqB a b = false := by
  cases e : eqB a b with
  | false => rfl
  | true => exact absurd ((eqB_iff a b).1 e) h
attribute [irreducible] eqB

theorem p0 (a b c d e f g : Value) (w : World) : (part 3 #[a, b, c, d, e, f, g] 0).run Tryz.prog w = .ok a w := by kernel_rfl
theorem p1 (a b c d e f g : Value) (w : World) : (part 3 #[a, b, c, d, e, f, g] 1).run Tryz.prog w = .ok b w := by kernel_rfl
theorem p2 (a b c d e f g : Value) (w : World) : (part 3 #[a, b, c, d, e, f, g] 2).run Tryz.prog w = .ok c w := by kernel_rfl
theorem p3 (a b c d e f g : Value) (w : World) : (part 3 #[a, b, c, d, e, f, g] 3).run Tryz.prog w = .ok d w := by kernel_rfl
theorem p4 (a b c d e f g : Value) (w : World) : (part 3 #[a, b, c, d, e, f, g] 4).run Tryz.prog w = .ok e w := by kernel_rfl
theorem p5 (a b c d e f g : Value) (w : World) : (part 3 #[a, b, c, d, e, f, g] 5).run Tryz.prog w = .ok f w := by kernel_rfl
theorem p6 (a b c d e f g : Value) (w : World) : (part 3 #[a, b, c, d, e, f, g] 6).run Tryz.prog w = .ok g w := by kernel_rfl

theorem eq_items (a0 a1 a2 a3 a4 a5 a6 b0 b1 b2 b3 b4 b5 b6 : Int) (w : World) : (Op.equalIn 10000 23 (.agg #[.int .i64 a0, .int .i64 a1, .int .i64 a2, .int .i64 a3, .int .i64 a4, .int .i64 a5, .int .i64 a6]) (.agg #[.int .i64 b0, .int .i64 b1, .int .i64 b2, .int .i64 b3, .int .i64 b4, .int .i64 b5, .int .i64 b6])).run Tryz.prog w = .ok (eqB ⟨a0, a1, a2, a3, a4, a5, a6⟩ ⟨b0, b1, b2, b3, b4, b5, b6⟩) w := by
  have hu : Tryz.prog.underlying 23 = some (.array 7 3) := by kernel_rfl
  obtain ⟨i, hi⟩ : ∃ i, Tryz.prog.info? 3 = some i := Option.isSome_iff_exists.1 (by kernel_rfl)
  have hc : Tryz.prog.cellsOf 3 = 1 := by kernel_rfl
  have hu3 : Tryz.prog.underlying 3 = some (.int .i64) := by kernel_rfl
  have e3 : ∀ x y : Int, (Op.equalIn 9999 3 (.int .i64 x) (.int .i64 y)).run Tryz.prog w = .ok (x == y) w := fun x y => run_equalIn_int w 9998 3 .i64 .i64 x y hu3
  rw [run_equalIn_array w 9999 _ _ hu hi, hc, show List.range 7 = [0, 1, 2, 3, 4, 5, 6] from rfl]
  simp only [Op.eqItems, Nat.mul_one, Sem.run_bind, p0, p1, p2, p3, p4, p5, p6, e3, Result.andThen_ok]
  unfold eqB
  dsimp only
  cases a0 == b0 <;> simp only [Bool.not_true, Bool.not_false, Bool.false_eq_true, if_true, if_false, Bool.true_and, Bool.false_and, Sem.run_pure, Sem.run_bind, p0, p1, p2, p3, p4, p5, p6, e3, Result.andThen_ok]
  cases a1 == b1 <;> simp only [Bool.not_true, Bool.not_false, Bool.false_eq_true, if_true, if_false, Bool.true_and, Bool.false_and, Sem.run_pure, Sem.run_bind, p0, p1, p2, p3, p4, p5, p6, e3, Result.andThen_ok]
  cases a2 == b2 <;> simp only [Bool.not_true, Bool.not_false, Bool.false_eq_true, if_true, if_false, Bool.true_and, Bool.false_and, Sem.run_pure, Sem.run_bind, p0, p1, p2, p3, p4, p5, p6, e3, Result.andThen_ok]
  cases a3 == b3 <;> simp only [Bool.not_true, Bool.not_false, Bool.false_eq_true, if_true, if_false, Bool.true_and, Bool.false_and, Sem.run_pure, Sem.run_bind, p0, p1, p2, p3, p4, p5, p6, e3, Result.andThen_ok]
  cases a4 == b4 <;> simp only [Bool.not_true, Bool.not_false, Bool.false_eq_true, if_true, if_false, Bool.true_and, Bool.false_and, Sem.run_pure, Sem.run_bind, p0, p1, p2, p3, p4, p5, p6, e3, Result.andThen_ok]
  cases a5 == b5 <;> simp only [Bool.not_true, Bool.not_false, Bool.false_eq_true, if_true, if_false, Bool.true_and, Bool.false_and, Sem.run_pure, Sem.run_bind, p0, p1, p2, p3, p4, p5, p6, e3, Result.andThen_ok]
  cases a6 == b6 <;> simp only [Bool.not_true, Bool.not_false, Bool.false_eq_true, if_true, if_false, Bool.true_and, Bool.false_and, Sem.run_pure]

/-- Two arrays are held against each other. -/
theorem eq7 (a0 a1 a2 a3 a4 a5 a6 b0 b1 b2 b3 b4 b5 b6 : Int) (w : World) : (binOp BinOp.eql 23 (.agg #[.int .i64 a0, .int .i64 a1, .int .i64 a2, .int .i64 a3, .int .i64 a4, .int .i64 a5, .int .i64 a6]) (.agg #[.int .i64 b0, .int .i64 b1, .int .i64 b2, .int .i64 b3, .int .i64 b4, .int .i64 b5, .int .i64 b6])).run Tryz.prog w = .ok (.bool (eqB ⟨a0, a1, a2, a3, a4, a5, a6⟩ ⟨b0, b1, b2, b3, b4, b5, b6⟩)) w := by
  have h := eq_items a0 a1 a2 a3 a4 a5 a6 b0 b1 b2 b3 b4 b5 b6 w
  simp [go_sem, h]
theorem ne7 (a0 a1 a2 a3 a4 a5 a6 b0 b1 b2 b3 b4 b5 b6 : Int) (w : World) : (binOp BinOp.neq 23 (.agg #[.int .i64 a0, .int .i64 a1, .int .i64 a2, .int .i64 a3, .int .i64 a4, .int .i64 a5, .int .i64 a6]) (.agg #[.int .i64 b0, .int .i64 b1, .int .i64 b2, .int .i64 b3, .int .i64 b4, .int .i64 b5, .int .i64 b6])).run Tryz.prog w = .ok (.bool (!eqB ⟨a0, a1, a2, a3, a4, a5, a6⟩ ⟨b0, b1, b2, b3, b4, b5, b6⟩)) w := by
  have h := eq_items a0 a1 a2 a3 a4 a5 a6 b0 b1 b2 b3 b4 b5 b6 w
  simp [go_sem, h]

theorem each_right (a : D7) (w : World) (hf : Fine a) :
    Calls Tryz.prog 80 #[a.v, .func (.func 81) #[] #[]] w fun e w' => e = .returned (dOf (fun i => within (a.get i) 99)).v ∧ Below w.heap.size w w' := by
  refine each_any a 81 #[] (fun i => within (a.get i) 99) (fun _ W => Below w.heap.size w W) w (enters_of Tryz.func81 (by kernel_rfl) rfl) ?_ ?_ (Below.refl _ _)
  · intro i W W' h hb
    exact h.trans hb
  · intro i hi W hB hz
    refine (right1_any i (a.get i) W (hf i hi).1 (hf i hi).2).mono ?_
    rintro e W' ⟨rfl, rfl⟩
    exact ⟨rfl, hB, Owns.refl _ _⟩

/-- How the world stands within a function of one dims: its box. -/
def OneAt (w v : World) (a : D7) : Prop := Below w.heap.size w v ∧ Lies7 v w.heap.size a.get
theorem OneAt.below {w v v' : World} {a : D7} (h : OneAt w v a) (hb : Below v.heap.size v v') : OneAt w v' a := ⟨Below.goB h.1 h.1.size hb, h.2.below hb h.2.2.2⟩
theorem OneAt.drew {w v : World} {a : D7} (h : OneAt w v a) : OneAt w v.drew a := h.below (by go_grown)
theorem OneAt.new (w : World) (a : D7) : OneAt w (w.alloc (.cells #[.int .i64 a.a0, .int .i64 a.a1, .int .i64 a.a2, .int .i64 a.a3, .int .i64 a.a4, .int .i64 a.a5, .int .i64 a.a6] 23)) a := ⟨by go_grown, Lies7.new w a⟩
theorem OneAt.cells {w v : World} {a : D7} (h : OneAt w v a) : v.cell? ⟨w.heap.size, 0, none⟩ = some (.int .i64 a.a0) ∧ v.cell? ⟨w.heap.size, 1, none⟩ = some (.int .i64 a.a1) ∧ v.cell? ⟨w.heap.size, 2, none⟩ = some (.int .i64 a.a2) ∧ v.cell? ⟨w.heap.size, 3, none⟩ = some (.int .i64 a.a3) ∧ v.cell? ⟨w.heap.size, 4, none⟩ = some (.int .i64 a.a4) ∧ v.cell? ⟨w.heap.size, 5, none⟩ = some (.int .i64 a.a5) ∧ v.cell? ⟨w.heap.size, 6, none⟩ = some (.int .i64 a.a6) := h.2.cells

set_option maxRecDepth 100000 in
set_option maxHeartbeats 1000000 in
theorem right_any (a : D7) (w : World) (hf : Fine a) :
    Calls Tryz.prog 54 #[a.v] w fun e w' => e = .returned (.bool (rightB a)) ∧ Below w.heap.size w w' := by
  have hA := OneAt.new w a
  have HR : Hid (eqB a (dOf (fun i => within (a.get i) 99)) = rightB a) := by
    show _ = _
    by_cases h : Right a
    · rw [rightB_of h, (eqB_iff _ _).2 ((right_iff a).2 h)]
    · rw [rightB_no h, eqB_no (fun e => h ((right_iff a).1 e))]
  have hE := each_right a
  simp only [D7.v] at hE ⊢
  generalize dOf (fun i => within (a.get i) 99) = R at *
  have q := eq7
  obtain ⟨c0, c1, c2, c3, c4, c5, c6⟩ := hA.cells
  go_enter Tryz.func54, Tryz.ntmps54
  go_wp2
  clear c0 c1 c2 c3 c4 c5 c6
  go_region_held3 (fun v => v.cell? ⟨w.heap.size, 0, none⟩ = some (.int .i64 a.a0) ∧ v.cell? ⟨w.heap.size, 1, none⟩ = some (.int .i64 a.a1) ∧ v.cell? ⟨w.heap.size, 2, none⟩ = some (.int .i64 a.a2) ∧ v.cell? ⟨w.heap.size, 3, none⟩ = some (.int .i64 a.a3) ∧ v.cell? ⟨w.heap.size, 4, none⟩ = some (.int .i64 a.a4) ∧ v.cell? ⟨w.heap.size, 5, none⟩ = some (.int .i64 a.a5) ∧ v.cell? ⟨w.heap.size, 6, none⟩ = some (.int .i64 a.a6))
    (first | exact hA.cells | exact hA.drew.cells | go_keep)
    (first | (go_at_call 80; refine (hE _ hf).mono ?_; rintro e w1 ⟨rfl, hb⟩; replace hA := hA.drew.below hb; clear hb))
  go_wp2
  go_ret
  exact ⟨by rw [← HR.out]; rfl, hA.1⟩

set_option maxRecDepth 100000 in
set_option maxHeartbeats 1000000 in
theorem reckon1_any (i : Nat) (hi : i < 7) (x : Int) (Bp Bb kp : Nat) (cp : Array Value) (b : D7) (put : Int → Int → Int) (W : World)
    (eg : ∀ args W, (callFunc kp args).run Tryz.prog W = .ok (.enter kp args) W)
    (hp : W.cell? ⟨Bp, 0, none⟩ = some (.func (.func kp) #[] cp)) (hb : Lies7 W Bb b.get)
    (hc : ∀ V, Below W.heap.size W V → Calls Tryz.prog kp (#[.int .i64 x, .int .i64 (b.get i)] ++ cp) V fun e W' => e = .returned (.int .i64 (put x (b.get i))) ∧ V = W') :
    Calls Tryz.prog 85 #[.int .i64 i, .int .i64 x, .pointer (some ⟨Bp, 0, none⟩), .pointer (some ⟨Bb, 0, none⟩)] W fun e W' => e = .returned (.int .i64 (put x (b.get i))) ∧ Below W.heap.size W W' := by
  have hb1 := hb.1 i hi
  have hii : (i : Int) < 7 := by omega
  generalize hv : b.get i = y at *
  have HV := Lib.hid hv
  clear hv
  go_enter Tryz.func85, Tryz.ntmps85
  go_wp2
  have hW := Below.refl W.heap.size W
  go_region_held3 (fun v => v.cell? ⟨Bp, 0, none⟩ = some (.func (.func kp) #[] cp) ∧ v.cell? ⟨Bb, i, none⟩ = some (.int .i64 y))
    (first | exact ⟨hp, hb1⟩ | go_keep)
    (first | (refine (hc _ (by go_grown)).mono ?_; rintro e w' ⟨rfl, rfl⟩))
  go_wp2
  go_ret
  exact ⟨rfl, by go_grown⟩

theorem Lies7.put {W : World} {b : Nat} {x : Nat → Int} (h : Lies7 W b x) (O : D7) : Lies7 (((((((W.setCell ⟨b, 0, none⟩ (.int .i64 O.a0)).setCell ⟨b, 1, none⟩ (.int .i64 O.a1)).setCell ⟨b, 2, none⟩ (.int .i64 O.a2)).setCell ⟨b, 3, none⟩ (.int .i64 O.a3)).setCell ⟨b, 4, none⟩ (.int .i64 O.a4)).setCell ⟨b, 5, none⟩ (.int .i64 O.a5)).setCell ⟨b, 6, none⟩ (.int .i64 O.a6)) b O.get :=
  (((((((h.set 0 O.a0).set 1 O.a1).set 2 O.a2).set 3 O.a3).set 4 O.a4).set 5 O.a5).set 6 O.a6).congr (seven rfl rfl rfl rfl rfl rfl rfl)
theorem Lies7.stored (W : World) (O : D7) : Lies7 ((((((((W.alloc (.cells #[.int .i64 0, .int .i64 0, .int .i64 0, .int .i64 0, .int .i64 0, .int .i64 0, .int .i64 0] 23)).setCell ⟨W.heap.size, 0, none⟩ (.int .i64 O.a0)).setCell ⟨W.heap.size, 1, none⟩ (.int .i64 O.a1)).setCell ⟨W.heap.size, 2, none⟩ (.int .i64 O.a2)).setCell ⟨W.heap.size, 3, none⟩ (.int .i64 O.a3)).setCell ⟨W.heap.size, 4, none⟩ (.int .i64 O.a4)).setCell ⟨W.heap.size, 5, none⟩ (.int .i64 O.a5)).setCell ⟨W.heap.size, 6, none⟩ (.int .i64 O.a6)) W.heap.size O.get := (Lies7.new W dZero).put O

/-- How the world stands within reckon. -/
def ReckAt (w v : World) (a b : D7) (f : Value) : Prop := Below w.heap.size w v ∧ Lies7 v w.heap.size a.get ∧ Lies7 v (w.heap.size + 1) b.get ∧ v.cell? ⟨w.heap.size + 1 + 1, 0, none⟩ = some f ∧ Lies7 v (w.heap.size + 1 + 1 + 1) dZero.get
theorem ReckAt.below {w v v' : World} {a b : D7} {f : Value} (h : ReckAt w v a b f) (hb : Below v.heap.size v v') : ReckAt w v' a b f :=
  ⟨Below.goB h.1 h.1.size hb, h.2.1.below hb h.2.1.2.2, h.2.2.1.below hb h.2.2.1.2.2, (hb.cell (p := ⟨w.heap.size + 1 + 1, 0, none⟩) (by have := h.2.2.2.2.2.2; show w.heap.size + 1 + 1 < _; omega)).trans h.2.2.2.1, h.2.2.2.2.below hb h.2.2.2.2.2.2⟩
theorem ReckAt.new (w : World) (a b : D7) (f : Value) : ReckAt w ((((w.alloc (.cells #[.int .i64 a.a0, .int .i64 a.a1, .int .i64 a.a2, .int .i64 a.a3, .int .i64 a.a4, .int .i64 a.a5, .int .i64 a.a6] 23)).alloc (.cells #[.int .i64 b.a0, .int .i64 b.a1, .int .i64 b.a2, .int .i64 b.a3, .int .i64 b.a4, .int .i64 b.a5, .int .i64 b.a6] 23)).alloc (.cells #[f] 91)).alloc (.cells #[.int .i64 0, .int .i64 0, .int .i64 0, .int .i64 0, .int .i64 0, .int .i64 0, .int .i64 0] 23)) a b f := by
  have h1 := Lies7.new w a
  have h2 := Lies7.new (w.alloc (.cells #[.int .i64 a.a0, .int .i64 a.a1, .int .i64 a.a2, .int .i64 a.a3, .int .i64 a.a4, .int .i64 a.a5, .int .i64 a.a6] 23)) b
  have h3 := Lies7.new (((w.alloc (.cells #[.int .i64 a.a0, .int .i64 a.a1, .int .i64 a.a2, .int .i64 a.a3, .int .i64 a.a4, .int .i64 a.a5, .int .i64 a.a6] 23)).alloc (.cells #[.int .i64 b.a0, .int .i64 b.a1, .int .i64 b.a2, .int .i64 b.a3, .int .i64 b.a4, .int .i64 b.a5, .int .i64 b.a6] 23)).alloc (.cells #[f] 91)) dZero
  simp only [World.size_alloc] at h2 h3
  refine ⟨by go_grown, ((h1.alloc _).alloc _).alloc _, (h2.alloc _).alloc _, ?_, h3⟩
  simp [go_sem]

set_option maxRecDepth 100000 in
set_option maxHeartbeats 2000000 in
theorem reckon_any (a b : D7) (kp : Nat) (cp : Array Value) (put : Int → Int → Int) (w : World) (fa : Fine a) (fb : Fine b)
    (eg : ∀ args W, (callFunc kp args).run Tryz.prog W = .ok (.enter kp args) W)
    (hc : Right a → Right b → ∀ i, i < 7 → ∀ V, Below w.heap.size w V → Calls Tryz.prog kp (#[.int .i64 (a.get i), .int .i64 (b.get i)] ++ cp) V fun e W' => e = .returned (.int .i64 (put (a.get i) (b.get i))) ∧ V = W')
    (hf : Right a → Right b → Fine (dOf (fun i => put (a.get i) (b.get i)))) :
    Calls Tryz.prog 60 #[a.v, b.v, .func (.func kp) #[] cp] w fun e w' => e = .returned (.tuple #[(reckonG a b put).1.v, .bool (reckonG a b put).2]) ∧ Below w.heap.size w w' := by
  have hA := ReckAt.new w a b (.func (.func kp) #[] cp)
  have rA := right_any a
  have rB := right_any b
  simp only [D7.v] at rA rB ⊢
  by_cases ra : Right a
  · by_cases rb : Right b
    · have RA := Lib.hid (rightB_of ra)
      have RB := Lib.hid (rightB_of rb)
      have HC := Lib.hid (hc ra rb)
      have fo := hf ra rb
      have HE : ∀ V, ReckAt w V a b (.func (.func kp) #[] cp) → Calls Tryz.prog 80 #[a.v, .func (.func 85) #[] #[.pointer (some ⟨w.heap.size + 1 + 1, 0, none⟩), .pointer (some ⟨w.heap.size + 1, 0, none⟩)]] V fun e w' => e = .returned (dOf (fun i => put (a.get i) (b.get i))).v ∧ Below V.heap.size V w' := by
        intro V hV
        refine each_any a 85 _ (fun i => put (a.get i) (b.get i)) (fun _ W => Below V.heap.size V W) V (enters_of Tryz.func85 (by kernel_rfl) rfl) ?_ ?_ (Below.refl _ _)
        · intro i W W' h hb
          exact h.trans hb
        · intro i hi W hB hz
          have hV' := hV.below hB
          refine (reckon1_any i hi (a.get i) (w.heap.size + 1 + 1) (w.heap.size + 1) kp cp b put W eg hV'.2.2.2.1 hV'.2.2.1 (fun U hU => HC.out i hi U (Below.goB hV'.1 hV'.1.size hU))).mono ?_
          rintro e W' ⟨rfl, hb⟩
          exact ⟨rfl, Below.goB hB hB.size hb, Owns.of_below hb⟩
      simp only [D7.v] at HE
      generalize hO : dOf (fun i => put (a.get i) (b.get i)) = O at *
      have rO := right_any O
      simp only [D7.v] at rO
      obtain ⟨c0, c1, c2, c3, c4, c5, c6⟩ := hA.2.1.cells
      go_enter Tryz.func60, Tryz.ntmps60
      go_wp2_with fail
      refine (rA _ fa).mono ?_
      rintro e w1 ⟨rfl, hb⟩
      rw [RA.out]
      replace hA := hA.below hb
      clear hb c0 c1 c2 c3 c4 c5 c6
      obtain ⟨c0, c1, c2, c3, c4, c5, c6⟩ := hA.2.2.1.cells
      simp only [D7.get] at c0 c1 c2 c3 c4 c5 c6
      go_wp2_with fail
      refine (rB _ fb).mono ?_
      rintro e w2 ⟨rfl, hb⟩
      rw [RB.out]
      replace hA := hA.below hb
      clear hb c0 c1 c2 c3 c4 c5 c6
      obtain ⟨c0, c1, c2, c3, c4, c5, c6⟩ := hA.2.1.cells
      simp only [D7.get] at c0 c1 c2 c3 c4 c5 c6
      go_wp2_with fail
      refine (HE _ hA).mono ?_
      rintro e w3 ⟨rfl, hb⟩
      replace hA := hA.below hb
      clear hb c0 c1 c2 c3 c4 c5 c6
      have hO2 := Lies7.new w3 O
      replace hA := hA.below (v' := (w3.alloc (.cells #[.int .i64 O.a0, .int .i64 O.a1, .int .i64 O.a2, .int .i64 O.a3, .int .i64 O.a4, .int .i64 O.a5, .int .i64 O.a6] 23))) (by go_grown)
      go_wp2_with fail
      generalize (w3.alloc (.cells #[.int .i64 O.a0, .int .i64 O.a1, .int .i64 O.a2, .int .i64 O.a3, .int .i64 O.a4, .int .i64 O.a5, .int .i64 O.a6] 23)) = U at *
      refine (rO _ fo).mono ?_
      rintro e w4 ⟨rfl, hb⟩
      replace hA := hA.below hb
      replace hO2 := hO2.below hb hO2.2.2
      clear hb
      obtain ⟨hB, _, _, _, hZ⟩ := id hA
      obtain ⟨m0, m1, m2, m3, m4, m5, m6⟩ := hZ.cells
      have mf := hZ.2.1
      by_cases ro : Right O
      · have RO := Lib.hid (rightB_of ro)
        have HG : Hid (reckonG a b put = (O, true)) := by show _ = _; unfold reckonG; rw [hO, if_pos ⟨ra, rb, ro⟩]
        rw [RO.out]
        obtain ⟨c0, c1, c2, c3, c4, c5, c6⟩ := hO2.cells
        simp only [D7.get] at c0 c1 c2 c3 c4 c5 c6
        go_wp2
        refine bodyPost_ret (v := .tuple #[O.v, .bool true]) (by simp [results, Tryz.results60, go_sem, D7.v, m0, m1, m2, m3, m4, m5, m6]) rfl ⟨by rw [HG.out]; rfl, ?_⟩
        go_grown
      · have RO := Lib.hid (rightB_no ro)
        have HG : Hid (reckonG a b put = (dZero, false)) := by show _ = _; unfold reckonG; rw [hO, if_neg (fun h => ro h.2.2)]
        rw [RO.out]
        go_wp2
        refine bodyPost_ret (v := .tuple #[dZero.v, .bool false]) (by simp [results, Tryz.results60, go_sem, D7.v, dZero, m0, m1, m2, m3, m4, m5, m6]) rfl ⟨by rw [HG.out]; rfl, ?_⟩
        go_grown
    · have RA := Lib.hid (rightB_of ra)
      have RB := Lib.hid (rightB_no rb)
      have HG : Hid (reckonG a b put = (dZero, false)) := by show _ = _; unfold reckonG; rw [if_neg (fun h => rb h.2.1)]
      obtain ⟨c0, c1, c2, c3, c4, c5, c6⟩ := hA.2.1.cells
      go_enter Tryz.func60, Tryz.ntmps60
      go_wp2_with fail
      refine (rA _ fa).mono ?_
      rintro e w1 ⟨rfl, hb⟩
      rw [RA.out]
      replace hA := hA.below hb
      clear hb c0 c1 c2 c3 c4 c5 c6
      obtain ⟨c0, c1, c2, c3, c4, c5, c6⟩ := hA.2.2.1.cells
      simp only [D7.get] at c0 c1 c2 c3 c4 c5 c6
      go_wp2_with fail
      refine (rB _ fb).mono ?_
      rintro e w2 ⟨rfl, hb⟩
      rw [RB.out]
      replace hA := hA.below hb
      clear hb c0 c1 c2 c3 c4 c5 c6
      obtain ⟨hB, _, _, _, hZ⟩ := id hA
      obtain ⟨m0, m1, m2, m3, m4, m5, m6⟩ := hZ.cells
      have mf := hZ.2.1
      go_wp2
      refine bodyPost_ret (v := .tuple #[dZero.v, .bool false]) (by simp [results, Tryz.results60, go_sem, D7.v, dZero, m0, m1, m2, m3, m4, m5, m6]) rfl ⟨by rw [HG.out]; rfl, ?_⟩
      go_grown
  · have RA := Lib.hid (rightB_no ra)
    have HG : Hid (reckonG a b put = (dZero, false)) := by show _ = _; unfold reckonG; rw [if_neg (fun h => ra h.1)]
    obtain ⟨c0, c1, c2, c3, c4, c5, c6⟩ := hA.2.1.cells
    go_enter Tryz.func60, Tryz.ntmps60
    go_wp2_with fail
    refine (rA _ fa).mono ?_
    rintro e w1 ⟨rfl, hb⟩
    rw [RA.out]
    replace hA := hA.below hb
    clear hb c0 c1 c2 c3 c4 c5 c6
    obtain ⟨hB, _, _, _, hZ⟩ := id hA
    obtain ⟨m0, m1, m2, m3, m4, m5, m6⟩ := hZ.cells
    have mf := hZ.2.1
    go_wp2
    refine bodyPost_ret (v := .tuple #[dZero.v, .bool false]) (by simp [results, Tryz.results60, go_sem, D7.v, dZero, m0, m1, m2, m3, m4, m5, m6]) rfl ⟨by rw [HG.out]; rfl, ?_⟩
    go_grown

end Go.Proofs.YtndinbefljajcaaGreatDoor.Dims

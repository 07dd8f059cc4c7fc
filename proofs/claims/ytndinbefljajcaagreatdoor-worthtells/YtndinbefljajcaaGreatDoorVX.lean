/-
  Worths: their equality, contracts of worth.Right, worth.plain; the world below stays as it was. Contracts of worth.Right, worth.plain; the world below stays as it was. Contracts of what worth.Mul, Div, Pow hand to reckon, of reckon at any such functions, and of Mul, Div, Pow, Of; the world below stays as it was.
-/
import Derived.Test.YtndinbefljajcaaGreatDoorFB
import Derived.Test.YtndinbefljajcaaGreatDoorD3
import Derived.Test.YtndinbefljajcaaGreatDoorF9
namespace Go.Proofs.YtndinbefljajcaaGreatDoor.Worth
open Go.RowKit Go.Shelf
open Go.Proofs.YtndinbefljajcaaGreatDoor.Frac (Got OfTen)
open Go.Proofs.YtndinbefljajcaaGreatDoor.Dims (D7 dZero)
set_option linter.unusedVariables false
set_option linter.unusedSimpArgs false

/-- A worth: a frac, dims, a tag. -/
structure Wo where
  n : Int
  d : Int
  t : Int
  D : D7
  g : Int

def Wo.v (a : Wo) : Value := .agg #[.int .i64 a.n, .int .i64 a.d, .int .i64 a.t, .int .i64 a.D.a0, .int .i64 a.D.a1, .int .i64 a.D.a2, .int .i64 a.D.a3, .int .i64 a.D.a4, .int .i64 a.D.a5, .int .i64 a.D.a6, .int .i64 a.g]
def wZero : Wo := ⟨0, 0, 0, dZero, 0⟩
/-- Its numbers are ints. -/
structure Wo.Fine (a : Wo) : Prop where
  n : a.n ≤ 9223372036854775807
  d : a.d ≤ 9223372036854775807
  D : Dims.Fine a.D
  g0 : -9223372036854775808 ≤ a.g
  g1 : a.g ≤ 9223372036854775807

/-- Are they the same? -/
def eqF (n d t n' d' t' : Int) : Bool := n == n' && (d == d' && t == t')
theorem eqF_iff (n d t n' d' t' : Int) : eqF n d t n' d' t' = true ↔ n = n' ∧ d = d' ∧ t = t' := by simp [eqF]
attribute [irreducible] eqF
def eqW (a b : Wo) : Bool := eqF a.n a.d a.t b.n b.d b.t && (Dims.eqB a.D b.D && a.g == b.g)
theorem eqW_iff (a b : Wo) : eqW a b = true ↔ a = b := by
  obtain ⟨a0, a1, a2, D, g⟩ := a
  obtain ⟨b0, b1, b2, E, k⟩ := b
  simp only [eqW, Bool.and_eq_true, eqF_iff, Dims.eqB_iff, beq_iff_eq, Wo.mk.injEq]
  constructor
  · rintro ⟨⟨h1, h2, h3⟩, h4, h5⟩; exact ⟨h1, h2, h3, h4, h5⟩
  · rintro ⟨h1, h2, h3, h4, h5⟩; exact ⟨⟨h1, h2, h3⟩, h4, h5⟩
theorem eqW_no {a b : Wo} (h : a ≠ b) : eqW a b = false := by
  cases e : eqW a b with
  | false => rfl
  | true => exact absurd ((eqW_iff a b).1 e) h
theorem eqW_same (a : Wo) : eqW a a = true := (eqW_iff a a).2 rfl

/-- A list of three by what is made of each. -/
theorem three {α β : Type} {f : α → β} {l : List α} {x y z : β} (h : l.map f = [x, y, z]) : ∃ a b c, l = [a, b, c] ∧ f a = x ∧ f b = y ∧ f c = z := by
  obtain ⟨a, l1, rfl, ha, h1⟩ := List.map_eq_cons_iff.1 h
  obtain ⟨b, l2, rfl, hb, h2⟩ := List.map_eq_cons_iff.1 h1
  obtain ⟨c, l3, rfl, hc, h3⟩ := List.map_eq_cons_iff.1 h2
  rw [List.map_eq_nil_iff] at h3
  subst h3
  exact ⟨a, b, c, rfl, ha, hb, hc⟩

theorem pF0 (a b c : Value) (w : World) : (part 2 #[a, b, c] 0).run Tryz.prog w = .ok a w := by kernel_rfl
theorem pF1 (a b c : Value) (w : World) : (part 2 #[a, b, c] 1).run Tryz.prog w = .ok b w := by kernel_rfl
theorem pF2 (a b c : Value) (w : World) : (part 3 #[a, b, c] 2).run Tryz.prog w = .ok c w := by kernel_rfl

theorem eq_frac (n d t n' d' t' : Int) (k : Nat) (w : World) : (Op.equalIn (k + 2) 28 (.agg #[.int .i64 n, .int .i64 d, .int .i64 t]) (.agg #[.int .i64 n', .int .i64 d', .int .i64 t'])).run Tryz.prog w = .ok (eqF n d t n' d' t') w := by
  have hu : Tryz.prog.underlying 28 = some (.struct (Tryz.prog.fieldsOf 28)) := by kernel_rfl
  have hp : Tryz.prog.stoodInHeld 28 = false := by kernel_rfl
  have hF : (Tryz.prog.fieldsOf 28).toList.map (fun f => (f.name, f.type, f.offset)) = [("Num", 2, 0), ("Den", 2, 1), ("Ten", 3, 2)] := by kernel_rfl
  have u1 : Tryz.prog.underlying 2 = some (.int .i64) := by kernel_rfl
  have u2 : Tryz.prog.underlying 3 = some (.int .i64) := by kernel_rfl
  have e1 : ∀ x y : Int, (Op.equalIn (k + 1) 2 (.int .i64 x) (.int .i64 y)).run Tryz.prog w = .ok (x == y) w := fun x y => run_equalIn_int w k 2 .i64 .i64 x y u1
  have e2 : ∀ x y : Int, (Op.equalIn (k + 1) 3 (.int .i64 x) (.int .i64 y)).run Tryz.prog w = .ok (x == y) w := fun x y => run_equalIn_int w k 3 .i64 .i64 x y u2
  rw [show k + 2 = (k + 1) + 1 from rfl, run_equalIn_struct w (k + 1) _ _ _ hu hp]
  obtain ⟨f0, f1, f2, hl, q0, q1, q2⟩ := three hF
  simp only [Prod.mk.injEq] at q0 q1 q2
  obtain ⟨q00, q01, q02⟩ := q0
  obtain ⟨q10, q11, q12⟩ := q1
  obtain ⟨q20, q21, q22⟩ := q2
  · rw [hl, Op.eqFields.eq_2, Op.eqFields.eq_2, Op.eqFields.eq_2, Op.eqFields.eq_1, q00, q01, q02, q10, q11, q12, q20, q21, q22]
    simp only [ne_eq, String.reduceEq, not_false_eq_true, if_true, Sem.run_bind, pF0, pF1, pF2, e1, e2, Result.andThen_ok]
    unfold eqF
    cases n == n' <;> simp only [Bool.not_true, Bool.not_false, Bool.false_eq_true, if_true, if_false, Bool.true_and, Bool.false_and, Sem.run_pure, Sem.run_bind, pF0, pF1, pF2, e1, e2, Result.andThen_ok]
    cases d == d' <;> simp only [Bool.not_true, Bool.not_false, Bool.false_eq_true, if_true, if_false, Bool.true_and, Bool.false_and, Sem.run_pure, Sem.run_bind, pF0, pF1, pF2, e1, e2, Result.andThen_ok]
    cases t == t' <;> simp only [Bool.not_true, Bool.not_false, Bool.false_eq_true, if_true, if_false, Bool.true_and, Bool.false_and, Sem.run_pure, Sem.run_bind, pF0, pF1, pF2, e1, e2, Result.andThen_ok]

theorem eq_dims (a0 a1 a2 a3 a4 a5 a6 b0 b1 b2 b3 b4 b5 b6 : Int) (k : Nat) (w : World) : (Op.equalIn (k + 2) 23 (.agg #[.int .i64 a0, .int .i64 a1, .int .i64 a2, .int .i64 a3, .int .i64 a4, .int .i64 a5, .int .i64 a6]) (.agg #[.int .i64 b0, .int .i64 b1, .int .i64 b2, .int .i64 b3, .int .i64 b4, .int .i64 b5, .int .i64 b6])).run Tryz.prog w = .ok (Dims.eqB ⟨a0, a1, a2, a3, a4, a5, a6⟩ ⟨b0, b1, b2, b3, b4, b5, b6⟩) w := by
  have hu : Tryz.prog.underlying 23 = some (.array 7 3) := by kernel_rfl
  obtain ⟨i, hi⟩ : ∃ i, Tryz.prog.info? 3 = some i := Option.isSome_iff_exists.1 (by kernel_rfl)
  have hc : Tryz.prog.cellsOf 3 = 1 := by kernel_rfl
  have hu3 : Tryz.prog.underlying 3 = some (.int .i64) := by kernel_rfl
  have e3 : ∀ x y : Int, (Op.equalIn (k + 1) 3 (.int .i64 x) (.int .i64 y)).run Tryz.prog w = .ok (x == y) w := fun x y => run_equalIn_int w k 3 .i64 .i64 x y hu3
  rw [show k + 2 = (k + 1) + 1 from rfl, run_equalIn_array w (k + 1) _ _ hu hi, hc, show List.range 7 = [0, 1, 2, 3, 4, 5, 6] from rfl]
  simp only [Op.eqItems, Nat.mul_one, Sem.run_bind, Dims.p0, Dims.p1, Dims.p2, Dims.p3, Dims.p4, Dims.p5, Dims.p6, e3, Result.andThen_ok]
  unfold Dims.eqB
  dsimp only
  cases a0 == b0 <;> simp only [Bool.not_true, Bool.not_false, Bool.false_eq_true, if_true, if_false, Bool.true_and, Bool.false_and, Sem.run_pure, Sem.run_bind, Dims.p0, Dims.p1, Dims.p2, Dims.p3, Dims.p4, Dims.p5, Dims.p6, e3, Result.andThen_ok]
  cases a1 == b1 <;> simp only [Bool.not_true, Bool.not_false, Bool.false_eq_true, if_true, if_false, Bool.true_and, Bool.false_and, Sem.run_pure, Sem.run_bind, Dims.p0, Dims.p1, Dims.p2, Dims.p3, Dims.p4, Dims.p5, Dims.p6, e3, Result.andThen_ok]
  cases a2 == b2 <;> simp only [Bool.not_true, Bool.not_false, Bool.false_eq_true, if_true, if_false, Bool.true_and, Bool.false_and, Sem.run_pure, Sem.run_bind, Dims.p0, Dims.p1, Dims.p2, Dims.p3, Dims.p4, Dims.p5, Dims.p6, e3, Result.andThen_ok]
  cases a3 == b3 <;> simp only [Bool.not_true, Bool.not_false, Bool.false_eq_true, if_true, if_false, Bool.true_and, Bool.false_and, Sem.run_pure, Sem.run_bind, Dims.p0, Dims.p1, Dims.p2, Dims.p3, Dims.p4, Dims.p5, Dims.p6, e3, Result.andThen_ok]
  cases a4 == b4 <;> simp only [Bool.not_true, Bool.not_false, Bool.false_eq_true, if_true, if_false, Bool.true_and, Bool.false_and, Sem.run_pure, Sem.run_bind, Dims.p0, Dims.p1, Dims.p2, Dims.p3, Dims.p4, Dims.p5, Dims.p6, e3, Result.andThen_ok]
  cases a5 == b5 <;> simp only [Bool.not_true, Bool.not_false, Bool.false_eq_true, if_true, if_false, Bool.true_and, Bool.false_and, Sem.run_pure, Sem.run_bind, Dims.p0, Dims.p1, Dims.p2, Dims.p3, Dims.p4, Dims.p5, Dims.p6, e3, Result.andThen_ok]
  cases a6 == b6 <;> simp only [Bool.not_true, Bool.not_false, Bool.false_eq_true, if_true, if_false, Bool.true_and, Bool.false_and, Sem.run_pure]

theorem pW0 (a b c d e f g h i j k : Value) (w : World) : (part 28 #[a, b, c, d, e, f, g, h, i, j, k] 0).run Tryz.prog w = .ok (.agg #[a, b, c]) w := by kernel_rfl
theorem pW1 (a b c d e f g h i j k : Value) (w : World) : (part 23 #[a, b, c, d, e, f, g, h, i, j, k] 3).run Tryz.prog w = .ok (.agg #[d, e, f, g, h, i, j]) w := by kernel_rfl
theorem pW2 (a b c d e f g h i j k : Value) (w : World) : (part 3 #[a, b, c, d, e, f, g, h, i, j, k] 10).run Tryz.prog w = .ok k w := by kernel_rfl

theorem eq_worth (a b : Wo) (w : World) : (Op.equalIn 10000 30 a.v b.v).run Tryz.prog w = .ok (eqW a b) w := by
  have hu : Tryz.prog.underlying 30 = some (.struct (Tryz.prog.fieldsOf 30)) := by kernel_rfl
  have hp : Tryz.prog.stoodInHeld 30 = false := by kernel_rfl
  have hF : (Tryz.prog.fieldsOf 30).toList.map (fun f => (f.name, f.type, f.offset)) = [("Frac", 28, 0), ("Dims", 23, 3), ("Tag", 3, 10)] := by kernel_rfl
  have u2 : Tryz.prog.underlying 3 = some (.int .i64) := by kernel_rfl
  have e0 : ∀ n d t n' d' t' : Int, (Op.equalIn 9999 28 (.agg #[.int .i64 n, .int .i64 d, .int .i64 t]) (.agg #[.int .i64 n', .int .i64 d', .int .i64 t'])).run Tryz.prog w = .ok (eqF n d t n' d' t') w := fun n d t n' d' t' => eq_frac n d t n' d' t' 9997 w
  have e1 : ∀ a0 a1 a2 a3 a4 a5 a6 b0 b1 b2 b3 b4 b5 b6 : Int, (Op.equalIn 9999 23 (.agg #[.int .i64 a0, .int .i64 a1, .int .i64 a2, .int .i64 a3, .int .i64 a4, .int .i64 a5, .int .i64 a6]) (.agg #[.int .i64 b0, .int .i64 b1, .int .i64 b2, .int .i64 b3, .int .i64 b4, .int .i64 b5, .int .i64 b6])).run Tryz.prog w = .ok (Dims.eqB ⟨a0, a1, a2, a3, a4, a5, a6⟩ ⟨b0, b1, b2, b3, b4, b5, b6⟩) w := fun a0 a1 a2 a3 a4 a5 a6 b0 b1 b2 b3 b4 b5 b6 => eq_dims a0 a1 a2 a3 a4 a5 a6 b0 b1 b2 b3 b4 b5 b6 9997 w
  have e2 : ∀ x y : Int, (Op.equalIn 9999 3 (.int .i64 x) (.int .i64 y)).run Tryz.prog w = .ok (x == y) w := fun x y => run_equalIn_int w 9998 3 .i64 .i64 x y u2
  unfold Wo.v
  rw [run_equalIn_struct w 9999 _ _ _ hu hp]
  obtain ⟨f0, f1, f2, hl, q0, q1, q2⟩ := three hF
  simp only [Prod.mk.injEq] at q0 q1 q2
  obtain ⟨q00, q01, q02⟩ := q0
  obtain ⟨q10, q11, q12⟩ := q1
  obtain ⟨q20, q21, q22⟩ := q2
  · rw [hl, Op.eqFields.eq_2, Op.eqFields.eq_2, Op.eqFields.eq_2, Op.eqFields.eq_1, q00, q01, q02, q10, q11, q12, q20, q21, q22]
    simp only [ne_eq, String.reduceEq, not_false_eq_true, if_true, Sem.run_bind, pW0, pW1, pW2, e0, e1, e2, Result.andThen_ok]
    unfold eqW
    cases eqF a.n a.d a.t b.n b.d b.t <;> simp only [Bool.not_true, Bool.not_false, Bool.false_eq_true, if_true, if_false, Bool.true_and, Bool.false_and, Sem.run_pure, Sem.run_bind, pW0, pW1, pW2, e0, e1, e2, Result.andThen_ok]
    cases Dims.eqB a.D b.D <;> simp only [Bool.not_true, Bool.not_false, Bool.false_eq_true, if_true, if_false, Bool.true_and, Bool.false_and, Sem.run_pure, Sem.run_bind, pW0, pW1, pW2, e0, e1, e2, Result.andThen_ok]
    cases a.g == b.g <;> simp only [Bool.not_true, Bool.not_false, Bool.false_eq_true, if_true, if_false, Bool.true_and, Bool.false_and, Sem.run_pure]

/-- Two worths are held against each other, their cells written out. -/
theorem eqv (a b : Wo) (w : World) : (binOp BinOp.eql 30 a.v b.v).run Tryz.prog w = .ok (.bool (eqW a b)) w := by
  have h := eq_worth a b w
  unfold Wo.v at h ⊢
  simp [go_sem, h]
theorem nev (a b : Wo) (w : World) : (binOp BinOp.neq 30 a.v b.v).run Tryz.prog w = .ok (.bool (!eqW a b)) w := by
  have h := eq_worth a b w
  unfold Wo.v at h ⊢
  simp [go_sem, h]

end Go.Proofs.YtndinbefljajcaaGreatDoor.Worth

namespace Go.Proofs.YtndinbefljajcaaGreatDoor.Worth
open Go.RowKit Go.Shelf
open Go.Proofs.YtndinbefljajcaaGreatDoor.Frac (Got OfTen)
open Go.Proofs.YtndinbefljajcaaGreatDoor.Dims (D7 dZero)
set_option linter.unusedVariables false
set_option linter.unusedSimpArgs false

/-- The cells of a worth. -/
def Wo.cs (a : Wo) : Array Value := #[.int .i64 a.n, .int .i64 a.d, .int .i64 a.t, .int .i64 a.D.a0, .int .i64 a.D.a1, .int .i64 a.D.a2, .int .i64 a.D.a3, .int .i64 a.D.a4, .int .i64 a.D.a5, .int .i64 a.D.a6, .int .i64 a.g]

/-- In the world v the block b holds the worth a. -/
def LiesW (v : World) (b : Nat) (a : Wo) : Prop := (∀ j, j < 11 → v.cell? ⟨b, j, none⟩ = a.cs[j]?) ∧ (∀ j, v.frozen? ⟨b, j, none⟩ = false) ∧ b < v.heap.size
theorem LiesW.block {v v' : World} {b : Nat} {a : Wo} (h : LiesW v b a) (hs : v.heap.size ≤ v'.heap.size) (hb : v'.heap[b]? = v.heap[b]?) : LiesW v' b a :=
  ⟨fun j hj => (World.cell?_of_block (a := ⟨b, j, none⟩) hb).trans (h.1 j hj), fun j => (Dims.frozen_of_block (a := ⟨b, j, none⟩) hb).trans (h.2.1 j), by have := h.2.2; omega⟩
theorem LiesW.below {v v' : World} {b B : Nat} {a : Wo} (h : LiesW v b a) (hb : Below B v v') (hB : b < B) : LiesW v' b a := h.block hb.size (hb.block b hB)
theorem LiesW.go {v v' : World} {b : Nat} {a : Wo} (h : LiesW v b a) (hb : Below v.heap.size v v') : LiesW v' b a := h.below hb h.2.2
theorem LiesW.alloc {v : World} {b : Nat} {a : Wo} (h : LiesW v b a) (o : Obj) : LiesW (v.alloc o) b a := h.block (by simp) (Below.heap_alloc v o b h.2.2)
theorem LiesW.new (v : World) (a : Wo) : LiesW (v.alloc (.cells a.cs 30)) v.heap.size a := by
  refine ⟨fun j hj => ?_, fun j => ?_, ?_⟩
  · match j, hj with
    | 0, _ => simp [go_sem, Wo.cs]
    | 1, _ => simp [go_sem, Wo.cs]
    | 2, _ => simp [go_sem, Wo.cs]
    | 3, _ => simp [go_sem, Wo.cs]
    | 4, _ => simp [go_sem, Wo.cs]
    | 5, _ => simp [go_sem, Wo.cs]
    | 6, _ => simp [go_sem, Wo.cs]
    | 7, _ => simp [go_sem, Wo.cs]
    | 8, _ => simp [go_sem, Wo.cs]
    | 9, _ => simp [go_sem, Wo.cs]
    | 10, _ => simp [go_sem, Wo.cs]
  all_goals simp [go_sem]
theorem LiesW.cells {v : World} {b : Nat} {a : Wo} (h : LiesW v b a) : v.cell? ⟨b, 0, none⟩ = some (.int .i64 a.n) ∧ v.cell? ⟨b, 1, none⟩ = some (.int .i64 a.d) ∧ v.cell? ⟨b, 2, none⟩ = some (.int .i64 a.t) ∧ v.cell? ⟨b, 3, none⟩ = some (.int .i64 a.D.a0) ∧ v.cell? ⟨b, 4, none⟩ = some (.int .i64 a.D.a1) ∧ v.cell? ⟨b, 5, none⟩ = some (.int .i64 a.D.a2) ∧ v.cell? ⟨b, 6, none⟩ = some (.int .i64 a.D.a3) ∧ v.cell? ⟨b, 7, none⟩ = some (.int .i64 a.D.a4) ∧ v.cell? ⟨b, 8, none⟩ = some (.int .i64 a.D.a5) ∧ v.cell? ⟨b, 9, none⟩ = some (.int .i64 a.D.a6) ∧ v.cell? ⟨b, 10, none⟩ = some (.int .i64 a.g) :=
  ⟨h.1 0 (by omega), h.1 1 (by omega), h.1 2 (by omega), h.1 3 (by omega), h.1 4 (by omega), h.1 5 (by omega), h.1 6 (by omega), h.1 7 (by omega), h.1 8 (by omega), h.1 9 (by omega), h.1 10 (by omega)⟩

/-- Is it right? -/
noncomputable def rightW (a : Wo) : Bool := Frac.rightB a.n a.d a.t && (Dims.rightB a.D && (decide (0 ≤ a.g) && decide (a.g ≤ 99)))
theorem rightW_iff (a : Wo) : rightW a = true ↔ Frac.rightB a.n a.d a.t = true ∧ Dims.Right a.D ∧ 0 ≤ a.g ∧ a.g ≤ 99 := by
  simp [rightW, Dims.rightB_iff]

/-- How the world stands within a function of one worth: its box. -/
def OneAt (w v : World) (a : Wo) : Prop := Below w.heap.size w v ∧ LiesW v w.heap.size a
theorem OneAt.go {w v v' : World} {a : Wo} (h : OneAt w v a) (hb : Below v.heap.size v v') : OneAt w v' a := ⟨Dims.Below.goB h.1 h.1.size hb, h.2.go hb⟩
theorem OneAt.new (w : World) (a : Wo) : OneAt w (w.alloc (.cells a.cs 30)) a := ⟨by go_grown, LiesW.new w a⟩

set_option maxRecDepth 100000 in
set_option maxHeartbeats 2000000 in
theorem right_any (a : Wo) (w : World) (hT : OfTen w) (hf : a.Fine) :
    Calls Tryz.prog 19 #[a.v] w fun e w' => e = .returned (.bool (rightW a)) ∧ Below w.heap.size w w' := by
  have hA := OneAt.new w a
  have rF := Frac.right_any a.n a.d a.t
  have rD := Dims.right_any a.D
  have fn := hf.n
  have fd := hf.d
  have fD := hf.D
  have g0 := hf.g0
  have g1 := hf.g1
  simp only [Wo.v, Wo.cs, D7.v] at rD hA ⊢
  obtain ⟨c0, c1, c2, c3, c4, c5, c6, c7, c8, c9, c10⟩ := hA.2.cells
  by_cases r1 : Frac.rightB a.n a.d a.t = true
  · by_cases r2 : Dims.rightB a.D = true
    · have HW : Hid (rightW a = (decide (0 ≤ a.g) && decide (a.g ≤ 99))) := by show _ = _; unfold rightW; rw [r1, r2]; rfl
      have R1 := Lib.hid r1
      have R2 := Lib.hid r2
      clear r1 r2
      go_enter Tryz.func19, Tryz.ntmps19
      go_wp2_with fail
      refine (rF _ (hT.below hA.1) fn fd).mono ?_
      rintro e w1 ⟨rfl, hb⟩
      rw [R1.out]
      replace hA := hA.go hb
      clear hb c0 c1 c2 c3 c4 c5 c6 c7 c8 c9 c10
      obtain ⟨c0, c1, c2, c3, c4, c5, c6, c7, c8, c9, c10⟩ := hA.2.cells
      go_wp2_with fail
      refine (rD _ fD).mono ?_
      rintro e w2 ⟨rfl, hb⟩
      rw [R2.out]
      replace hA := hA.go hb
      clear hb c0 c1 c2 c3 c4 c5 c6 c7 c8 c9 c10
      obtain ⟨c0, c1, c2, c3, c4, c5, c6, c7, c8, c9, c10⟩ := hA.2.cells
      have hB := hA.1
      by_cases p0 : 0 ≤ a.g
      · by_cases p1 : a.g ≤ 99
        · have HR : Hid (rightW a = true) := by show _ = _; rw [HW.out]; simp [p0, p1]
          go_wp2
          refine bodyPost_ret (v := .bool true) (by simp [results, Tryz.results19, go_sem]) rfl ⟨by rw [HR.out], hB⟩
        · have HR : Hid (rightW a = false) := by show _ = _; rw [HW.out]; simp [p1]
          go_wp2
          refine bodyPost_ret (v := .bool false) (by simp [results, Tryz.results19, go_sem]; omega) rfl ⟨by rw [HR.out], hB⟩
      · have HR : Hid (rightW a = false) := by show _ = _; rw [HW.out]; simp [p0]
        go_wp2
        refine bodyPost_ret (v := .bool false) (by simp [results, Tryz.results19, go_sem]) rfl ⟨by rw [HR.out], hB⟩
    · have r2' : Dims.rightB a.D = false := by simpa using r2
      have HR : Hid (rightW a = false) := by show _ = _; unfold rightW; rw [r2']; simp
      have R1 := Lib.hid r1
      have R2 := Lib.hid r2'
      clear r1 r2 r2'
      go_enter Tryz.func19, Tryz.ntmps19
      go_wp2_with fail
      refine (rF _ (hT.below hA.1) fn fd).mono ?_
      rintro e w1 ⟨rfl, hb⟩
      rw [R1.out]
      replace hA := hA.go hb
      clear hb c0 c1 c2 c3 c4 c5 c6 c7 c8 c9 c10
      obtain ⟨c0, c1, c2, c3, c4, c5, c6, c7, c8, c9, c10⟩ := hA.2.cells
      go_wp2_with fail
      refine (rD _ fD).mono ?_
      rintro e w2 ⟨rfl, hb⟩
      rw [R2.out]
      replace hA := hA.go hb
      clear hb c0 c1 c2 c3 c4 c5 c6 c7 c8 c9 c10
      have hB := hA.1
      go_wp2
      refine bodyPost_ret (v := .bool false) (by simp [results, Tryz.results19, go_sem]) rfl ⟨by rw [HR.out], hB⟩
  · have r1' : Frac.rightB a.n a.d a.t = false := by simpa using r1
    have HR : Hid (rightW a = false) := by show _ = _; unfold rightW; rw [r1']; simp
    have R1 := Lib.hid r1'
    clear r1 r1'
    go_enter Tryz.func19, Tryz.ntmps19
    go_wp2_with fail
    refine (rF _ (hT.below hA.1) fn fd).mono ?_
    rintro e w1 ⟨rfl, hb⟩
    rw [R1.out]
    replace hA := hA.go hb
    clear hb c0 c1 c2 c3 c4 c5 c6 c7 c8 c9 c10
    have hB := hA.1
    go_wp2
    refine bodyPost_ret (v := .bool false) (by simp [results, Tryz.results19, go_sem]) rfl ⟨by rw [HR.out], hB⟩

set_option maxRecDepth 100000 in
set_option maxHeartbeats 2000000 in
theorem plain_any (a : Wo) (w : World) :
    Calls Tryz.prog 29 #[a.v] w fun e w' => e = .returned (.bool (a.g == 0)) ∧ Below w.heap.size w w' := by
  have hA := OneAt.new w a
  have hE := eqv a ⟨a.n, a.d, a.t, a.D, 0⟩
  have HW : Hid (eqW a ⟨a.n, a.d, a.t, a.D, 0⟩ = (a.g == 0)) := by
    show _ = _
    rw [Bool.eq_iff_iff, eqW_iff]
    obtain ⟨a0, a1, a2, D, g⟩ := a
    simp
  simp only [Wo.v, Wo.cs] at hA hE ⊢
  obtain ⟨c0, c1, c2, c3, c4, c5, c6, c7, c8, c9, c10⟩ := hA.2.cells
  go_enter Tryz.func29, Tryz.ntmps29
  go_wp2
  rw [HW.out]
  refine bodyPost_ret (v := .bool (a.g == 0)) (by simp [results, Tryz.results29, go_sem]) rfl ⟨rfl, ?_⟩
  go_grown

end Go.Proofs.YtndinbefljajcaaGreatDoor.Worth

namespace Go.Proofs.YtndinbefljajcaaGreatDoor.Worth
open Go.RowKit Go.Shelf
open Go.Proofs.YtndinbefljajcaaGreatDoor.Frac (Got OfTen Room)
open Go.Proofs.YtndinbefljajcaaGreatDoor.Dims (D7 dZero Lies7)
set_option linter.unusedVariables false
set_option linter.unusedSimpArgs false

set_option maxRecDepth 100000 in
set_option maxHeartbeats 2000000 in
theorem mul1_any (a b : Wo) (A B : Nat) (w : World) (hT : OfTen w) (hA : LiesW w A a) (hB : LiesW w B b) (fb : b.Fine) (fa : a.Fine) :
    Calls Tryz.prog 23 #[.pointer (some ⟨A, 0, none⟩), .pointer (some ⟨B, 0, none⟩)] w fun e w' => e = .returned (Frac.mulG a.n a.d a.t b.n b.d b.t).v ∧ Below w.heap.size w w' := by
  have hB0 : Below w.heap.size w (w.alloc (.cells #[.int .i64 0, .int .i64 0, .int .i64 0] 28)) := by go_grown
  have hR := Room.new w
  obtain ⟨c0, c1, c2, c3, c4, c5, c6, c7, c8, c9, c10⟩ := (hA.go hB0).cells
  obtain ⟨d0, d1, d2, d3, d4, d5, d6, d7, d8, d9, d10⟩ := (hB.go hB0).cells
  have hC := Frac.mul_any a.n a.d a.t b.n b.d b.t
  generalize Frac.mulG a.n a.d a.t b.n b.d b.t = G at *
  have f1 := fa.n
  have f2 := fa.d
  have f3 := fb.n
  have f4 := fb.d
  go_enter Tryz.func23, Tryz.ntmps23
  go_wp2_with fail
  refine (hC _ (hT.below hB0) f1 f2 f3 f4).mono ?_
  rintro e w1 ⟨rfl, hb⟩
  replace hB0 := Frac.Below.go hB0 hb
  replace hR := hR.below hb hR.2.2.2.2
  clear hb
  obtain ⟨r0, r1, r2, rf, rz⟩ := hR
  unfold Frac.Got.v
  go_wp2
  refine bodyPost_ret (v := G.v) (by simp [results, Tryz.results23, go_sem, Frac.Got.v, r0, r1, r2]) rfl ⟨rfl, ?_⟩
  go_grown

set_option maxRecDepth 100000 in
set_option maxHeartbeats 2000000 in
theorem div1_any (a b : Wo) (A B : Nat) (w : World) (hT : OfTen w) (hA : LiesW w A a) (hB : LiesW w B b) (fb : b.Fine) (fa : a.Fine) :
    Calls Tryz.prog 39 #[.pointer (some ⟨A, 0, none⟩), .pointer (some ⟨B, 0, none⟩)] w fun e w' => e = .returned (Frac.divG a.n a.d a.t b.n b.d b.t).v ∧ Below w.heap.size w w' := by
  have hB0 : Below w.heap.size w (w.alloc (.cells #[.int .i64 0, .int .i64 0, .int .i64 0] 28)) := by go_grown
  have hR := Room.new w
  obtain ⟨c0, c1, c2, c3, c4, c5, c6, c7, c8, c9, c10⟩ := (hA.go hB0).cells
  obtain ⟨d0, d1, d2, d3, d4, d5, d6, d7, d8, d9, d10⟩ := (hB.go hB0).cells
  have hC := Frac.div_any a.n a.d a.t b.n b.d b.t
  generalize Frac.divG a.n a.d a.t b.n b.d b.t = G at *
  have f1 := fa.n
  have f2 := fa.d
  have f3 := fb.n
  have f4 := fb.d
  go_enter Tryz.func39, Tryz.ntmps39
  go_wp2_with fail
  refine (hC _ (hT.below hB0) f1 f2 f3 f4).mono ?_
  rintro e w1 ⟨rfl, hb⟩
  replace hB0 := Frac.Below.go hB0 hb
  replace hR := hR.below hb hR.2.2.2.2
  clear hb
  obtain ⟨r0, r1, r2, rf, rz⟩ := hR
  unfold Frac.Got.v
  go_wp2
  refine bodyPost_ret (v := G.v) (by simp [results, Tryz.results39, go_sem, Frac.Got.v, r0, r1, r2]) rfl ⟨rfl, ?_⟩
  go_grown

set_option maxRecDepth 100000 in
set_option maxHeartbeats 2000000 in
theorem pow1_any (a : Wo) (n : Int) (A B : Nat) (w : World) (hT : OfTen w) (hA : LiesW w A a) (hB : w.cell? ⟨B, 0, none⟩ = some (.int .i64 n)) (hBs : B < w.heap.size) (n0 : -9223372036854775808 ≤ n) (n1 : n ≤ 9223372036854775807) (fa : a.Fine) :
    Calls Tryz.prog 43 #[.pointer (some ⟨A, 0, none⟩), .pointer (some ⟨B, 0, none⟩)] w fun e w' => e = .returned (Frac.powG a.n a.d a.t n).v ∧ Below w.heap.size w w' := by
  have hB0 : Below w.heap.size w (w.alloc (.cells #[.int .i64 0, .int .i64 0, .int .i64 0] 28)) := by go_grown
  have hR := Room.new w
  obtain ⟨c0, c1, c2, c3, c4, c5, c6, c7, c8, c9, c10⟩ := (hA.go hB0).cells
  have d0 := (hB0.cell (p := ⟨B, 0, none⟩) hBs).trans hB
  have hC := Frac.pow_any a.n a.d a.t n
  generalize Frac.powG a.n a.d a.t n = G at *
  have f1 := fa.n
  have f2 := fa.d
  go_enter Tryz.func43, Tryz.ntmps43
  go_wp2_with fail
  refine (hC _ (hT.below hB0) f1 f2).mono ?_
  rintro e w1 ⟨rfl, hb⟩
  replace hB0 := Frac.Below.go hB0 hb
  replace hR := hR.below hb hR.2.2.2.2
  clear hb
  obtain ⟨r0, r1, r2, rf, rz⟩ := hR
  unfold Frac.Got.v
  go_wp2
  refine bodyPost_ret (v := G.v) (by simp [results, Tryz.results43, go_sem, Frac.Got.v, r0, r1, r2]) rfl ⟨rfl, ?_⟩
  go_grown

set_option maxRecDepth 100000 in
set_option maxHeartbeats 2000000 in
theorem mul2_any (a b : Wo) (A B : Nat) (w : World) (hA : LiesW w A a) (hB : LiesW w B b) (fb : b.Fine) (fa : a.Fine) :
    Calls Tryz.prog 25 #[.pointer (some ⟨A, 0, none⟩), .pointer (some ⟨B, 0, none⟩)] w fun e w' => e = .returned (.tuple #[(Dims.addG a.D b.D).1.v, .bool (Dims.addG a.D b.D).2]) ∧ Below w.heap.size w w' := by
  have hB0 : Below w.heap.size w (w.alloc (.cells #[.int .i64 0, .int .i64 0, .int .i64 0, .int .i64 0, .int .i64 0, .int .i64 0, .int .i64 0] 23)) := by go_grown
  have hZ := Lies7.new w dZero
  obtain ⟨c0, c1, c2, c3, c4, c5, c6, c7, c8, c9, c10⟩ := (hA.go hB0).cells
  obtain ⟨d0, d1, d2, d3, d4, d5, d6, d7, d8, d9, d10⟩ := (hB.go hB0).cells
  have hC := Dims.add_any a.D b.D
  have fD := fa.D
  have fE := fb.D
  generalize Dims.addG a.D b.D = G at *
  simp only [D7.v] at hC ⊢
  go_enter Tryz.func25, Tryz.ntmps25
  go_wp2_with fail
  refine (hC _ fD fE).mono ?_
  rintro e w1 ⟨rfl, hb⟩
  replace hB0 := Frac.Below.go hB0 hb
  replace hZ := hZ.below hb hZ.2.2
  clear hb
  obtain ⟨m0, m1, m2, m3, m4, m5, m6⟩ := hZ.cells
  have mf := hZ.2.1
  go_wp2
  refine bodyPost_ret (v := .tuple #[G.1.v, .bool G.2]) (by simp [results, Tryz.results25, go_sem, D7.v, m0, m1, m2, m3, m4, m5, m6]) rfl ⟨rfl, ?_⟩
  go_grown

set_option maxRecDepth 100000 in
set_option maxHeartbeats 2000000 in
theorem div2_any (a b : Wo) (A B : Nat) (w : World) (hA : LiesW w A a) (hB : LiesW w B b) (fb : b.Fine) (fa : a.Fine) :
    Calls Tryz.prog 41 #[.pointer (some ⟨A, 0, none⟩), .pointer (some ⟨B, 0, none⟩)] w fun e w' => e = .returned (.tuple #[(Dims.subG a.D b.D).1.v, .bool (Dims.subG a.D b.D).2]) ∧ Below w.heap.size w w' := by
  have hB0 : Below w.heap.size w (w.alloc (.cells #[.int .i64 0, .int .i64 0, .int .i64 0, .int .i64 0, .int .i64 0, .int .i64 0, .int .i64 0] 23)) := by go_grown
  have hZ := Lies7.new w dZero
  obtain ⟨c0, c1, c2, c3, c4, c5, c6, c7, c8, c9, c10⟩ := (hA.go hB0).cells
  obtain ⟨d0, d1, d2, d3, d4, d5, d6, d7, d8, d9, d10⟩ := (hB.go hB0).cells
  have hC := Dims.sub_any a.D b.D
  have fD := fa.D
  have fE := fb.D
  generalize Dims.subG a.D b.D = G at *
  simp only [D7.v] at hC ⊢
  go_enter Tryz.func41, Tryz.ntmps41
  go_wp2_with fail
  refine (hC _ fD fE).mono ?_
  rintro e w1 ⟨rfl, hb⟩
  replace hB0 := Frac.Below.go hB0 hb
  replace hZ := hZ.below hb hZ.2.2
  clear hb
  obtain ⟨m0, m1, m2, m3, m4, m5, m6⟩ := hZ.cells
  have mf := hZ.2.1
  go_wp2
  refine bodyPost_ret (v := .tuple #[G.1.v, .bool G.2]) (by simp [results, Tryz.results41, go_sem, D7.v, m0, m1, m2, m3, m4, m5, m6]) rfl ⟨rfl, ?_⟩
  go_grown

set_option maxRecDepth 100000 in
set_option maxHeartbeats 2000000 in
theorem pow2_any (a : Wo) (n : Int) (A B : Nat) (w : World) (hA : LiesW w A a) (hB : w.cell? ⟨B, 0, none⟩ = some (.int .i64 n)) (hBs : B < w.heap.size) (n0 : -9223372036854775808 ≤ n) (n1 : n ≤ 9223372036854775807) (fa : a.Fine) :
    Calls Tryz.prog 45 #[.pointer (some ⟨A, 0, none⟩), .pointer (some ⟨B, 0, none⟩)] w fun e w' => e = .returned (.tuple #[(Dims.timesG a.D n).1.v, .bool (Dims.timesG a.D n).2]) ∧ Below w.heap.size w w' := by
  have hB0 : Below w.heap.size w (w.alloc (.cells #[.int .i64 0, .int .i64 0, .int .i64 0, .int .i64 0, .int .i64 0, .int .i64 0, .int .i64 0] 23)) := by go_grown
  have hZ := Lies7.new w dZero
  obtain ⟨c0, c1, c2, c3, c4, c5, c6, c7, c8, c9, c10⟩ := (hA.go hB0).cells
  have d0 := (hB0.cell (p := ⟨B, 0, none⟩) hBs).trans hB
  have hC := Dims.times_any a.D n
  have fD := fa.D
  generalize Dims.timesG a.D n = G at *
  simp only [D7.v] at hC ⊢
  go_enter Tryz.func45, Tryz.ntmps45
  go_wp2_with fail
  refine (hC _ fD n0 n1).mono ?_
  rintro e w1 ⟨rfl, hb⟩
  replace hB0 := Frac.Below.go hB0 hb
  replace hZ := hZ.below hb hZ.2.2
  clear hb
  obtain ⟨m0, m1, m2, m3, m4, m5, m6⟩ := hZ.cells
  have mf := hZ.2.1
  go_wp2
  refine bodyPost_ret (v := .tuple #[G.1.v, .bool G.2]) (by simp [results, Tryz.results45, go_sem, D7.v, m0, m1, m2, m3, m4, m5, m6]) rfl ⟨rfl, ?_⟩
  go_grown

end Go.Proofs.YtndinbefljajcaaGreatDoor.Worth


/-
  Contract of drachmlaw04.awake: the chapter's examples hold; the world below stays as it was.
-/
import Derived.Test.YtndinbefljajcaaGreatDoorVY
import Derived.Test.YtndinbefljajcaaGreatDoorV7
import Derived.Test.YtndinbefljajcaaGreatDoorFP
namespace Go.Proofs.YtndinbefljajcaaGreatDoor.Worth
open Go.RowKit Go.Shelf
open Go.Proofs.YtndinbefljajcaaGreatDoor.Frac (Got OfTen Room)
open Go.Proofs.YtndinbefljajcaaGreatDoor.Dims (D7 dZero Lies7)
open Go.Proofs.YtndinbefljajcaaGreatDoor.Texts (bs bs_app bs_size)
set_option linter.unusedVariables false
set_option linter.unusedSimpArgs false

/-- Two fracs are held against each other. -/
theorem eqf (n d t n' d' t' : Int) (w : World) : (binOp BinOp.eql 28 (.agg #[.int .i64 n, .int .i64 d, .int .i64 t]) (.agg #[.int .i64 n', .int .i64 d', .int .i64 t'])).run Tryz.prog w = .ok (.bool (eqF n d t n' d' t')) w := by
  have h := eq_frac n d t n' d' t' 9998 w
  simp [go_sem, h]
theorem eqF_same (n d t : Int) : eqF n d t n d t = true := (eqF_iff _ _ _ _ _ _).2 ⟨rfl, rfl, rfl⟩

def exD : D7 := ⟨1, -2, 0, 0, 0, 0, 0⟩
theorem ex_right : Dims.Right exD := by
  refine Dims.seven ?_ ?_ ?_ ?_ ?_ ?_ ?_ <;> simp [exD, D7.get]
theorem itoa3 : Lib.itoa 3 = [51] := by
  unfold Lib.itoa
  rw [if_neg (by omega)]
  show Lib.decDigits 3 = _
  rw [Lib.decDigits_one (by decide)]
  decide
theorem exD_text : Dims.textL exD = [109, 49, 115, 45, 50] := by
  have h1 : Lib.itoa 1 = [49] := Texts.itoa_one
  have h2 : Lib.itoa (-2) = [45, 50] := by
    unfold Lib.itoa
    rw [if_pos (by omega)]
    show 45 :: Lib.decDigits 2 = _
    rw [Lib.decDigits_one (by decide)]
    decide
  simp [Dims.textL, Dims.tailL, exD, Dims.itemO, Dims.item, h1, h2, Dims.letter]
theorem exF_right : Frac.rightB 1 1 3 = true := by rw [Frac.right_eq _ _ _ (by omega) (by omega)]; decide
def exA (g : Int) : Wo := ⟨1, 1, 3, exD, g⟩
theorem exA_right (g : Int) (h0 : 0 ≤ g) (h1 : g ≤ 99) : rightW (exA g) = true := (rightW_iff _).2 ⟨exF_right, ex_right, h0, h1⟩
theorem exA_fine (g : Int) (h0 : 0 ≤ g) (h1 : g ≤ 99) : (exA g).Fine := ⟨by show (1 : Int) ≤ _; omega, by show (1 : Int) ≤ _; omega, ex_right.fine, by show _ ≤ g; omega, by show g ≤ _; omega⟩
theorem exA_text : textW (exA 0) = [49, 101, 51, 32, 109, 49, 115, 45, 50] := by
  unfold textW
  rw [if_pos (exA_right 0 (by omega) (by omega))]
  unfold textR
  simp only [exA]
  rw [exD_text]
  simp [Texts.textL, dimL, tagL, Texts.itoa_one, itoa3]
theorem ex_mul : mulW (exA 0) (exA 1) = (wZero, 18) := by
  unfold mulW putW
  rw [if_neg (by simp [exA_right 0 (by omega) (by omega), exA_right 1 (by omega) (by omega)]), if_pos (.inr (by simp [exA]))]
theorem ex_of : ofW 1000 = (⟨1, 1, 3, dZero, 0⟩, 0) := by
  have h : Frac.makeG 1000 1 0 = ⟨1, 1, 3, 0⟩ := by kernel_rfl
  unfold ofW
  rw [h]

set_option maxRecDepth 100000 in
set_option maxHeartbeats 4000000 in
theorem awake_yes (w : World) (hE : EnvW w) :
    Calls Tryz.prog 4 #[] w fun e w' => e = .returned (.bool true) ∧ Below w.heap.size w w' := by
  have hM := fun V hT => mul_any (exA 0) (exA 1) V hT (exA_fine 0 (by omega) (by omega)) (exA_fine 1 (by omega) (by omega))
  rw [ex_mul] at hM
  have hO := fun V hT => of_any 1000 V hT (by omega)
  rw [ex_of] at hO
  have hX := fun V hT => text_any (exA 0) V hT (exA_fine 0 (by omega) (by omega))
  rw [exA_text] at hX
  have hA := LiesW.new w (exA 0)
  have hB : Below w.heap.size w ((w.alloc (.cells (exA 0).cs 30)).alloc (.cells (exA 1).cs 30)) := by go_grown
  replace hA := hA.alloc (.cells (exA 1).cs 30)
  have q := eqf 1 1 3 1 1 3
  rw [eqF_same] at q
  simp only [Wo.v, Wo.cs, exA, exD, wZero, dZero, bs] at hM hO hX hA hB ⊢
  go_enter Tryz.func4, Tryz.ntmps4
  go_wp2_with fail
  generalize ((w.alloc (.cells #[.int .i64 1, .int .i64 1, .int .i64 3, .int .i64 1, .int .i64 (-2), .int .i64 0, .int .i64 0, .int .i64 0, .int .i64 0, .int .i64 0, .int .i64 0] 30)).alloc (.cells #[.int .i64 1, .int .i64 1, .int .i64 3, .int .i64 1, .int .i64 (-2), .int .i64 0, .int .i64 0, .int .i64 0, .int .i64 0, .int .i64 0, .int .i64 1] 30)) = V at *
  refine (hM _ (hE.below hB).1).mono ?_
  rintro e w1 ⟨rfl, hb⟩
  replace hB := Dims.Below.goB hB hB.size hb
  replace hA := hA.go hb
  clear hb
  have hu : Below w1.heap.size w1 (w1.alloc (.cells #[.int .i64 0, .int .i64 0, .int .i64 0, .int .i64 0, .int .i64 0, .int .i64 0, .int .i64 0, .int .i64 0, .int .i64 0, .int .i64 0, .int .i64 0] 30)) := by go_grown
  replace hB := Dims.Below.goB hB hB.size hu
  replace hA := hA.go hu
  clear hu
  go_wp2_with fail
  generalize (w1.alloc (.cells #[.int .i64 0, .int .i64 0, .int .i64 0, .int .i64 0, .int .i64 0, .int .i64 0, .int .i64 0, .int .i64 0, .int .i64 0, .int .i64 0, .int .i64 0] 30)) = V1 at *
  refine (hO _ (hE.below hB).1).mono ?_
  rintro e w2 ⟨rfl, hb⟩
  replace hB := Dims.Below.goB hB hB.size hb
  replace hA := hA.go hb
  clear hb
  have hu : Below w2.heap.size w2 (w2.alloc (.cells #[.int .i64 1, .int .i64 1, .int .i64 3, .int .i64 0, .int .i64 0, .int .i64 0, .int .i64 0, .int .i64 0, .int .i64 0, .int .i64 0, .int .i64 0] 30)) := by go_grown
  have hC := LiesW.new w2 (⟨1, 1, 3, dZero, 0⟩ : Wo)
  simp only [Wo.cs, dZero] at hC
  replace hB := Dims.Below.goB hB hB.size hu
  replace hA := hA.go hu
  clear hu
  obtain ⟨c0, c1, c2, c3, c4, c5, c6, c7, c8, c9, c10⟩ := hA.cells
  go_wp2_with fail
  generalize (w2.alloc (.cells #[.int .i64 1, .int .i64 1, .int .i64 3, .int .i64 0, .int .i64 0, .int .i64 0, .int .i64 0, .int .i64 0, .int .i64 0, .int .i64 0, .int .i64 0] 30)) = V2 at *
  refine (hX _ (hE.below hB)).mono ?_
  rintro e w3 ⟨rfl, hb⟩
  replace hB := Dims.Below.goB hB hB.size hb
  replace hA := hA.go hb
  replace hC := hC.go hb
  clear hb c0 c1 c2 c3 c4 c5 c6 c7 c8 c9 c10
  obtain ⟨c0, c1, c2, c3, c4, c5, c6, c7, c8, c9, c10⟩ := hA.cells
  obtain ⟨d0, d1, d2, d3, d4, d5, d6, d7, d8, d9, d10⟩ := hC.cells
  clear hM hO hX hA hC
  go_wp2
  go_ret
  exact ⟨rfl, hB⟩

end Go.Proofs.YtndinbefljajcaaGreatDoor.Worth

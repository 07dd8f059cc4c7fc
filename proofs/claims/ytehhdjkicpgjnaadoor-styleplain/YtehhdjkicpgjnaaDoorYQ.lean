/-
  The walk of StylePlain.
-/
import Derived.Test.YtehhdjkicpgjnaaDoorYP
namespace Go.Proofs.YtehhdjkicpgjnaaDoor.Style
open Go.RowKit
set_option linter.unusedVariables false
set_option linter.unusedSimpArgs false

theorem plain_none (x : St) : plainL x [] = (x.op != 0) := by
  unfold plainL fineL
  simp [bne]

/-- The box of the law. -/
structure PlI (w wr : World) (bx : Nat) (s : St) : Prop where
  below : Below w.heap.size w wr
  sts : Styles wr
  own : wr.cell? ⟨bx, 4, none⟩ = some (.int .u8 s.op)
  up : bx < wr.heap.size
theorem PlI.go {w wr u : World} {bx : Nat} {s : St} (h : PlI w wr bx s) (hb : Below wr.heap.size wr u) : PlI w u bx s :=
  ⟨h.below.trans (hb.mono h.below.size), h.sts.go hb, (World.cell?_of_block (a := ⟨bx, 4, none⟩) (hb.block bx h.up)).trans h.own, Nat.lt_of_lt_of_le h.up hb.size⟩
theorem PlI.drew {w wr : World} {bx : Nat} {s : St} (h : PlI w wr bx s) : PlI w wr.drew bx s := ⟨h.below.drew, h.sts, h.own, h.up⟩

set_option maxRecDepth 100000 in
set_option maxHeartbeats 4000000 in
theorem plain_walk (n : Int) (s0 t0 s t : List UInt8) (w : World) (hS : Styles w) (hs : s0.length ≤ 9223372036854775807) (ht : t0.length ≤ 9223372036854775807) (es : s0.take 60 = s) (et : t0.take 60 = t) :
    Calls Tryd.prog 6 #[.int .i64 n, .string (bs s0), .string (bs t0)] w fun e w' => e = .returned (.bool true) ∧ Below w.heap.size w w' := by
  have hR := rest_any n 5
  have hr := restN_lt n 5 (by omega)
  generalize restN n 5 = r at hR hr
  have hri : (r : Int) < 5 := by omega
  have hO := of_any (1 + (r : Int))
  have ls : s.length ≤ 60 := by rw [← es, List.length_take]; omega
  have lt : t.length ≤ 60 := by rw [← et, List.length_take]; omega
  have zs : (bs s).size ≤ 60 := by rw [bs_size]; exact ls
  have zt : (bs t).size ≤ 60 := by rw [bs_size]; exact lt
  have hs1 := fun W => short_any s0 W hs
  have ht1 := fun W => short_any t0 W ht
  rw [es] at hs1
  rw [et] at ht1
  have hP1 := fun W (h : Styles W) => plain_any (1 + (r : Int)) (s ++ t) W h (by rw [List.length_append]; omega)
  have hP2 := fun W (h : Styles W) => plain_any (1 + (r : Int)) s W h (by omega)
  have hP3 := fun W (h : Styles W) => plain_any (1 + (r : Int)) t W h (by omega)
  have hP4 : ∀ W, Styles W → Calls Tryd.prog 14 #[.int .i64 (1 + (r : Int)), .string (ByteArray.mk #[])] W fun e w' => e = .returned (.bool (plainL (stZ (1 + (r : Int))) [])) ∧ Below W.heap.size W w' := fun W (h : Styles W) => plain_any (1 + (r : Int)) [] W h (by decide)
  rw [← bs_app] at hP1
  generalize isN (1 + (r : Int)) = b at hO
  generalize stZ (1 + (r : Int)) = x at *
  rw [plain_app] at hP1
  rw [plain_none] at hP4
  generalize plainL x s = p at *
  generalize plainL x t = q at *
  clear es et ls lt hs ht
  go_enter Tryd.func6, Tryd.ntmps6
  go_wp2_with fail
  refine (awake_yes w hS).mono ?_
  rintro e w1 ⟨rfl, hb1⟩
  have hS1 := hS.go hb1
  go_wp2_with fail
  refine (hR w1 (by omega) (by omega)).mono ?_
  rintro e w2 ⟨rfl, rfl⟩
  go_wp2_with fail
  refine (hs1 w1).mono ?_
  rintro e w2 ⟨rfl, rfl⟩
  go_wp2_with fail
  refine (ht1 w1).mono ?_
  rintro e w2 ⟨rfl, rfl⟩
  go_wp2_with fail
  refine (hO w1 hS1).mono ?_
  rintro e w3 ⟨rfl, hb3⟩
  have hS3 := hS1.go hb3
  have hB3 := hb1.trans (hb3.mono hb1.size)
  have hz3 := hB3.size
  obtain ⟨f, m, d, pw, op, cl⟩ := x
  simp only [St.v]
  simp only at hP4
  clear hO hR hS hS1 hs1 ht1 hb1 hb3
  have hA : PlI w (w3.alloc (.cells #[.bool f, .int .u8 m, .int .u8 d, .int .u8 pw, .int .u8 op, .int .u8 cl] 27)) w3.heap.size ⟨f, m, d, pw, op, cl⟩ :=
    ⟨hB3.alloc hz3 _, hS3.go ((Below.refl _ _).alloc (Nat.le_refl _) _), (Lies.new w3 ⟨f, m, d, pw, op, cl⟩ 27).2.2.2.2.1, by rw [World.size_alloc]; omega⟩
  clear hB3 hS3
  go_upto_region 6 with fail
  generalize w3.alloc (.cells #[.bool f, .int .u8 m, .int .u8 d, .int .u8 pw, .int .u8 op, .int .u8 cl] 27) = V at *
  have hz : ¬ (9223372036854775807 < (bs s).size + (bs t).size) := by omega
  cases p with
  | false =>
    simp only [Bool.false_and] at hP1
    have hc := hA.own
    first | (go_region_with (first
        | (go_at_call_of 14 (Value.string (bs s ++ bs t)); refine (hP1 _ (by first | with_reducible exact hA.sts | with_reducible exact hA.drew.sts)).mono ?_; rintro e u ⟨rfl, hb⟩; (first | (replace hA := hA.go hb) | (replace hA := hA.drew.go hb)); clear hb; have hc := hA.own)
        | (go_at_call_of 14 (Value.string (bs s)); refine (hP2 _ (by first | with_reducible exact hA.sts | with_reducible exact hA.drew.sts)).mono ?_; rintro e u ⟨rfl, hb⟩; (first | (replace hA := hA.go hb) | (replace hA := hA.drew.go hb)); clear hb; have hc := hA.own)
        | (go_at_call_of 14 (Value.string (bs t)); refine (hP3 _ (by first | with_reducible exact hA.sts | with_reducible exact hA.drew.sts)).mono ?_; rintro e u ⟨rfl, hb⟩; (first | (replace hA := hA.go hb) | (replace hA := hA.drew.go hb)); clear hb; have hc := hA.own)
        | (go_at_call_of 14 (Value.string (ByteArray.mk #[])); refine (hP4 _ (by first | with_reducible exact hA.sts | with_reducible exact hA.drew.sts)).mono ?_; rintro e u ⟨rfl, hb⟩; (first | (replace hA := hA.go hb) | (replace hA := hA.drew.go hb)); clear hb; have hc := hA.own))) | fail
    all_goals go_wp2
    all_goals go_ret
    all_goals exact ⟨by first | rfl | simp, hA.below⟩
  | true =>
    simp only [Bool.true_and] at hP1
    go_region_held3 (fun v => v.cell? ⟨w3.heap.size, 4, none⟩ = some (.int .u8 op))
      (first | with_reducible exact hA.own | with_reducible exact hA.drew.own | go_keep)
      (first
        | (go_at_call_of 14 (Value.string (bs s ++ bs t)); refine (hP1 _ (by first | with_reducible exact hA.sts | with_reducible exact hA.drew.sts)).mono ?_; rintro e u ⟨rfl, hb⟩; (first | (replace hA := hA.go hb) | (replace hA := hA.drew.go hb)); clear hb)
        | (go_at_call_of 14 (Value.string (bs s)); refine (hP2 _ (by first | with_reducible exact hA.sts | with_reducible exact hA.drew.sts)).mono ?_; rintro e u ⟨rfl, hb⟩; (first | (replace hA := hA.go hb) | (replace hA := hA.drew.go hb)); clear hb)
        | (go_at_call_of 14 (Value.string (bs t)); refine (hP3 _ (by first | with_reducible exact hA.sts | with_reducible exact hA.drew.sts)).mono ?_; rintro e u ⟨rfl, hb⟩; (first | (replace hA := hA.go hb) | (replace hA := hA.drew.go hb)); clear hb)
        | (go_at_call_of 14 (Value.string (ByteArray.mk #[])); refine (hP4 _ (by first | with_reducible exact hA.sts | with_reducible exact hA.drew.sts)).mono ?_; rintro e u ⟨rfl, hb⟩; (first | (replace hA := hA.go hb) | (replace hA := hA.drew.go hb)); clear hb))
    all_goals go_wp2
    all_goals go_ret
    all_goals exact ⟨by first | rfl | simp, hA.below⟩

theorem len_of (s : ByteArray) (h : s.size ≤ maxLen) : s.data.toList.length ≤ 9223372036854775807 := by
  have : s.data.toList.length = s.size := by rw [Array.length_toList]; rfl
  have hm : maxLen ≤ 9223372036854775807 := by decide
  omega
theorem plain_law (n : Int) (s t : ByteArray) (w : World) (hS : Styles w) (hn : -9223372036854775808 ≤ n ∧ n ≤ 9223372036854775807) (hs : s.size ≤ maxLen) (ht : t.size ≤ maxLen) :
    Calls Tryd.prog 6 #[.int .i64 n, .string s, .string t] w fun e w' => e = .returned (.bool true) ∧ Below w.heap.size w w' := by
  have h := plain_walk n s.data.toList t.data.toList _ _ w hS (len_of s hs) (len_of t ht) rfl rfl
  rw [bs_of, bs_of] at h
  exact h

end Go.Proofs.YtehhdjkicpgjnaaDoor.Style

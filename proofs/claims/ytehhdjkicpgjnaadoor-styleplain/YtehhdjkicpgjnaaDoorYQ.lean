/-
  The walk of StylePlain.
-/
import Derived.Test.YtehhdjkicpgjnaaDoorYP
namespace Go.Proofs.YtehhdjkicpgjnaaDoor.Style
open Go.RowKit
set_option linter.unusedVariables false
set_option linter.unusedSimpArgs false

theorem plain_none (x : St) : plainL x [] = (x.op != 0) := by
  unfold plainL fineL
  simp [bne]

/-- The box of the law. -/
structure PlI (w wr : World) (bx : Nat) (s : St) : Prop where
  below : Below w.heap.size w wr
  sts : Styles wr
  own : wr.cell? ⟨bx, 4, none⟩ = some (.int .u8 s.op)
  up : bx < wr.heap.size
theorem PlI.go {w wr u : World} {bx : Nat} {s : St} (h : PlI w wr bx s) (hb : Below wr.heap.size wr u) : PlI w u bx s :=
  ⟨h.below.trans (hb.mono h.below.size), h.sts.go hb, (World.cell?_of_block (a := ⟨bx, 4, none⟩) (hb.block bx h.up)).trans h.own, Nat.lt_of_lt_of_le h.up hb.size⟩
theorem PlI.drew {w wr : World} {bx : Nat} {s : St} (h : PlI w wr bx s) : PlI w wr.drew bx s := ⟨h.below.drew, h.sts, h.own, h.up⟩

set_option maxRecDepth 100000 in
set_option maxHeartbeats 4000000 in
theorem plain_walk (n : Int) (s0 t0 s t : List UInt8) (w : World) (hS : Styles w) (hs : s0.length ≤ 9223372036854775807) (ht : t0.length ≤ 9223372036854775807) (es : s0.take 60 = s) (et : t0.take 60 = t) :
    Calls Tryd.prog 6 #[.int .i64 n, .string (bs s0), .string (bs t0)] w fun e w' => e = .returned (.bool true) ∧ Below w.heap.size w w' := by
  have hR := rest_any n 5
  have hr := restN_lt n 5 (by omega)
  generalize restN n 5 = r at hR hr
  have hri : (r : Int) < 5 := by omega
  have hO := of_any (1 + (r : Int))
  have ls : s.length ≤ 60 := by rw [← es, List.length_take]; omega
  have lt : t.length ≤ 60 := by rw [← et, List.length_take]; omega
  have zs : (bs s).size ≤ 60 := by rw [bs_size]; exact ls
  have zt : (bs t).size ≤ 60 := by rw [bs_size]; exact lt
  have hs1 := fun W => short_any s0 W hs
  have ht1 := fun W => short_any t0 W ht
  rw [es] at hs1
  rw [et] at ht1
  have hP1 := fun W (h : Styles W) => plain_any (1 + (r : Int)) (s ++ t) W h (by rw [List.length_append]; omega)
  have hP2 := fun W (h : Styles W) => plain_any (1 + (r : Int)) s W h (by omega)
  have hP3 := fun W (h : Styles W) => plain_any (1 + (r : Int)) t W h (by omega)
  have hP4 : ∀ W, Styles W → Calls Tryd.prog 14 #[.int .i64 (1 + (r : Int)), .string (ByteArray.mk #[])] W fun e w' => e = .returned (.bool (plainL (stZ (1 + (r : Int))) [])) ∧ Below W.heap.size W w' := fun W (h : Styles W) => plain_any (1 + (r : Int)) [] W h (by decide)
  rw [← bs_app] at hP1
  generalize isN (1 + (r : Int)) = b at hO
  generalize stZ (1 + (r : Int)) = x at *
  rw [plain_app] at hP1
  rw [plain_none] at hP4
  generalize plainL x s = p at *
  generalize plainL x t = q at *
  clear es et ls lt hs ht
  go_enter Tryd.func6, Tryd.ntmps6
  go_wp2_with fail
  refine (awake_yes w hS).mono ?_
  rintro e w1 ⟨rfl, hb1⟩
  have hS1 := hS.go hb1
  go_wp2_with fail
  refine (hR w1 (by omega) (by omega)).mono ?_
  rintro e w2 ⟨rfl, rfl⟩
  go_wp2_with fail
  refine (hs1 w1).mono ?_
  rintro e w2 ⟨rfl, rfl⟩
  go_wp2_with fail
  refine (ht1 w1).mono ?_
  rintro e w2 ⟨rfl, rfl⟩
  go_wp2_with fail
  refine (hO w1 hS1).mono ?_
  rintro e w3 ⟨rfl, hb3⟩
  have hS3 := hS1.go hb3
  have hB3 := hb1.trans (hb3.mono hb1.size)
  have hz3 := hB3.size
  obtain ⟨f, m, d, pw, op, cl⟩ := x
  simp only [St.v]
  simp only at hP4
  clear hO hR hS hS1 hs1 ht1 hb1 hb3
  have hA : PlI w (w3.alloc (.cells #[.bool f, .int .u8 m, .int .u8 d, .int .u8 pw, .int .u8 op, .int .u8 cl] 27)) w3.heap.size ⟨f, m, d, pw, op, cl⟩ :=
    ⟨hB3.alloc hz3 _, hS3.go ((Below.refl _ _).alloc (Nat.le_refl _) _), (Lies.new w3 ⟨f, m, d, pw, op, cl⟩ 27).2.2.2.2.1, by rw [World.size_alloc]; omega⟩
  clear hB3 hS3
  go_upto_region 6 with fail
  generalize w3.alloc (.cells #[.bool f, .int .u8 m, .int .u8 d, .int .u8 pw, .int .u8 op, .int .u8 cl] 27) = V at *
  have hz : ¬ (9223372036854775807 < (bs s).size + (bs t).size) := by omega
  cases p with
  | false =>
    simp only [Bool.false_and] at hP1
    refine wp_region_held_drew (S := fun v => PlI w v w3.heap.size ⟨f, m, d, pw, op, cl⟩) (by kernel_rfl) hA.drew (fun hHeld => ?_)
    clear hA
    refine wpAnyH_take (i := 0) (v := ?_) rfl (by kernel_rfl) (by kernel_rfl) (by kernel_rfl) (fun _ _ _ h => h) (Or.inl ⟨by rfl, ?_⟩) hHeld ?_
    rotate_left
    · intro u hSu; go_simp; try with_reducible rfl
    simp only [Act.put, List.setIfInBounds_toArray, List.set_cons_zero, List.set_cons_succ, List.getElem_toArray, List.getElem_cons_succ, List.getElem_cons_zero]
    refine wpAnyH_take (i := 1) (v := ?_) rfl (by kernel_rfl) (by kernel_rfl) (by kernel_rfl) (fun _ _ _ h => h) (Or.inl ⟨by rfl, ?_⟩) hHeld ?_
    rotate_left
    · intro u hSu; go_simp; try with_reducible rfl
    simp only [Act.put, List.setIfInBounds_toArray, List.set_cons_zero, List.set_cons_succ, List.getElem_toArray, List.getElem_cons_succ, List.getElem_cons_zero]
    refine wpAnyH_take (i := 2) (v := ?_) rfl (by kernel_rfl) (by kernel_rfl) (by kernel_rfl) (fun _ _ _ h => h) (Or.inl ⟨by rfl, ?_⟩) hHeld ?_
    rotate_left
    · intro u hSu; go_simp; try with_reducible rfl
    simp only [Act.put, List.setIfInBounds_toArray, List.set_cons_zero, List.set_cons_succ, List.getElem_toArray, List.getElem_cons_succ, List.getElem_cons_zero]
    refine wpAnyH_take (i := 3) (v := ?_) rfl (by kernel_rfl) (by kernel_rfl) (by kernel_rfl) (fun _ _ _ h => h) (Or.inl ⟨by rfl, ?_⟩) hHeld ?_
    rotate_left
    · intro u hSu; go_simp; try with_reducible rfl
    simp only [Act.put, List.setIfInBounds_toArray, List.set_cons_zero, List.set_cons_succ, List.getElem_toArray, List.getElem_cons_succ, List.getElem_cons_zero]
    refine wpAnyH_take (i := 4) (v := ?_) rfl (by kernel_rfl) (by kernel_rfl) (by kernel_rfl) (fun _ _ _ h => h) (Or.inl ⟨by rfl, ?_⟩) hHeld ?_
    rotate_left
    · intro u hSu; go_simp; try with_reducible rfl
    simp only [Act.put, List.setIfInBounds_toArray, List.set_cons_zero, List.set_cons_succ, List.getElem_toArray, List.getElem_cons_succ, List.getElem_cons_zero]
    refine wpAnyH_take (i := 5) (v := ?_) rfl (by kernel_rfl) (by kernel_rfl) (by kernel_rfl) (fun _ _ _ h => h) (Or.inl ⟨by rfl, ?_⟩) hHeld ?_
    rotate_left
    · intro u hSu; go_simp; try with_reducible rfl
    simp only [Act.put, List.setIfInBounds_toArray, List.set_cons_zero, List.set_cons_succ, List.getElem_toArray, List.getElem_cons_succ, List.getElem_cons_zero]
    refine wpAnyH_take (i := 7) (v := ?_) rfl (by kernel_rfl) (by kernel_rfl) (by kernel_rfl) (fun _ _ _ h => h) (Or.inl ⟨by rfl, ?_⟩) hHeld ?_
    rotate_left
    · intro u hSu; go_simp; try with_reducible rfl
    simp only [Act.put, List.setIfInBounds_toArray, List.set_cons_zero, List.set_cons_succ, List.getElem_toArray, List.getElem_cons_succ, List.getElem_cons_zero]
    refine wpAnyH_take (i := 8) (v := ?_) rfl (by kernel_rfl) (by kernel_rfl) (by kernel_rfl) (fun _ _ _ h => h) (Or.inl ⟨by rfl, ?_⟩) hHeld ?_
    rotate_left
    · intro u hSu; go_simp; try with_reducible rfl
    simp only [Act.put, List.setIfInBounds_toArray, List.set_cons_zero, List.set_cons_succ, List.getElem_toArray, List.getElem_cons_succ, List.getElem_cons_zero]
    refine wpAnyH_ready (rs := [6]) (by kernel_rfl) (by simp) ?_
    refine AllReadyH.cons (o := { dst := some 30, op := Op.call { callee := Callee.value (Operand.func 14), args := #[Operand.tmp 26, Operand.tmp 29], argTypes := #[3, 9] }, type := 4, pos := "law.go:90", after := #[{ on := 2, ground := Ground.data }, { on := 5, ground := Ground.data }, { on := 1, ground := Ground.chain }, { on := 1, ground := Ground.guard }], guard := some (1, true) }) rfl (fun K hK => ?_) AllReadyH.nil
    go_simp
    refine (hP1 _ hHeld.sts).mono ?_
    rintro e u ⟨rfl, hb⟩
    try go_simp
    refine hK.out _ _ (hHeld.go hb) (fun hHeld2 => ?_)
    clear hK K hb hHeld
    rename PlI _ _ _ _ => hHeld
    try simp only [Act.put, List.setIfInBounds_toArray, List.set_cons_zero, List.set_cons_succ, List.getElem_toArray, List.getElem_cons_succ, List.getElem_cons_zero]
    refine wpAnyH_ready (rs := [9]) (by kernel_rfl) (by simp) ?_
    refine AllReadyH.cons (o := { dst := some 33, op := Op.call { callee := Callee.value (Operand.func 14), args := #[Operand.tmp 31, Operand.tmp 32], argTypes := #[3, 9] }, type := 4, pos := "law.go:90", after := #[{ on := 7, ground := Ground.data }, { on := 8, ground := Ground.data }, { on := 6, ground := Ground.chain }, { on := 1, ground := Ground.guard }], guard := some (1, true) }) rfl (fun K hK => ?_) AllReadyH.nil
    go_simp
    refine (hP2 _ hHeld.sts).mono ?_
    rintro e u ⟨rfl, hb⟩
    try go_simp
    refine hK.out _ _ (hHeld.go hb) (fun hHeld2 => ?_)
    clear hK K hb hHeld
    rename PlI _ _ _ _ => hHeld
    try simp only [Act.put, List.setIfInBounds_toArray, List.set_cons_zero, List.set_cons_succ, List.getElem_toArray, List.getElem_cons_succ, List.getElem_cons_zero]
    refine wpAnyH_take (i := 10) (v := ?_) rfl (by kernel_rfl) (by kernel_rfl) (by kernel_rfl) (fun _ _ _ h => h) (Or.inl ⟨by rfl, ?_⟩) hHeld ?_
    rotate_left
    · intro u hSu; go_simp; try with_reducible rfl
    simp only [Act.put, List.setIfInBounds_toArray, List.set_cons_zero, List.set_cons_succ, List.getElem_toArray, List.getElem_cons_succ, List.getElem_cons_zero]
    refine wpAnyH_take (i := 11) (v := undef) rfl (by kernel_rfl) (by kernel_rfl) (by kernel_rfl) (fun _ _ _ h => h) (Or.inr ⟨by rfl, rfl⟩) hHeld ?_
    simp only [Act.put, List.setIfInBounds_toArray, List.set_cons_zero, List.set_cons_succ, List.getElem_toArray, List.getElem_cons_succ, List.getElem_cons_zero]
    refine wpAnyH_take (i := 12) (v := undef) rfl (by kernel_rfl) (by kernel_rfl) (by kernel_rfl) (fun _ _ _ h => h) (Or.inr ⟨by rfl, rfl⟩) hHeld ?_
    simp only [Act.put, List.setIfInBounds_toArray, List.set_cons_zero, List.set_cons_succ, List.getElem_toArray, List.getElem_cons_succ, List.getElem_cons_zero]
    refine wpAnyH_take (i := 13) (v := undef) rfl (by kernel_rfl) (by kernel_rfl) (by kernel_rfl) (fun _ _ _ h => h) (Or.inr ⟨by rfl, rfl⟩) hHeld ?_
    simp only [Act.put, List.setIfInBounds_toArray, List.set_cons_zero, List.set_cons_succ, List.getElem_toArray, List.getElem_cons_succ, List.getElem_cons_zero]
    refine wpAnyH_take (i := 14) (v := ?_) rfl (by kernel_rfl) (by kernel_rfl) (by kernel_rfl) (fun _ _ _ h => h) (Or.inl ⟨by rfl, ?_⟩) hHeld ?_
    rotate_left
    · intro u hSu; go_simp; try with_reducible rfl
    simp only [Act.put, List.setIfInBounds_toArray, List.set_cons_zero, List.set_cons_succ, List.getElem_toArray, List.getElem_cons_succ, List.getElem_cons_zero]
    refine wpAnyH_take (i := 15) (v := ?_) rfl (by kernel_rfl) (by kernel_rfl) (by kernel_rfl) (fun _ _ _ h => h) (Or.inl ⟨by rfl, ?_⟩) hHeld ?_
    rotate_left
    · intro u hSu; go_simp; try with_reducible rfl
    simp only [Act.put, List.setIfInBounds_toArray, List.set_cons_zero, List.set_cons_succ, List.getElem_toArray, List.getElem_cons_succ, List.getElem_cons_zero]
    refine wpAnyH_take (i := 16) (v := ?_) rfl (by kernel_rfl) (by kernel_rfl) (by kernel_rfl) (fun _ _ _ h => h) (Or.inl ⟨by rfl, ?_⟩) hHeld ?_
    rotate_left
    · intro u hSu; go_simp; try with_reducible rfl
    simp only [Act.put, List.setIfInBounds_toArray, List.set_cons_zero, List.set_cons_succ, List.getElem_toArray, List.getElem_cons_succ, List.getElem_cons_zero]
    refine wpAnyH_take (i := 17) (v := ?_) rfl (by kernel_rfl) (by kernel_rfl) (by kernel_rfl) (fun _ _ _ h => h) (Or.inl ⟨by rfl, ?_⟩) hHeld ?_
    rotate_left
    · intro u hSu; go_simp; try with_reducible rfl
    simp only [Act.put, List.setIfInBounds_toArray, List.set_cons_zero, List.set_cons_succ, List.getElem_toArray, List.getElem_cons_succ, List.getElem_cons_zero]
    refine wpAnyH_take (i := 18) (v := ?_) rfl (by kernel_rfl) (by kernel_rfl) (by kernel_rfl) (fun _ _ _ h => h) (Or.inl ⟨by rfl, ?_⟩) hHeld ?_
    rotate_left
    · intro u hSu; go_simp; try with_reducible rfl
    simp only [Act.put, List.setIfInBounds_toArray, List.set_cons_zero, List.set_cons_succ, List.getElem_toArray, List.getElem_cons_succ, List.getElem_cons_zero]
    refine wpAnyH_take (i := 20) (v := ?_) rfl (by kernel_rfl) (by kernel_rfl) (by kernel_rfl) (fun _ _ _ h => h) (Or.inl ⟨by rfl, ?_⟩) hHeld ?_
    rotate_left
    · intro u hSu; go_simp; try with_reducible rfl
    simp only [Act.put, List.setIfInBounds_toArray, List.set_cons_zero, List.set_cons_succ, List.getElem_toArray, List.getElem_cons_succ, List.getElem_cons_zero]
    refine wpAnyH_take (i := 21) (v := ?_) rfl (by kernel_rfl) (by kernel_rfl) (by kernel_rfl) (fun _ _ _ h => h) (Or.inl ⟨by rfl, ?_⟩) hHeld ?_
    rotate_left
    · intro u hSu; have hcu := hSu.own; go_simp; try with_reducible rfl
    simp only [Act.put, List.setIfInBounds_toArray, List.set_cons_zero, List.set_cons_succ, List.getElem_toArray, List.getElem_cons_succ, List.getElem_cons_zero]
    refine wpAnyH_take (i := 22) (v := ?_) rfl (by kernel_rfl) (by kernel_rfl) (by kernel_rfl) (fun _ _ _ h => h) (Or.inl ⟨by rfl, ?_⟩) hHeld ?_
    rotate_left
    · intro u hSu; go_simp; try with_reducible rfl
    simp only [Act.put, List.setIfInBounds_toArray, List.set_cons_zero, List.set_cons_succ, List.getElem_toArray, List.getElem_cons_succ, List.getElem_cons_zero]
    refine wpAnyH_ready (rs := [19]) (by kernel_rfl) (by simp) ?_
    refine AllReadyH.cons (o := { dst := some 43, op := Op.call { callee := Callee.value (Operand.func 14), args := #[Operand.tmp 42, Operand.const (Value.string { data := #[] })], argTypes := #[3, 9] }, type := 4, pos := "law.go:90", after := #[{ on := 18, ground := Ground.data }, { on := 17, ground := Ground.chain }, { on := 17, ground := Ground.guard }], guard := some (17, true) }) rfl (fun K hK => ?_) AllReadyH.nil
    go_simp
    refine (hP4 _ hHeld.sts).mono ?_
    rintro e u ⟨rfl, hb⟩
    try go_simp
    refine hK.out _ _ (hHeld.go hb) (fun hHeld2 => ?_)
    clear hK K hb hHeld
    rename PlI _ _ _ _ => hHeld
    try simp only [Act.put, List.setIfInBounds_toArray, List.set_cons_zero, List.set_cons_succ, List.getElem_toArray, List.getElem_cons_succ, List.getElem_cons_zero]
    refine wpAnyH_take (i := 23) (v := ?_) rfl (by kernel_rfl) (by kernel_rfl) (by kernel_rfl) (fun _ _ _ h => h) (Or.inl ⟨by rfl, ?_⟩) hHeld ?_
    rotate_left
    · intro u hSu; go_simp; try with_reducible rfl
    simp only [Act.put, List.setIfInBounds_toArray, List.set_cons_zero, List.set_cons_succ, List.getElem_toArray, List.getElem_cons_succ, List.getElem_cons_zero]
    refine wpAnyH_take (i := 24) (v := ?_) rfl (by kernel_rfl) (by kernel_rfl) (by kernel_rfl) (fun _ _ _ h => h) (Or.inl ⟨by rfl, ?_⟩) hHeld ?_
    rotate_left
    · intro u hSu; go_simp; try with_reducible rfl
    simp only [Act.put, List.setIfInBounds_toArray, List.set_cons_zero, List.set_cons_succ, List.getElem_toArray, List.getElem_cons_succ, List.getElem_cons_zero]
    refine wpAnyH_take (i := 25) (v := ?_) rfl (by kernel_rfl) (by kernel_rfl) (by kernel_rfl) (fun _ _ _ h => h) (Or.inl ⟨by rfl, ?_⟩) hHeld ?_
    rotate_left
    · intro u hSu; go_simp; try with_reducible rfl
    simp only [Act.put, List.setIfInBounds_toArray, List.set_cons_zero, List.set_cons_succ, List.getElem_toArray, List.getElem_cons_succ, List.getElem_cons_zero]
    refine wpAnyH_done (by kernel_rfl) ?_ _
    go_wp2
    go_ret
    exact ⟨rfl, hHeld.below⟩
  | true =>
    simp only [Bool.true_and] at hP1
    go_region_held3 (fun v => v.cell? ⟨w3.heap.size, 4, none⟩ = some (.int .u8 op))
      (first | with_reducible exact hA.own | with_reducible exact hA.drew.own | go_keep)
      (first
        | (go_at_call_of 14 (Value.string (bs s ++ bs t)); refine (hP1 _ (by first | with_reducible exact hA.sts | with_reducible exact hA.drew.sts)).mono ?_; rintro e u ⟨rfl, hb⟩; (first | (replace hA := hA.go hb) | (replace hA := hA.drew.go hb)); clear hb)
        | (go_at_call_of 14 (Value.string (bs s)); refine (hP2 _ (by first | with_reducible exact hA.sts | with_reducible exact hA.drew.sts)).mono ?_; rintro e u ⟨rfl, hb⟩; (first | (replace hA := hA.go hb) | (replace hA := hA.drew.go hb)); clear hb)
        | (go_at_call_of 14 (Value.string (bs t)); refine (hP3 _ (by first | with_reducible exact hA.sts | with_reducible exact hA.drew.sts)).mono ?_; rintro e u ⟨rfl, hb⟩; (first | (replace hA := hA.go hb) | (replace hA := hA.drew.go hb)); clear hb)
        | (go_at_call_of 14 (Value.string (ByteArray.mk #[])); refine (hP4 _ (by first | with_reducible exact hA.sts | with_reducible exact hA.drew.sts)).mono ?_; rintro e u ⟨rfl, hb⟩; (first | (replace hA := hA.go hb) | (replace hA := hA.drew.go hb)); clear hb))
    all_goals go_wp2
    all_goals go_ret
    all_goals exact ⟨by first | rfl | simp, hA.below⟩

theorem len_of (s : ByteArray) (h : s.size ≤ maxLen) : s.data.toList.length ≤ 9223372036854775807 := by
  have : s.data.toList.length = s.size := by rw [Array.length_toList]; rfl
  have hm : maxLen ≤ 9223372036854775807 := by decide
  omega
theorem plain_law (n : Int) (s t : ByteArray) (w : World) (hS : Styles w) (hn : -9223372036854775808 ≤ n ∧ n ≤ 9223372036854775807) (hs : s.size ≤ maxLen) (ht : t.size ≤ maxLen) :
    Calls Tryd.prog 6 #[.int .i64 n, .string s, .string t] w fun e w' => e = .returned (.bool true) ∧ Below w.heap.size w w' := by
  have h := plain_walk n s.data.toList t.data.toList _ _ w hS (len_of s hs) (len_of t ht) rfl rfl
  rw [bs_of, bs_of] at h
  exact h

end Go.Proofs.YtehhdjkicpgjnaaDoor.Style

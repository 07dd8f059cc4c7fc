/-
  Contract of the document's Next.
-/
import Derived.Test.YthofogokpolhdaaGreatDoorXT
import Derived.StillTailTactics
namespace Go.Proofs.YthofogokpolhdaaGreatDoor.Toks
open Go.RowKit
open Go.Proofs.YthofogokpolhdaaGreatDoor.Style
open Go.Proofs.YthofogokpolhdaaGreatDoor.Texts (val isDig val_nil val_cons val_le val_app)
set_option linter.unusedVariables false
set_option linter.unusedSimpArgs false

theorem num_fld1 (a b : Value) (w : World) : (Instr.field 123 (.agg #[a, b]) 1).run Tryz.prog w = .ok b w := by kernel_rfl
theorem num_fld0 (a b : Value) (w : World) : (Instr.field 123 (.agg #[a, b]) 0).run Tryz.prog w = .ok a w := by kernel_rfl

set_option maxRecDepth 100000 in
set_option maxHeartbeats 4000000 in
theorem next_any (n : Int) (s : List UInt8) (p : Nat) (w : World) (hp : p < s.length) (hl : s.length ≤ 1000) :
    Calls Tryz.prog 39 #[.int .i64 n, .string (bs s), .int .i64 (p : Int)] w fun e w' => e = .returned (gotV p (nextT n (s.drop p))) ∧ Below w.heap.size w w' := by
  have hzi : ((bs s).size : Int) = (s.length : Int) := by rw [bs_size]
  have hli : (s.length : Int) ≤ 1000 := by omega
  have hpi : (p : Int) < s.length := by omega
  obtain ⟨r, hr⟩ : ∃ r, s.drop (p + 1) = r := ⟨_, rfl⟩
  have hd : s.drop p = s.getD p 0 :: r := by rw [← hr, getD_at s p hp]; exact List.drop_eq_getElem_cons hp
  have hib : p < (bs s).size := by rw [bs_size]; omega
  have hcb0 := bs_at s p hib
  have hNt := fun (h : kd n (s.getD p 0) = 9) (W : World) => note_any n s p W hp hl h
  have hG := fun (k : Int) (W : World) => goes_any n s p k W (by omega) hl
  have hST := fun (m : Nat) (h : p + m ≤ s.length) => slice_take s p m h
  have hrl : (s.drop p).length = s.length - p := List.length_drop
  obtain ⟨c, hc⟩ : ∃ c, s.getD p 0 = c := ⟨_, rfl⟩
  rw [hc] at hcb0 hd hNt
  have hcb : (bs s)[p] = c := hcb0
  have hc1 : (c.toNat : Int) ≤ 255 := by have := c.toNat_lt; omega
  have hK := fun (W : World) => rkind_any n (c.toNat : Int) W (by omega) hc1
  have hkd : kindZ n (c.toNat : Int) = kd n c := rfl
  rw [hkd] at hK
  have hB0 := RB.new w
  rw [hd] at hST hG hrl hNt ⊢
  clear hcb0 hc hkd hr
  by_cases h0 : kd n c = 0 ∨ kd n c = 10
  · have hN : nextT n (c :: r) = none := by simp only [nextT]; rw [if_pos h0]
    rw [hN]
    clear hN hNt hG hST
    rcases h0 with h0 | h0
    all_goals
      rw [h0] at hK
      go_enter Tryz.func39, Tryz.ntmps39
      go_wp2_with fail
      refine (hK _).mono ?_
      rintro e w1 ⟨rfl, hb1⟩
      have hB1 := hB0.go hb1
      obtain ⟨z0, z1, z2, z3, z4, fr, hbl⟩ := id hB1
      have f0 := fr 0
      have f1 := fr 1
      have f2 := fr 2
      have f3 := fr 3
      have f4 := fr 4
      clear fr
      go_wp2
      obtain ⟨⟨x0, x1, x2, x3, x4⟩, hbX⟩ := hB1.fill (.int .i64 0) (.int .i64 0) (.string { data := #[] }) (.int .i64 0) (.int .i64 0)
      generalize ((((w1.setCell ⟨w.heap.size, 0, none⟩ (.int .i64 0)).setCell ⟨w.heap.size, 1, none⟩ (.int .i64 0)).setCell ⟨w.heap.size, 2, none⟩ (.string { data := #[] })).setCell ⟨w.heap.size, 3, none⟩ (.int .i64 0)).setCell ⟨w.heap.size, 4, none⟩ (.int .i64 0) = X at *
      refine bodyPost_ret (v := .agg #[.int .i64 0, .int .i64 0, .string { data := #[] }, .int .i64 0, .int .i64 0]) (by simp [results, Tryz.results39, go_sem, x0, x1, x2, x3, x4]) rfl ⟨?_, hbX⟩
      first | rfl | simp [gotV]
  by_cases h1 : kd n c = 1
  · have hN : nextT n (c :: r) = some ⟨1, upL (stZ n).fold ((c :: r).take (goL n 1 (c :: r))), 0, goL n 1 (c :: r)⟩ := by simp only [nextT]; rw [if_neg h0, if_pos h1]
    rw [hN]
    have hG1 := hG 1
    have hml : goL n 1 (c :: r) ≤ (c :: r).length := run_le _ _
    clear hN hNt hG h0
    generalize goL n 1 (c :: r) = m at *
    have hms : p + m ≤ s.length := by rw [hrl] at hml; omega
    have hst := hST m hms
    have hmi : (p : Int) + (m : Int) ≤ s.length := by omega
    have hT : ((c :: r).take m).length ≤ 1000000 := by rw [List.length_take]; omega
    have hRa := fun W => rraise_any n ((c :: r).take m) W hT
    generalize (c :: r).take m = t at *
    generalize upL (stZ n).fold t = t2 at *
    rw [h1] at hK
    clear hST hd hml hrl hT
    go_enter Tryz.func39, Tryz.ntmps39
    go_wp2_with fail
    refine (hK _).mono ?_
    rintro e w1 ⟨rfl, hb1⟩
    have hB1 := hB0.go hb1
    clear hb1
    go_wp2_with fail
    refine (hG1 _).mono ?_
    rintro e w2 ⟨rfl, hb2⟩
    have hB2 := hB1.go hb2
    clear hb2
    go_wp2_with fail
    refine (hRa _).mono ?_
    rintro e w3 ⟨rfl, hb3⟩
    have hB3 := hB2.go hb3
    clear hb3
    obtain ⟨z0, z1, z2, z3, z4, fr, hbl⟩ := id hB3
    have f0 := fr 0
    have f1 := fr 1
    have f2 := fr 2
    have f3 := fr 3
    have f4 := fr 4
    clear fr
    go_wp2
    obtain ⟨⟨x0, x1, x2, x3, x4⟩, hbX⟩ := hB3.fill (.int .i64 1) (.int .i64 (p : Int)) (.string (bs t2)) (.int .i64 0) (.int .i64 (m : Int))
    generalize ((((w3.setCell ⟨w.heap.size, 0, none⟩ (.int .i64 1)).setCell ⟨w.heap.size, 1, none⟩ (.int .i64 (p : Int))).setCell ⟨w.heap.size, 2, none⟩ (.string (bs t2))).setCell ⟨w.heap.size, 3, none⟩ (.int .i64 0)).setCell ⟨w.heap.size, 4, none⟩ (.int .i64 (m : Int)) = X at *
    refine bodyPost_ret (v := .agg #[.int .i64 1, .int .i64 (p : Int), .string (bs t2), .int .i64 0, .int .i64 (m : Int)]) (by simp [results, Tryz.results39, go_sem, x0, x1, x2, x3, x4]) rfl ⟨?_, hbX⟩
    first | rfl | simp [gotV]
  by_cases h2 : kd n c = 2
  · have hN : nextT n (c :: r) = (if val 0 ((c :: r).take (goL n 2 (c :: r))) ≤ 9223372036854775807 then some ⟨2, (c :: r).take (goL n 2 (c :: r)), (val 0 ((c :: r).take (goL n 2 (c :: r))) : Int), goL n 2 (c :: r)⟩ else none) := by simp only [nextT]; rw [if_neg h0, if_neg h1, if_pos h2]
    rw [hN]
    have hG1 := hG 2
    have hml : goL n 2 (c :: r) ≤ (c :: r).length := run_le _ _
    have hdg : ∀ x ∈ (c :: r).take (goL n 2 (c :: r)), isDig x := fun x hx => dig_of (isK_of (run_all (isK n 2) (c :: r) x hx))
    clear hN hNt hG h0
    generalize goL n 2 (c :: r) = m at *
    have hms : p + m ≤ s.length := by rw [hrl] at hml; omega
    have hst := hST m hms
    have hmi : (p : Int) + (m : Int) ≤ s.length := by omega
    have hT : ((c :: r).take m).length ≤ 1000 := by rw [List.length_take]; omega
    generalize (c :: r).take m = t at *
    have hNu := fun W => number_any t W hdg hT
    generalize val 0 t = v at *
    rw [h2] at hK
    clear hST hd hml hrl hT hdg
    by_cases hv : v ≤ 9223372036854775807
    · rw [if_pos hv]
      simp only [if_pos hv] at hNu
      have hfl0 := num_fld0
      have hfl1 := num_fld1
      clear hv
      go_enter Tryz.func39, Tryz.ntmps39
      go_wp2_with fail
      refine (hK _).mono ?_
      rintro e w1 ⟨rfl, hb1⟩
      have hB1 := hB0.go hb1
      clear hb1
      go_wp2_with fail
      refine (hG1 _).mono ?_
      rintro e w2 ⟨rfl, hb2⟩
      have hB2 := hB1.go hb2
      clear hb2
      go_wp2_with fail
      refine (hNu _).mono ?_
      rintro e w3 ⟨rfl, hb3⟩
      have hB3 := hB2.go hb3
      clear hb3
      have hu4 : Below w3.heap.size w3 (w3.alloc (.cells #[.int .i64 (v : Int), .bool true] 123)) := (Below.refl _ _).alloc (Nat.le_refl _) _
      have y0 : (w3.alloc (.cells #[.int .i64 (v : Int), .bool true] 123)).cell? ⟨w3.heap.size, 0, none⟩ = some (.int .i64 (v : Int)) := by simp [go_sem]
      have y1 : (w3.alloc (.cells #[.int .i64 (v : Int), .bool true] 123)).cell? ⟨w3.heap.size, 1, none⟩ = some (.bool true) := by simp [go_sem]
      have hB4 := hB3.go hu4
      go_wp2_with fail
      generalize w3.alloc (.cells #[.int .i64 (v : Int), .bool true] 123) = W4 at *
      have hsl : ∀ W : World, (Instr.slice 9 (.string (bs s)) (some (.int .i64 (p : Int))) (some (.int .i64 ((p : Int) + (m : Int)))) none).run Tryz.prog W = .ok (.string (bs t)) W := fun W => by
        rw [run_slice_string (P := Tryz.prog) (w := W) 9 (bs s) .i64 .i64 (p : Int) ((p : Int) + (m : Int)) Tryz.underlying9 (by omega) (by omega) (by omega), show ((p : Int)).toNat = p by omega, show ((p : Int) + (m : Int)).toNat = p + m by omega, hst]
      have hwr : IntKind.i64.wrap ((p : Int) + (m : Int)) = (p : Int) + (m : Int) := by unfold IntKind.wrap; simp [IntKind.bits, IntKind.signed]; omega
      have y0d : W4.drew.cell? ⟨w3.heap.size, 0, none⟩ = some (.int .i64 (v : Int)) := y0
      go_still_tail 12, (by kernel_rfl)
      change wpList _ _ _ _ _ W4.drew
      have hB5 := hB4.drew
      clear hB4 hu4 y0 y1 y0d
      generalize W4.drew = W5 at *
      obtain ⟨z0, z1, z2, z3, z4, fr, hbl⟩ := id hB5
      have f0 := fr 0
      have f1 := fr 1
      have f2 := fr 2
      have f3 := fr 3
      have f4 := fr 4
      clear fr
      go_wp2
      obtain ⟨⟨x0, x1, x2, x3, x4⟩, hbX⟩ := hB5.fill (.int .i64 2) (.int .i64 (p : Int)) (.string (bs t)) (.int .i64 (v : Int)) (.int .i64 (m : Int))
      generalize ((((W5.setCell ⟨w.heap.size, 0, none⟩ (.int .i64 2)).setCell ⟨w.heap.size, 1, none⟩ (.int .i64 (p : Int))).setCell ⟨w.heap.size, 2, none⟩ (.string (bs t))).setCell ⟨w.heap.size, 3, none⟩ (.int .i64 (v : Int))).setCell ⟨w.heap.size, 4, none⟩ (.int .i64 (m : Int)) = X at *
      refine bodyPost_ret (v := .agg #[.int .i64 2, .int .i64 (p : Int), .string (bs t), .int .i64 (v : Int), .int .i64 (m : Int)]) (by simp [results, Tryz.results39, go_sem, x0, x1, x2, x3, x4]) rfl ⟨?_, hbX⟩
      first | rfl | simp [gotV]
    · simp only [if_neg hv] at hNu ⊢
      have hfl0 := num_fld0
      have hfl1 := num_fld1
      clear hv
      go_enter Tryz.func39, Tryz.ntmps39
      go_wp2_with fail
      refine (hK _).mono ?_
      rintro e w1 ⟨rfl, hb1⟩
      have hB1 := hB0.go hb1
      clear hb1
      go_wp2_with fail
      refine (hG1 _).mono ?_
      rintro e w2 ⟨rfl, hb2⟩
      have hB2 := hB1.go hb2
      clear hb2
      go_wp2_with fail
      refine (hNu _).mono ?_
      rintro e w3 ⟨rfl, hb3⟩
      have hB3 := hB2.go hb3
      clear hb3
      have hu4 : Below w3.heap.size w3 (w3.alloc (.cells #[.int .i64 0, .bool false] 123)) := (Below.refl _ _).alloc (Nat.le_refl _) _
      have y0 : (w3.alloc (.cells #[.int .i64 0, .bool false] 123)).cell? ⟨w3.heap.size, 0, none⟩ = some (.int .i64 0) := by simp [go_sem]
      have y1 : (w3.alloc (.cells #[.int .i64 0, .bool false] 123)).cell? ⟨w3.heap.size, 1, none⟩ = some (.bool false) := by simp [go_sem]
      have hB4 := hB3.go hu4
      go_upto_region 12 with fail
      generalize w3.alloc (.cells #[.int .i64 0, .bool false] 123) = W4 at *
      obtain ⟨z0, z1, z2, z3, z4, fr, hbl⟩ := id hB4
      have f0 := fr 0
      have f1 := fr 1
      have f2 := fr 2
      have f3 := fr 3
      have f4 := fr 4
      clear fr
      go_wp2
      obtain ⟨⟨x0, x1, x2, x3, x4⟩, hbX⟩ := hB4.fill (.int .i64 0) (.int .i64 0) (.string { data := #[] }) (.int .i64 0) (.int .i64 0)
      generalize ((((W4.setCell ⟨w.heap.size, 0, none⟩ (.int .i64 0)).setCell ⟨w.heap.size, 1, none⟩ (.int .i64 0)).setCell ⟨w.heap.size, 2, none⟩ (.string { data := #[] })).setCell ⟨w.heap.size, 3, none⟩ (.int .i64 0)).setCell ⟨w.heap.size, 4, none⟩ (.int .i64 0) = X at *
      refine bodyPost_ret (v := .agg #[.int .i64 0, .int .i64 0, .string { data := #[] }, .int .i64 0, .int .i64 0]) (by simp [results, Tryz.results39, go_sem, x0, x1, x2, x3, x4]) rfl ⟨?_, hbX⟩
      first | rfl | simp [gotV]
  by_cases h9 : kd n c = 9
  · have hNn := hNt h9
    rw [h9] at hK
    generalize nextT n (c :: r) = G at *
    clear hNt hST hG hd hrl
    go_enter Tryz.func39, Tryz.ntmps39
    go_wp2_with fail
    refine (hK _).mono ?_
    rintro e w1 ⟨rfl, hb1⟩
    have hB1 := hB0.go hb1
    clear hb1
    go_wp2_with fail
    refine (hNn _).mono ?_
    rintro e w2 ⟨rfl, hb2⟩
    have hB2 := hB1.go hb2
    clear hb2
    cases G with
    | none =>
      simp only [gotV]
      obtain ⟨z0, z1, z2, z3, z4, fr, hbl⟩ := id hB2
      have f0 := fr 0
      have f1 := fr 1
      have f2 := fr 2
      have f3 := fr 3
      have f4 := fr 4
      clear fr
      go_wp2
      obtain ⟨⟨x0, x1, x2, x3, x4⟩, hbX⟩ := hB2.fill (.int .i64 0) (.int .i64 0) (.string (bs [])) (.int .i64 0) (.int .i64 0)
      generalize ((((w2.setCell ⟨w.heap.size, 0, none⟩ (.int .i64 0)).setCell ⟨w.heap.size, 1, none⟩ (.int .i64 0)).setCell ⟨w.heap.size, 2, none⟩ (.string (bs []))).setCell ⟨w.heap.size, 3, none⟩ (.int .i64 0)).setCell ⟨w.heap.size, 4, none⟩ (.int .i64 0) = X at *
      refine bodyPost_ret (v := .agg #[.int .i64 0, .int .i64 0, .string (bs []), .int .i64 0, .int .i64 0]) (by simp [results, Tryz.results39, go_sem, x0, x1, x2, x3, x4]) rfl ⟨?_, hbX⟩
      first | rfl | simp [gotV]
    | some g =>
      obtain ⟨gk, gt, gn, gl⟩ := g
      simp only [gotV]
      obtain ⟨z0, z1, z2, z3, z4, fr, hbl⟩ := id hB2
      have f0 := fr 0
      have f1 := fr 1
      have f2 := fr 2
      have f3 := fr 3
      have f4 := fr 4
      clear fr
      go_wp2
      obtain ⟨⟨x0, x1, x2, x3, x4⟩, hbX⟩ := hB2.fill (.int .i64 gk) (.int .i64 (p : Int)) (.string (bs gt)) (.int .i64 gn) (.int .i64 (gl : Int))
      generalize ((((w2.setCell ⟨w.heap.size, 0, none⟩ (.int .i64 gk)).setCell ⟨w.heap.size, 1, none⟩ (.int .i64 (p : Int))).setCell ⟨w.heap.size, 2, none⟩ (.string (bs gt))).setCell ⟨w.heap.size, 3, none⟩ (.int .i64 gn)).setCell ⟨w.heap.size, 4, none⟩ (.int .i64 (gl : Int)) = X at *
      refine bodyPost_ret (v := .agg #[.int .i64 gk, .int .i64 (p : Int), .string (bs gt), .int .i64 gn, .int .i64 (gl : Int)]) (by simp [results, Tryz.results39, go_sem, x0, x1, x2, x3, x4]) rfl ⟨?_, hbX⟩
      first | rfl | simp [gotV]
  have hN : nextT n (c :: r) = some ⟨kd n c, [c], 0, 1⟩ := by simp only [nextT]; rw [if_neg h0, if_neg h1, if_neg h2, if_neg h9]
  rw [hN]
  have hvals := kd_vals n c
  have hz0 : ¬ kd n c = 0 := by omega
  have hz10 : ¬ kd n c = 10 := by omega
  have hst := hST 1 (by omega)
  rw [List.take_succ_cons, List.take_zero] at hst
  generalize kd n c = z at *
  clear hN hNt hST hG hd hrl h0
  go_enter Tryz.func39, Tryz.ntmps39
  go_wp2_with fail
  refine (hK _).mono ?_
  rintro e w1 ⟨rfl, hb1⟩
  have hB1 := hB0.go hb1
  clear hb1
  have hsl : ∀ W : World, (Instr.slice 9 (.string (bs s)) (some (.int .i64 (p : Int))) (some (.int .i64 ((p : Int) + 1))) none).run Tryz.prog W = .ok (.string (bs [c])) W := fun W => by
    rw [run_slice_string (P := Tryz.prog) (w := W) 9 (bs s) .i64 .i64 (p : Int) ((p : Int) + 1) Tryz.underlying9 (by omega) (by omega) (by omega), show ((p : Int)).toNat = p by omega, show ((p : Int) + 1).toNat = p + 1 by omega, hst]
  have hwr : IntKind.i64.wrap ((p : Int) + 1) = (p : Int) + 1 := by unfold IntKind.wrap; simp [IntKind.bits, IntKind.signed]; omega
  go_wp2_with fail
  go_region_with (first | (go_at_call 66; refine (hK _).mono ?_; rintro e u ⟨rfl, hb⟩; (first | (replace hB1 := hB1.go hb) | (replace hB1 := hB1.drew.go hb)); clear hb; have z0 := hB1.z0; have z1 := hB1.z1; have z2 := hB1.z2; have z3 := hB1.z3; have z4 := hB1.z4; have f0 := hB1.fr 0; have f1 := hB1.fr 1; have f2 := hB1.fr 2; have f3 := hB1.fr 3; have f4 := hB1.fr 4))
  all_goals go_wp2
  obtain ⟨⟨x0, x1, x2, x3, x4⟩, hbX⟩ := hB1.fill (.int .i64 z) (.int .i64 (p : Int)) (.string (bs [c])) (.int .i64 0) (.int .i64 1)
  generalize ((((u.setCell ⟨w.heap.size, 0, none⟩ (.int .i64 z)).setCell ⟨w.heap.size, 1, none⟩ (.int .i64 (p : Int))).setCell ⟨w.heap.size, 2, none⟩ (.string (bs [c]))).setCell ⟨w.heap.size, 3, none⟩ (.int .i64 0)).setCell ⟨w.heap.size, 4, none⟩ (.int .i64 1) = X at *
  refine bodyPost_ret (v := .agg #[.int .i64 z, .int .i64 (p : Int), .string (bs [c]), .int .i64 0, .int .i64 1]) (by simp [results, Tryz.results39, go_sem, x0, x1, x2, x3, x4]) rfl ⟨?_, hbX⟩
  first | rfl | simp [gotV]

end Go.Proofs.YthofogokpolhdaaGreatDoor.Toks

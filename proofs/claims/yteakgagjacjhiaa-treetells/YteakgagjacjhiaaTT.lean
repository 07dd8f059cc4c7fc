/-
  TreeTells.
-/
import Derived.Test.YteakgagjacjhiaaSY
import Derived.Test.YteakgagjacjhiaaTA
namespace Go.Proofs.Yteakgagjacjhiaa.Trees
open Go.RowKit Go.Shelf
open Go.Proofs.Yteakgagjacjhiaa.Style (bs bs_size bs_at getD_at bs_of)
open Go.Proofs.Yteakgagjacjhiaa.Toks (cell_lt cell_same SliceAt Above)
set_option linter.unusedVariables false
set_option linter.unusedSimpArgs false
attribute [local irreducible] symT mayZ

theorem bs_any (s : ByteArray) (h : s.size ≤ maxLen) : ∃ t : List UInt8, s = bs t ∧ t.length ≤ 9223372036854775807 := by
  refine ⟨s.data.toList, ?_, ?_⟩
  · first | exact (bs_of s).symm | rfl
  · have : maxLen = 9223372036854775807 := by decide
    have h2 : s.data.toList.length = s.size := rfl
    omega

set_option maxRecDepth 100000 in
set_option maxHeartbeats 4000000 in
theorem tells_go (sa : Value) (la : List Int) (h0 a0 n0 : Int) (t0 : ByteArray) (h1 a1 n1 : Int) (t1 : ByteArray) (w : World) (ha : IV w sa la)
    (b0 : -9223372036854775808 ≤ h0 ∧ h0 ≤ 9223372036854775807) (b1 : -9223372036854775808 ≤ a0 ∧ a0 ≤ 9223372036854775807) (b2 : -9223372036854775808 ≤ n0 ∧ n0 ≤ 9223372036854775807) (b3 : t0.size ≤ maxLen)
    (b4 : -9223372036854775808 ≤ h1 ∧ h1 ≤ 9223372036854775807) (b5 : -9223372036854775808 ≤ a1 ∧ a1 ≤ 9223372036854775807) (b6 : -9223372036854775808 ≤ n1 ∧ n1 ≤ 9223372036854775807) (b7 : t1.size ≤ maxLen) (hla : la.length ≤ 9223372036854775807) :
    Calls Try.prog 3 #[sa, .agg #[.int .i64 h0, .int .i64 a0, .int .i64 n0, .string t0, .int .i64 h1, .int .i64 a1, .int .i64 n1, .string t1]] w fun e w' => e = .returned (.bool true) ∧ Below w.heap.size w w' := by
  obtain ⟨x0, rfl, hx0⟩ := bs_any t0 b3
  obtain ⟨x1, rfl, hx1⟩ := bs_any t1 b7
  have hAw := fun W => awake_yes W
  have hMa := fun W h => made_x sa la W h hla
  have hSp := fun s L ho at_ n tx W hV hT hl htx => spoilt_x s L ho at_ n tx W hV hT hl htx
  have hTe := fun s L W hV hF hl => tells_x s L W hV hF hl
  have hu : Below w.heap.size w (w.alloc (.cells #[.int .i64 h0, .int .i64 a0, .int .i64 n0, .string (bs x0), .int .i64 h1, .int .i64 a1, .int .i64 n1, .string (bs x1)] 25)) := by go_grown
  obtain ⟨q0, q1, q2, q3, q4, q5, q6, q7⟩ : let W := w.alloc (.cells #[.int .i64 h0, .int .i64 a0, .int .i64 n0, .string (bs x0), .int .i64 h1, .int .i64 a1, .int .i64 n1, .string (bs x1)] 25)
      W.cell? ⟨w.heap.size, 0, none⟩ = some (.int .i64 h0) ∧ W.cell? ⟨w.heap.size, 1, none⟩ = some (.int .i64 a0) ∧ W.cell? ⟨w.heap.size, 2, none⟩ = some (.int .i64 n0) ∧ W.cell? ⟨w.heap.size, 3, none⟩ = some (.string (bs x0)) ∧ W.cell? ⟨w.heap.size, 4, none⟩ = some (.int .i64 h1) ∧ W.cell? ⟨w.heap.size, 5, none⟩ = some (.int .i64 a1) ∧ W.cell? ⟨w.heap.size, 6, none⟩ = some (.int .i64 n1) ∧ W.cell? ⟨w.heap.size, 7, none⟩ = some (.string (bs x1)) := by
    refine ⟨?_, ?_, ?_, ?_, ?_, ?_, ?_, ?_⟩ <;> simp [go_sem]
  have ha0 := ha.go hu
  clear b0 b1 b2 b3 b4 b5 b6 b7 ha
  go_enter Try.func3, Try.ntmps3
  go_upto_region 1 with fail
  generalize w.alloc (.cells #[.int .i64 h0, .int .i64 a0, .int .i64 n0, .string (bs x0), .int .i64 h1, .int .i64 a1, .int .i64 n1, .string (bs x1)] 25) = W0 at *
  generalize hqb : w.heap.size = qb at *
  have keep : ∀ W : World, Below W0.heap.size W0 W → (W.cell? ⟨qb, 0, none⟩ = some (.int .i64 h0) ∧ W.cell? ⟨qb, 1, none⟩ = some (.int .i64 a0) ∧ W.cell? ⟨qb, 2, none⟩ = some (.int .i64 n0) ∧ W.cell? ⟨qb, 3, none⟩ = some (.string (bs x0)) ∧ W.cell? ⟨qb, 4, none⟩ = some (.int .i64 h1) ∧ W.cell? ⟨qb, 5, none⟩ = some (.int .i64 a1) ∧ W.cell? ⟨qb, 6, none⟩ = some (.int .i64 n1) ∧ W.cell? ⟨qb, 7, none⟩ = some (.string (bs x1))) ∧ Below qb w W := fun W hb =>
    have hl := cell_lt q0
    ⟨⟨(hb.cell (p := ⟨qb, 0, none⟩) hl).trans q0, (hb.cell (p := ⟨qb, 1, none⟩) hl).trans q1, (hb.cell (p := ⟨qb, 2, none⟩) hl).trans q2, (hb.cell (p := ⟨qb, 3, none⟩) hl).trans q3, (hb.cell (p := ⟨qb, 4, none⟩) hl).trans q4, (hb.cell (p := ⟨qb, 5, none⟩) hl).trans q5, (hb.cell (p := ⟨qb, 6, none⟩) hl).trans q6, (hb.cell (p := ⟨qb, 7, none⟩) hl).trans q7⟩, hu.trans (hb.mono (by have := hu.size; omega))⟩
  have HK := Lib.hid keep
  have HQB := Lib.hid hqb
  clear keep q0 q1 q2 q3 q4 q5 q6 q7 hqb hu
  go_wp2_with fail
  refine (hAw _).mono ?_
  rintro e w1 ⟨rfl, hb1⟩
  go_wp2_with fail
  refine (hMa _ (ha0.go hb1)).mono ?_
  rintro e w2 ⟨t, s2, rfl, hg, hl2, hT2, hs2, hA2, hb2⟩
  have hb2' := hb1.trans (hb2.mono hb1.size)
  obtain ⟨o2, c2, rfl⟩ := SliceAt.slice hs2
  have hF2 : TextsOk t.flat := fun x hx => by have := hT2 x hx; omega
  replace hs2 := hs2.view
  clear hT2 hA2 hb1 hb2 hg hMa hAw ha0
  generalize t.flat = L at *
  obtain ⟨⟨q0, q1, q2, q3, q4, q5, q6, q7⟩, _⟩ := HK.out _ hb2'
  go_wp2_with fail
  refine (hSp _ L h0 a0 n0 x0 _ hs2 hF2 (by omega) hx0).mono ?_
  rintro e w3 ⟨M, s3, rfl, hs3, hF3, hl3, hb3⟩
  obtain ⟨o3, c3, rfl⟩ := SliceAt.slice hs3
  have hb3' := hb2'.trans (hb3.mono hb2'.size)
  replace hs3 := hs3.view
  replace hs2 := hs2.go hb3
  clear q0 q1 q2 q3 q4 q5 q6 q7 hb2' hb3
  obtain ⟨⟨q0, q1, q2, q3, q4, q5, q6, q7⟩, _⟩ := HK.out _ hb3'
  go_wp2_with fail
  refine (hTe _ L _ hs2 hF2 (by omega)).mono ?_
  rintro e w4 ⟨rfl, hb4⟩
  have hb4' := hb3'.trans (hb4.mono hb3'.size)
  replace hs3 := hs3.go hb4
  clear q0 q1 q2 q3 q4 q5 q6 q7 hb3' hb4 hs2
  obtain ⟨⟨q0, q1, q2, q3, q4, q5, q6, q7⟩, _⟩ := HK.out _ hb4'
  go_wp2_with fail
  refine (hTe _ M _ hs3 hF3 (by omega)).mono ?_
  rintro e w5 ⟨rfl, hb5⟩
  have hb5' := hb4'.trans (hb5.mono hb4'.size)
  replace hs3 := hs3.go hb5
  clear q0 q1 q2 q3 q4 q5 q6 q7 hb4' hb5
  obtain ⟨⟨q0, q1, q2, q3, q4, q5, q6, q7⟩, _⟩ := HK.out _ hb5'
  go_wp2_with fail
  refine (hSp _ M h1 a1 n1 x1 _ hs3 hF3 (by omega) hx1).mono ?_
  rintro e w6 ⟨N, s6, rfl, hs6, hF6, hl6, hb6⟩
  obtain ⟨o6, c6, rfl⟩ := SliceAt.slice hs6
  have hb6' := hb5'.trans (hb6.mono hb5'.size)
  replace hs6 := hs6.view
  clear q0 q1 q2 q3 q4 q5 q6 q7 hb5' hb6 hs3
  go_wp2_with fail
  refine (hTe _ N _ hs6 hF6 (by omega)).mono ?_
  rintro e w7 ⟨rfl, hb7⟩
  have hb7' := hb6'.trans (hb7.mono hb6'.size)
  clear hb6' hb7 hs6
  go_wp2_with fail
  refine (hTe (.slice none 0 0) [] w7 (View.nil w7 none 0) (fun x hx => absurd hx (by simp)) (by simp)).mono ?_
  rintro e w8 ⟨rfl, hb8⟩
  have hB := (HK.out _ (hb7'.trans (hb8.mono hb7'.size))).2
  rw [← HQB.out] at hB
  clear hb7' hb8 HK
  go_wp2_with fail
  go_ret
  exact ⟨by first | rfl | simp, hB⟩

end Go.Proofs.Yteakgagjacjhiaa.Trees

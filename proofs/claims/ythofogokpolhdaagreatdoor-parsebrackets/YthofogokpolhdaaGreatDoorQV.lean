/-
  The walk of ParseEnds.
-/
import Derived.Test.YthofogokpolhdaaGreatDoorQUX
import Derived.Test.YthofogokpolhdaaGreatDoorKIY
namespace Go.Proofs.YthofogokpolhdaaGreatDoor.Parses
open Go.RowKit Go.Shelf
open Go.Proofs.YthofogokpolhdaaGreatDoor.Trees (Stp Tr View symT IV)
open Go.Proofs.YthofogokpolhdaaGreatDoor.Style (bs bs_size bs_app bs_toList stZ St rof_any one_byte)
open Go.Proofs.YthofogokpolhdaaGreatDoor.Toks (cell_lt cell_same Env)
set_option linter.unusedVariables false
set_option linter.unusedSimpArgs false

/-- A box of four cells. -/
structure Err4 (W : World) (b : Nat) (v0 v1 v2 v3 : Value) : Prop where
  c0 : W.cell? ⟨b, 0, none⟩ = some v0
  c1 : W.cell? ⟨b, 1, none⟩ = some v1
  c2 : W.cell? ⟨b, 2, none⟩ = some v2
  c3 : W.cell? ⟨b, 3, none⟩ = some v3
theorem Err4.new (W : World) (v0 v1 v2 v3 : Value) : Err4 (W.alloc (.cells #[v0, v1, v2, v3] 37)) W.heap.size v0 v1 v2 v3 := ⟨by simp [go_sem], by simp [go_sem], by simp [go_sem], by simp [go_sem]⟩
theorem Err4.go {W W' : World} {b : Nat} {v0 v1 v2 v3 : Value} (h : Err4 W b v0 v1 v2 v3) (hb : Below W.heap.size W W') : Err4 W' b v0 v1 v2 v3 :=
  ⟨(hb.cell (p := ⟨b, 0, none⟩) (cell_lt h.c0)).trans h.c0, (hb.cell (p := ⟨b, 1, none⟩) (cell_lt h.c0)).trans h.c1, (hb.cell (p := ⟨b, 2, none⟩) (cell_lt h.c0)).trans h.c2, (hb.cell (p := ⟨b, 3, none⟩) (cell_lt h.c0)).trans h.c3⟩
theorem fldM (a b c d e f : Value) (w : World) : (Instr.field 43 (.agg #[a, b, c, d, e, f]) 1).run Tryz.prog w = .ok b w := by kernel_rfl

set_option maxRecDepth 100000 in
set_option maxHeartbeats 4000000 in
theorem ends_walk (n : Int) (sv : Value) (l : List Int) (w : World) (hE : Env w) (hn : -9223372036854775808 ≤ n ∧ n ≤ 9223372036854775807) (hV : IV w sv l) (hl : l.length ≤ 9223372036854775807) :
    Calls Tryz.prog 8 #[.int .i64 n, sv] w fun e w' => e = .returned (.bool true) ∧ Below w.heap.size w w' := by
  have hR := rest_any n 5
  have hk := restN_lt n 5 (by omega)
  generalize restN n 5 = k at hR hk
  have hki : (k : Int) < 5 := by omega
  have hT := fun W (h : IV W sv l) => ltext_v k hk sv l W h hl
  obtain ⟨o, c, rfl, hc, _⟩ := id hV
  have hP : ∀ (s : List UInt8) (W : World), Env W → s.length ≤ 255 → Calls Tryz.prog 17 #[.int .i64 (1 + (k : Int)), .string (bs s)] W (TreeEnd k (pToks ((k : Int) + 1) s) (s.length : Int) W) := fun s W hW hl => by
    have h := parse_any k s W hW hk hl
    rw [show 1 + (k : Int) = (k : Int) + 1 by omega]
    exact h
  have hO : ∀ X, Calls Tryz.prog 20 #[.int .i64 (1 + (k : Int))] X fun e w' => e = .returned (stZ ((k : Int) + 1)).v ∧ Below X.heap.size X w' := fun X => by
    rw [show 1 + (k : Int) = (k : Int) + 1 by omega]
    exact rof_any _ X
  have ob := one_byte
  have hfm := fldM
  go_enter Tryz.func8, Tryz.ntmps8
  go_wp2_with fail
  refine (awake_yes w hE).mono ?_
  rintro e w1 ⟨rfl, hb1⟩
  have hE1 := hE.go hb1
  have hV1 := hV.go hb1
  clear hE hV
  go_wp2_with fail
  refine (hR w1 (by omega) (by omega)).mono ?_
  rintro e w2 ⟨rfl, rfl⟩
  clear hR
  go_wp2_with fail
  refine (hT w1 hV1).mono ?_
  rintro e w2 ⟨⟨S, rfl, hS⟩, hb2⟩
  have hE2 := hE1.go hb2
  have hB2 := hb1.trans (hb2.mono hb1.size)
  clear hT hE1 hV1 hb1 hb2 hc
  rcases hS with rfl | ⟨T, hST, hF, h255, h30, _, _⟩
  · have hem : (bs []).toList.isEmpty = true := by rw [bs_toList]; rfl
    clear hP hO
    go_wp2_with fail
    go_ret
    exact ⟨rfl, hB2⟩
  have hzi : ((bs S).size : Int) = (S.length : Int) := by rw [bs_size]
  by_cases h250 : 250 < S.length
  · have h250i : (250 : Int) < (S.length : Int) := by omega
    clear hP hO hF hST
    by_cases hS0 : S = []
    · rw [hS0] at h250; simp at h250
    · have hem : (bs S).toList.isEmpty = false := by rw [bs_toList]; simpa using hS0
      go_wp2_with fail
      go_ret
      exact ⟨rfl, hB2⟩
  have h250i : ¬ (250 : Int) < (S.length : Int) := by omega
  by_cases hS0 : S = []
  · subst hS0
    have hem : (bs []).toList.isEmpty = true := by rw [bs_toList]; rfl
    clear hP hO hF hST
    go_wp2_with fail
    go_ret
    exact ⟨rfl, hB2⟩
  have hem : (bs S).toList.isEmpty = false := by rw [bs_toList]; simpa using hS0
  have hxA := fun size => end_right hF size
  have hxB := fun size => end_oper hF size
  have hxC := fun size => end_left hF (by omega) size
  have hxD := fun size => end_odd hF size
  rw [← hST] at hxA hxB hxC hxD
  clear hF hST hS0
  have eA : bs S ++ (⟨#[41]⟩ : ByteArray) = bs (S ++ [41]) := by rw [← bs_app]; rfl
  have eC : (⟨#[40]⟩ : ByteArray) ++ bs S = bs (40 :: S) := by
    show bs [40] ++ bs S = _
    rw [bs_app]; rfl
  have eD : bs S ++ (⟨#[32]⟩ : ByteArray) = bs (S ++ [32]) := by rw [← bs_app]; rfl
  have zS : (bs S).size ≤ 250 := by rw [bs_size]; omega
  have lA : (S ++ [41]).length ≤ 255 := by rw [List.length_append]; simp; omega
  go_wp2_with fail
  refine (hP (S ++ [41]) w2 hE2 lA).mono ?_
  rintro e w3 he
  obtain ⟨rfl, hb3⟩ := end_err he (hxA _)
  have hu3 := alloc_own w3 (.cells #[.slice none 0 0, .int .i64 14, .int .i64 (S.length : Int), .int .i64 0] 37)
  have hb3' := hb3.trans (hu3.mono hb3.size)
  have hE3 := hE2.go hb3'
  have hB3 := hB2.trans (hb3'.mono hB2.size)
  have hxa := Err4.new w3 (.slice none 0 0) (.int .i64 14) (.int .i64 (S.length : Int)) (.int .i64 0)
  clear he hb3 hu3 hb3' hE2 hB2 eA lA hxA
  go_wp2_with fail
  generalize w3.alloc (.cells #[.slice none 0 0, .int .i64 14, .int .i64 (S.length : Int), .int .i64 0] 37) = Y3 at *
  have hOY := hO Y3
  generalize stZ ((k : Int) + 1) = y at *
  obtain ⟨yf, ym, yd, yp, yo, yc⟩ := y
  simp only [St.v] at hOY
  dsimp only at hxB
  refine hOY.mono ?_
  rintro e w4 ⟨rfl, hb4⟩
  have hu4 := alloc_own w4 (.cells #[.int .u8 ym] 5)
  have hb4' := hb4.trans (hu4.mono hb4.size)
  have hE4 := hE3.go hb4'
  have hB4 := hB3.trans (hb4'.mono hB3.size)
  replace hxa := hxa.go hb4'
  have eB : bs S ++ bs [UInt8.ofNat ym.toNat] = bs (S ++ [byteZ ym]) := by rw [bs_app]; rfl
  have zB : ¬ 9223372036854775807 < (bs S).size + (bs [UInt8.ofNat ym.toNat]).size := by
    show ¬ 9223372036854775807 < (bs S).size + 1
    omega
  have lB : (S ++ [byteZ ym]).length ≤ 255 := by rw [List.length_append]; simp; omega
  have nB : ((S ++ [byteZ ym]).length : Int) = (S.length : Int) + 1 := by rw [List.length_append]; rfl
  clear hb4 hu4 hb4' hE3 hB3 hO hOY
  go_wp2_with fail
  generalize w4.alloc (.cells #[.int .u8 ym] 5) = Y4 at *
  refine (hP (S ++ [byteZ ym]) Y4 hE4 lB).mono ?_
  rintro e w5 he
  obtain ⟨rfl, hb5⟩ := end_err he (hxB _)
  rw [nB]
  have hu5 := alloc_own w5 (.cells #[.slice none 0 0, .int .i64 14, .int .i64 ((S.length : Int) + 1), .int .i64 0] 37)
  have hb5' := hb5.trans (hu5.mono hb5.size)
  have hE5 := hE4.go hb5'
  have hB5 := hB4.trans (hb5'.mono hB4.size)
  replace hxa := hxa.go hb5'
  have hxb := Err4.new w5 (.slice none 0 0) (.int .i64 14) (.int .i64 ((S.length : Int) + 1)) (.int .i64 0)
  have lC : (40 :: S).length ≤ 255 := by rw [List.length_cons]; omega
  have zC : ¬ 9223372036854775807 < (⟨#[40]⟩ : ByteArray).size + (bs S).size := by
    show ¬ 9223372036854775807 < 1 + (bs S).size
    omega
  clear he hb5 hu5 hb5' hE4 hB4 eB lB hxB zB nB
  go_wp2_with fail
  generalize w5.alloc (.cells #[.slice none 0 0, .int .i64 14, .int .i64 ((S.length : Int) + 1), .int .i64 0] 37) = Y5 at *
  refine (hP (40 :: S) Y5 hE5 lC).mono ?_
  rintro e w6 he
  obtain ⟨rfl, hb6⟩ := end_err he (hxC _)
  have nC : ((40 :: S).length : Int) = (S.length : Int) + 1 := by rw [List.length_cons]; rfl
  rw [nC]
  have hu6 := alloc_own w6 (.cells #[.slice none 0 0, .int .i64 14, .int .i64 ((S.length : Int) + 1), .int .i64 0] 37)
  have hb6' := hb6.trans (hu6.mono hb6.size)
  have hE6 := hE5.go hb6'
  have hB6 := hB5.trans (hb6'.mono hB5.size)
  replace hxa := hxa.go hb6'
  replace hxb := hxb.go hb6'
  have hxc := Err4.new w6 (.slice none 0 0) (.int .i64 14) (.int .i64 ((S.length : Int) + 1)) (.int .i64 0)
  have lD : (S ++ [32]).length ≤ 255 := by rw [List.length_append]; simp; omega
  have zD : ¬ 9223372036854775807 < (bs S).size + (⟨#[32]⟩ : ByteArray).size := by
    show ¬ 9223372036854775807 < (bs S).size + 1
    omega
  clear he hb6 hu6 hb6' hE5 hB5 eC lC hxC zC nC
  go_wp2_with fail
  generalize w6.alloc (.cells #[.slice none 0 0, .int .i64 14, .int .i64 ((S.length : Int) + 1), .int .i64 0] 37) = Y6 at *
  refine (hP (S ++ [32]) Y6 hE6 lD).mono ?_
  rintro e w7 he
  obtain ⟨rfl, hb7⟩ := end_err he (hxD _)
  have hu7 := alloc_own w7 (.cells #[.slice none 0 0, .int .i64 14, .int .i64 (S.length : Int), .int .i64 0] 37)
  have hb7' := hb7.trans (hu7.mono hb7.size)
  have hB7 := hB6.trans (hb7'.mono hB6.size)
  replace hxa := hxa.go hb7'
  replace hxb := hxb.go hb7'
  replace hxc := hxc.go hb7'
  have hxd := Err4.new w7 (.slice none 0 0) (.int .i64 14) (.int .i64 (S.length : Int)) (.int .i64 0)
  have HB := Lib.hid hB7
  obtain ⟨_, a1, a2, _⟩ := hxa
  obtain ⟨_, b1, b2, _⟩ := hxb
  obtain ⟨_, c1, c2, _⟩ := hxc
  obtain ⟨_, d1, d2, _⟩ := hxd
  have hsi : (S.length : Int) ≤ 250 := by omega
  clear he hb7 hu7 hb7' hE6 hB6 eD lD hxD zD hB7 hP
  go_wp2_with fail
  go_ret
  exact ⟨rfl, HB.out⟩

end Go.Proofs.YthofogokpolhdaaGreatDoor.Parses

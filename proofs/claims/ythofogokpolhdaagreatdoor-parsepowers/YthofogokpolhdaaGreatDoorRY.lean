/-
  Contract of package parse's Parse, where the text's tokens are told.
-/
import Derived.Test.YthofogokpolhdaaGreatDoorRVX
import Derived.Test.YthofogokpolhdaaGreatDoorX5X
namespace Go.Proofs.YthofogokpolhdaaGreatDoor.Parses
open Go.RowKit Go.Shelf
open Go.Proofs.YthofogokpolhdaaGreatDoor.Trees (Stp StepsAt But)
open Go.Proofs.YthofogokpolhdaaGreatDoor.Toks (Tok ToksAt cell_lt cell_same SliceAt Above Env LexEnd lex_any)
open Go.Proofs.YthofogokpolhdaaGreatDoor.Style (bs bs_size isN Styles)
set_option linter.unusedVariables false
set_option linter.unusedSimpArgs false

/-- The answer's four cells are laid. -/
theorem laid4 {b : Nat} {w : World} {c0 c1 c2 c3 : Value} (a0 a1 a2 a3 : Value) (h0 : w.cell? ⟨b, 0, none⟩ = some c0) (h1 : w.cell? ⟨b, 1, none⟩ = some c1) (h2 : w.cell? ⟨b, 2, none⟩ = some c2) (h3 : w.cell? ⟨b, 3, none⟩ = some c3) :
    Toks.Only b w ((((w.setCell ⟨b, 0, none⟩ a0).setCell ⟨b, 1, none⟩ a1).setCell ⟨b, 2, none⟩ a2).setCell ⟨b, 3, none⟩ a3) ∧
    ((((w.setCell ⟨b, 0, none⟩ a0).setCell ⟨b, 1, none⟩ a1).setCell ⟨b, 2, none⟩ a2).setCell ⟨b, 3, none⟩ a3).cell? ⟨b, 0, none⟩ = some a0 ∧
    ((((w.setCell ⟨b, 0, none⟩ a0).setCell ⟨b, 1, none⟩ a1).setCell ⟨b, 2, none⟩ a2).setCell ⟨b, 3, none⟩ a3).cell? ⟨b, 1, none⟩ = some a1 ∧
    ((((w.setCell ⟨b, 0, none⟩ a0).setCell ⟨b, 1, none⟩ a1).setCell ⟨b, 2, none⟩ a2).setCell ⟨b, 3, none⟩ a3).cell? ⟨b, 2, none⟩ = some a2 ∧
    ((((w.setCell ⟨b, 0, none⟩ a0).setCell ⟨b, 1, none⟩ a1).setCell ⟨b, 2, none⟩ a2).setCell ⟨b, 3, none⟩ a3).cell? ⟨b, 3, none⟩ = some a3 :=
  ⟨((((Toks.Only.refl b w).set _ _).set _ _).set _ _).set _ _, by simp [go_sem, h0, h1, h2, h3], by simp [go_sem, h0, h1, h2, h3], by simp [go_sem, h0, h1, h2, h3], by simp [go_sem, h0, h1, h2, h3]⟩

set_option maxRecDepth 100000 in
set_option maxHeartbeats 4000000 in
theorem parse_ok (k : Nat) (s : List UInt8) (w : World) (hE : Env w) (hk5 : k < 5) (hl : s.length ≤ 255) (h0 : Toks.lexErr ((k : Int) + 1) s = 0)
    (hs : ∀ x ∈ Toks.lexToks ((k : Int) + 1) s, x.text.length ≤ 1000) (hlen : (Toks.lexToks ((k : Int) + 1) s).length ≤ 900) :
    Calls Tryz.prog 17 #[.int .i64 ((k : Int) + 1), .string (bs s)] w (TreeEnd k (Toks.lexToks ((k : Int) + 1) s) (Toks.lexAt ((k : Int) + 1) s : Int) w) := by
  have hu1 := alloc_own w (.cells #[.slice none 0 0, .int .i64 0, .int .i64 0, .int .i64 0] 37)
  have hE1 := hE.go hu1
  have hX := lex_any ((k : Int) + 1) s _ hE1 (by omega)
  have p0 : (w.alloc (.cells #[.slice none 0 0, .int .i64 0, .int .i64 0, .int .i64 0] 37)).cell? ⟨w.heap.size, 0, none⟩ = some (.slice none 0 0) := by simp [go_sem]
  have p1 : (w.alloc (.cells #[.slice none 0 0, .int .i64 0, .int .i64 0, .int .i64 0] 37)).cell? ⟨w.heap.size, 1, none⟩ = some (.int .i64 0) := by simp [go_sem]
  have p2 : (w.alloc (.cells #[.slice none 0 0, .int .i64 0, .int .i64 0, .int .i64 0] 37)).cell? ⟨w.heap.size, 2, none⟩ = some (.int .i64 0) := by simp [go_sem]
  have p3 : (w.alloc (.cells #[.slice none 0 0, .int .i64 0, .int .i64 0, .int .i64 0] 37)).cell? ⟨w.heap.size, 3, none⟩ = some (.int .i64 0) := by simp [go_sem]
  have pf : ∀ j, (w.alloc (.cells #[.slice none 0 0, .int .i64 0, .int .i64 0, .int .i64 0] 37)).frozen? ⟨w.heap.size, j, none⟩ = false := fun j => by simp [go_sem]
  go_enter Tryz.func17, Tryz.ntmps17
  go_wp2_with fail
  generalize w.alloc (.cells #[.slice none 0 0, .int .i64 0, .int .i64 0, .int .i64 0] 37) = W1 at *
  refine hX.mono ?_
  rintro e w1 ⟨⟨o, c, rfl, hT, hA⟩, hb1⟩
  rw [h0]
  have hTr := tree_any k _ (Toks.lexToks ((k : Int) + 1) s) (Toks.lexAt ((k : Int) + 1) s : Int) w1 hk5 hT (hE1.go hb1).sts hs hlen
  generalize Toks.lexToks ((k : Int) + 1) s = L at *
  generalize Toks.lexAt ((k : Int) + 1) s = z at *
  have hlt := cell_lt p0
  have hb1z := hb1.size
  have q0 := (hb1.cell (p := ⟨w.heap.size, 0, none⟩) hlt).trans p0
  have q1 := (hb1.cell (p := ⟨w.heap.size, 1, none⟩) hlt).trans p1
  have q2 := (hb1.cell (p := ⟨w.heap.size, 2, none⟩) hlt).trans p2
  have q3 := (hb1.cell (p := ⟨w.heap.size, 3, none⟩) hlt).trans p3
  have qf : ∀ j, w1.frozen? ⟨w.heap.size, j, none⟩ = false := fun j => (hb1.frozen (p := ⟨w.heap.size, j, none⟩) hlt).trans (pf j)
  have hu := hu1.trans (hb1.mono hu1.size)
  clear hX p0 p1 p2 p3 pf hb1 hu1 hT hA hE hE1 hs h0
  go_wp2_with fail
  refine hTr.mono ?_
  rintro e w2 ⟨hb2, hEnd⟩
  have r0 := (hb2.cell (p := ⟨w.heap.size, 0, none⟩) (cell_lt q0)).trans q0
  have r1 := (hb2.cell (p := ⟨w.heap.size, 1, none⟩) (cell_lt q0)).trans q1
  have r2 := (hb2.cell (p := ⟨w.heap.size, 2, none⟩) (cell_lt q0)).trans q2
  have r3 := (hb2.cell (p := ⟨w.heap.size, 3, none⟩) (cell_lt q0)).trans q3
  have f0 := (hb2.frozen (p := ⟨w.heap.size, 0, none⟩) (cell_lt q0)).trans (qf 0)
  have f1 := (hb2.frozen (p := ⟨w.heap.size, 1, none⟩) (cell_lt q0)).trans (qf 1)
  have f2 := (hb2.frozen (p := ⟨w.heap.size, 2, none⟩) (cell_lt q0)).trans (qf 2)
  have f3 := (hb2.frozen (p := ⟨w.heap.size, 3, none⟩) (cell_lt q0)).trans (qf 3)
  have hu2 := hu.trans (hb2.mono hu.size)
  have hl1 := cell_lt q0
  clear hTr q0 q1 q2 q3 qf hb2 hu
  cases hR : treeAll k L (z : Int) with
  | error x =>
    obtain ⟨err, pl, ln⟩ := x
    rw [hR] at hEnd
    dsimp only at hEnd
    subst hEnd
    obtain ⟨ho, x0, x1, x2, x3⟩ := laid4 (.slice none 0 0) (.int .i64 err) (.int .i64 pl) (.int .i64 ln) r0 r1 r2 r3
    have HE := Lib.hid (hu2.trans (ho.below (Nat.le_refl _)))
    have HR := Lib.hid hR
    clear hR hu2 ho
    have HX := Lib.hid (And.intro x0 (And.intro x1 (And.intro x2 x3)))
    clear x0 x1 x2 x3
    go_wp2_with fail
    obtain ⟨x0, x1, x2, x3⟩ := HX.out
    refine bodyPost_ret (v := .agg #[.slice none 0 0, .int .i64 err, .int .i64 pl, .int .i64 ln]) (by simp [results, Tryz.results17, go_sem, x0, x1, x2, x3]) rfl ⟨HE.out, ?_⟩
    rw [HR.out]
  | ok T =>
    rw [hR] at hEnd
    obtain ⟨v, rfl, hSt, hAb⟩ := hEnd
    obtain ⟨ov, cv, rfl⟩ := SliceAt.slice hSt
    obtain ⟨ho, x0, x1, x2, x3⟩ := laid4 (.slice ov T.length cv) (.int .i64 0) (.int .i64 (z : Int)) (.int .i64 0) r0 r1 r2 r3
    have hSt5 := hSt.but (But.only ho) (hAb.mono (by omega))
    have HE := Lib.hid (And.intro (hu2.trans (ho.below (Nat.le_refl _))) hSt5)
    have HR := Lib.hid hR
    have HA := Lib.hid (hAb.mono (show w.heap.size ≤ w1.heap.size by omega))
    clear hR hu2 ho hSt hSt5 hAb
    have HX := Lib.hid (And.intro x0 (And.intro x1 (And.intro x2 x3)))
    clear x0 x1 x2 x3
    go_wp2_with fail
    obtain ⟨x0, x1, x2, x3⟩ := HX.out
    refine bodyPost_ret (v := .agg #[.slice ov T.length cv, .int .i64 0, .int .i64 (z : Int), .int .i64 0]) (by simp [results, Tryz.results17, go_sem, x0, x1, x2, x3]) rfl ⟨HE.out.1, ?_⟩
    rw [HR.out]
    exact ⟨_, rfl, HE.out.2, HA.out⟩

theorem lex_short (n : Int) : ∀ (k p : Nat) (r : List UInt8), r.length ≤ k → ∀ x ∈ Toks.lexL n p r, x.1.text.length ≤ r.length
  | 0, p, r, h, x, hx => by
    have : r = [] := List.length_eq_zero_iff.1 (by omega)
    subst this
    have := Toks.lex_len n []
    have e : Toks.lexL n p [] = [] := Toks.lexL_none rfl
    rw [e] at hx; cases hx
  | k + 1, p, r, h, x, hx => by
    cases e : Toks.nextT n r with
    | none => rw [Toks.lexL_none e] at hx; cases hx
    | some g =>
      have hl := Toks.next_len e
      have hm := Toks.next_more e
      rw [Toks.lexL_some e, List.mem_cons] at hx
      rcases hx with rfl | hx
      · dsimp only; omega
      · have := lex_short n k (p + g.len) (r.drop g.len) (by rw [List.length_drop]; omega) x hx
        rw [List.length_drop] at this
        omega
theorem parse_told (k : Nat) (s : List UInt8) (w : World) (hE : Env w) (hk5 : k < 5) (hl : s.length ≤ 255) (h0 : Toks.lexErr ((k : Int) + 1) s = 0) :
    Calls Tryz.prog 17 #[.int .i64 ((k : Int) + 1), .string (bs s)] w (TreeEnd k (Toks.lexToks ((k : Int) + 1) s) (Toks.lexAt ((k : Int) + 1) s : Int) w) := by
  refine parse_ok k s w hE hk5 hl h0 (fun x hx => ?_) ?_
  · unfold Toks.lexToks at hx
    rw [if_pos h0] at hx
    unfold Toks.toks at hx
    obtain ⟨y, hy, rfl⟩ := List.mem_map.1 hx
    have := lex_short ((k : Int) + 1) s.length 0 s (Nat.le_refl _) y hy
    omega
  · unfold Toks.lexToks
    rw [if_pos h0]
    unfold Toks.toks
    rw [List.length_map]
    have := Toks.lex_len ((k : Int) + 1) s
    omega

end Go.Proofs.YthofogokpolhdaaGreatDoor.Parses

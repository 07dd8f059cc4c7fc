/-
  Contract of package parse's Parse, where the text's tokens are told. Contract of package parse's Parse, at any text of up to 255 bytes, in the five notations. Contracts of drachmlaw11's rest, awake.
-/
import Derived.Test.YthofogokpolhdaaGreatDoorRSZ
import Derived.Test.YthofogokpolhdaaGreatDoorX3Z
import Derived.Test.YthofogokpolhdaaGreatDoorPX
namespace Go.Proofs.YthofogokpolhdaaGreatDoor.Parses
open Go.RowKit Go.Shelf
open Go.Proofs.YthofogokpolhdaaGreatDoor.Trees (Stp StepsAt But)
open Go.Proofs.YthofogokpolhdaaGreatDoor.Toks (Tok ToksAt cell_lt cell_same SliceAt Above Env LexEnd lex_any)
open Go.Proofs.YthofogokpolhdaaGreatDoor.Style (bs bs_size isN Styles)
set_option linter.unusedVariables false
set_option linter.unusedSimpArgs false

/-- The answer's four cells are laid. -/
theorem laid4 {b : Nat} {w : World} {c0 c1 c2 c3 : Value} (a0 a1 a2 a3 : Value) (h0 : w.cell? ⟨b, 0, none⟩ = some c0) (h1 : w.cell? ⟨b, 1, none⟩ = some c1) (h2 : w.cell? ⟨b, 2, none⟩ = some c2) (h3 : w.cell? ⟨b, 3, none⟩ = some c3) :
    Toks.Only b w ((((w.setCell ⟨b, 0, none⟩ a0).setCell ⟨b, 1, none⟩ a1).setCell ⟨b, 2, none⟩ a2).setCell ⟨b, 3, none⟩ a3) ∧
    ((((w.setCell ⟨b, 0, none⟩ a0).setCell ⟨b, 1, none⟩ a1).setCell ⟨b, 2, none⟩ a2).setCell ⟨b, 3, none⟩ a3).cell? ⟨b, 0, none⟩ = some a0 ∧
    ((((w.setCell ⟨b, 0, none⟩ a0).setCell ⟨b, 1, none⟩ a1).setCell ⟨b, 2, none⟩ a2).setCell ⟨b, 3, none⟩ a3).cell? ⟨b, 1, none⟩ = some a1 ∧
    ((((w.setCell ⟨b, 0, none⟩ a0).setCell ⟨b, 1, none⟩ a1).setCell ⟨b, 2, none⟩ a2).setCell ⟨b, 3, none⟩ a3).cell? ⟨b, 2, none⟩ = some a2 ∧
    ((((w.setCell ⟨b, 0, none⟩ a0).setCell ⟨b, 1, none⟩ a1).setCell ⟨b, 2, none⟩ a2).setCell ⟨b, 3, none⟩ a3).cell? ⟨b, 3, none⟩ = some a3 :=
  ⟨((((Toks.Only.refl b w).set _ _).set _ _).set _ _).set _ _, by simp [go_sem, h0, h1, h2, h3], by simp [go_sem, h0, h1, h2, h3], by simp [go_sem, h0, h1, h2, h3], by simp [go_sem, h0, h1, h2, h3]⟩

set_option maxRecDepth 100000 in
set_option maxHeartbeats 4000000 in
theorem parse_ok (k : Nat) (s : List UInt8) (w : World) (hE : Env w) (hk5 : k < 5) (hl : s.length ≤ 255) (h0 : Toks.lexErr ((k : Int) + 1) s = 0)
    (hs : ∀ x ∈ Toks.lexToks ((k : Int) + 1) s, x.text.length ≤ 1000) (hlen : (Toks.lexToks ((k : Int) + 1) s).length ≤ 900) :
    Calls Tryz.prog 17 #[.int .i64 ((k : Int) + 1), .string (bs s)] w (TreeEnd k (Toks.lexToks ((k : Int) + 1) s) (Toks.lexAt ((k : Int) + 1) s : Int) w) := by
  have hu1 := alloc_own w (.cells #[.slice none 0 0, .int .i64 0, .int .i64 0, .int .i64 0] 37)
  have hE1 := hE.go hu1
  have hX := lex_any ((k : Int) + 1) s _ hE1 (by omega)
  have p0 : (w.alloc (.cells #[.slice none 0 0, .int .i64 0, .int .i64 0, .int .i64 0] 37)).cell? ⟨w.heap.size, 0, none⟩ = some (.slice none 0 0) := by simp [go_sem]
  have p1 : (w.alloc (.cells #[.slice none 0 0, .int .i64 0, .int .i64 0, .int .i64 0] 37)).cell? ⟨w.heap.size, 1, none⟩ = some (.int .i64 0) := by simp [go_sem]
  have p2 : (w.alloc (.cells #[.slice none 0 0, .int .i64 0, .int .i64 0, .int .i64 0] 37)).cell? ⟨w.heap.size, 2, none⟩ = some (.int .i64 0) := by simp [go_sem]
  have p3 : (w.alloc (.cells #[.slice none 0 0, .int .i64 0, .int .i64 0, .int .i64 0] 37)).cell? ⟨w.heap.size, 3, none⟩ = some (.int .i64 0) := by simp [go_sem]
  have pf : ∀ j, (w.alloc (.cells #[.slice none 0 0, .int .i64 0, .int .i64 0, .int .i64 0] 37)).frozen? ⟨w.heap.size, j, none⟩ = false := fun j => by simp [go_sem]
  go_enter Tryz.func17, Tryz.ntmps17
  go_wp2_with fail
  generalize w.alloc (.cells #[.slice none 0 0, .int .i64 0, .int .i64 0, .int .i64 0] 37) = W1 at *
  refine hX.mono ?_
  rintro e w1 ⟨⟨o, c, rfl, hT, hA⟩, hb1⟩
  rw [h0]
  have hTr := tree_any k _ (Toks.lexToks ((k : Int) + 1) s) (Toks.lexAt ((k : Int) + 1) s : Int) w1 hk5 hT (hE1.go hb1).sts hs hlen
  generalize Toks.lexToks ((k : Int) + 1) s = L at *
  generalize Toks.lexAt ((k : Int) + 1) s = z at *
  have hlt := cell_lt p0
  have hb1z := hb1.size
  have q0 := (hb1.cell (p := ⟨w.heap.size, 0, none⟩) hlt).trans p0
  have q1 := (hb1.cell (p := ⟨w.heap.size, 1, none⟩) hlt).trans p1
  have q2 := (hb1.cell (p := ⟨w.heap.size, 2, none⟩) hlt).trans p2
  have q3 := (hb1.cell (p := ⟨w.heap.size, 3, none⟩) hlt).trans p3
  have qf : ∀ j, w1.frozen? ⟨w.heap.size, j, none⟩ = false := fun j => (hb1.frozen (p := ⟨w.heap.size, j, none⟩) hlt).trans (pf j)
  have hu := hu1.trans (hb1.mono hu1.size)
  clear hX p0 p1 p2 p3 pf hb1 hu1 hT hA hE hE1 hs h0
  go_wp2_with fail
  refine hTr.mono ?_
  rintro e w2 ⟨hb2, hEnd⟩
  have r0 := (hb2.cell (p := ⟨w.heap.size, 0, none⟩) (cell_lt q0)).trans q0
  have r1 := (hb2.cell (p := ⟨w.heap.size, 1, none⟩) (cell_lt q0)).trans q1
  have r2 := (hb2.cell (p := ⟨w.heap.size, 2, none⟩) (cell_lt q0)).trans q2
  have r3 := (hb2.cell (p := ⟨w.heap.size, 3, none⟩) (cell_lt q0)).trans q3
  have f0 := (hb2.frozen (p := ⟨w.heap.size, 0, none⟩) (cell_lt q0)).trans (qf 0)
  have f1 := (hb2.frozen (p := ⟨w.heap.size, 1, none⟩) (cell_lt q0)).trans (qf 1)
  have f2 := (hb2.frozen (p := ⟨w.heap.size, 2, none⟩) (cell_lt q0)).trans (qf 2)
  have f3 := (hb2.frozen (p := ⟨w.heap.size, 3, none⟩) (cell_lt q0)).trans (qf 3)
  have hu2 := hu.trans (hb2.mono hu.size)
  have hl1 := cell_lt q0
  clear hTr q0 q1 q2 q3 qf hb2 hu
  cases hR : treeAll k L (z : Int) with
  | error x =>
    obtain ⟨err, pl, ln⟩ := x
    rw [hR] at hEnd
    dsimp only at hEnd
    subst hEnd
    obtain ⟨ho, x0, x1, x2, x3⟩ := laid4 (.slice none 0 0) (.int .i64 err) (.int .i64 pl) (.int .i64 ln) r0 r1 r2 r3
    have HE := Lib.hid (hu2.trans (ho.below (Nat.le_refl _)))
    have HR := Lib.hid hR
    clear hR hu2 ho
    have HX := Lib.hid (And.intro x0 (And.intro x1 (And.intro x2 x3)))
    clear x0 x1 x2 x3
    go_wp2_with fail
    obtain ⟨x0, x1, x2, x3⟩ := HX.out
    refine bodyPost_ret (v := .agg #[.slice none 0 0, .int .i64 err, .int .i64 pl, .int .i64 ln]) (by simp [results, Tryz.results17, go_sem, x0, x1, x2, x3]) rfl ⟨HE.out, ?_⟩
    rw [HR.out]
  | ok T =>
    rw [hR] at hEnd
    obtain ⟨v, rfl, hSt, hAb⟩ := hEnd
    obtain ⟨ov, cv, rfl⟩ := SliceAt.slice hSt
    obtain ⟨ho, x0, x1, x2, x3⟩ := laid4 (.slice ov T.length cv) (.int .i64 0) (.int .i64 (z : Int)) (.int .i64 0) r0 r1 r2 r3
    have hSt5 := hSt.but (But.only ho) (hAb.mono (by omega))
    have HE := Lib.hid (And.intro (hu2.trans (ho.below (Nat.le_refl _))) hSt5)
    have HR := Lib.hid hR
    have HA := Lib.hid (hAb.mono (show w.heap.size ≤ w1.heap.size by omega))
    clear hR hu2 ho hSt hSt5 hAb
    have HX := Lib.hid (And.intro x0 (And.intro x1 (And.intro x2 x3)))
    clear x0 x1 x2 x3
    go_wp2_with fail
    obtain ⟨x0, x1, x2, x3⟩ := HX.out
    refine bodyPost_ret (v := .agg #[.slice ov T.length cv, .int .i64 0, .int .i64 (z : Int), .int .i64 0]) (by simp [results, Tryz.results17, go_sem, x0, x1, x2, x3]) rfl ⟨HE.out.1, ?_⟩
    rw [HR.out]
    exact ⟨_, rfl, HE.out.2, HA.out⟩

theorem lex_short (n : Int) : ∀ (k p : Nat) (r : List UInt8), r.length ≤ k → ∀ x ∈ Toks.lexL n p r, x.1.text.length ≤ r.length
  | 0, p, r, h, x, hx => by
    have : r = [] := List.length_eq_zero_iff.1 (by omega)
    subst this
    have := Toks.lex_len n []
    have e : Toks.lexL n p [] = [] := Toks.lexL_none rfl
    rw [e] at hx; cases hx
  | k + 1, p, r, h, x, hx => by
    cases e : Toks.nextT n r with
    | none => rw [Toks.lexL_none e] at hx; cases hx
    | some g =>
      have hl := Toks.next_len e
      have hm := Toks.next_more e
      rw [Toks.lexL_some e, List.mem_cons] at hx
      rcases hx with rfl | hx
      · dsimp only; omega
      · have := lex_short n k (p + g.len) (r.drop g.len) (by rw [List.length_drop]; omega) x hx
        rw [List.length_drop] at this
        omega
theorem parse_told (k : Nat) (s : List UInt8) (w : World) (hE : Env w) (hk5 : k < 5) (hl : s.length ≤ 255) (h0 : Toks.lexErr ((k : Int) + 1) s = 0) :
    Calls Tryz.prog 17 #[.int .i64 ((k : Int) + 1), .string (bs s)] w (TreeEnd k (Toks.lexToks ((k : Int) + 1) s) (Toks.lexAt ((k : Int) + 1) s : Int) w) := by
  refine parse_ok k s w hE hk5 hl h0 (fun x hx => ?_) ?_
  · unfold Toks.lexToks at hx
    rw [if_pos h0] at hx
    unfold Toks.toks at hx
    obtain ⟨y, hy, rfl⟩ := List.mem_map.1 hx
    have := lex_short ((k : Int) + 1) s.length 0 s (Nat.le_refl _) y hy
    omega
  · unfold Toks.lexToks
    rw [if_pos h0]
    unfold Toks.toks
    rw [List.length_map]
    have := Toks.lex_len ((k : Int) + 1) s
    omega

end Go.Proofs.YthofogokpolhdaaGreatDoor.Parses

namespace Go.Proofs.YthofogokpolhdaaGreatDoor.Parses
open Go.RowKit Go.Shelf
open Go.Proofs.YthofogokpolhdaaGreatDoor.Trees (Stp StepsAt But)
open Go.Proofs.YthofogokpolhdaaGreatDoor.Toks (Tok ToksAt cell_lt cell_same SliceAt Above Env LexEnd lex_any TI EachEnd each_any collect_any wpList_app)
open Go.Proofs.YthofogokpolhdaaGreatDoor.Style (bs bs_size isN Styles)
set_option linter.unusedVariables false
set_option linter.unusedSimpArgs false

theorem five {k : Nat} (hk : k < 5) : isN ((k : Int) + 1) = true := by
  match k, hk with
  | 0, _ => rfl
  | 1, _ => rfl
  | 2, _ => rfl
  | 3, _ => rfl
  | 4, _ => rfl
theorem toks_told {k : Nat} (hk : k < 5) {s : List UInt8} (hl : s.length ≤ 255) (h0 : Toks.lexErr ((k : Int) + 1) s = 0) : Toks.lexToks ((k : Int) + 1) s = pToks ((k : Int) + 1) s ∧ Toks.lexAt ((k : Int) + 1) s = s.length := by
  have hf := five hk
  have he : ¬ Toks.endL 0 (Toks.lexL ((k : Int) + 1) 0 s) < s.length := by
    intro h
    unfold Toks.lexErr at h0
    rw [if_neg (by rw [hf]; simp), if_neg (by omega), if_pos h] at h0
    cases h0
  have hen := Toks.lex_end ((k : Int) + 1) s
  constructor
  · unfold Toks.lexToks pToks endOf
    rw [if_pos h0, if_neg he, List.append_nil]; rfl
  · unfold Toks.lexAt
    rw [if_neg (by rw [hf]; simp; omega)]
    omega
theorem toks_cut {k : Nat} (hk : k < 5) {s : List UInt8} (hl : s.length ≤ 255) (h0 : Toks.lexErr ((k : Int) + 1) s ≠ 0) : Toks.lexErr ((k : Int) + 1) s = 14 ∧ Toks.lexAt ((k : Int) + 1) s = endOf ((k : Int) + 1) s ∧ pToks ((k : Int) + 1) s = Toks.toks ((k : Int) + 1) s ++ [⟨0, endOf ((k : Int) + 1) s, [], 0⟩] := by
  have hf := five hk
  have he : Toks.endL 0 (Toks.lexL ((k : Int) + 1) 0 s) < s.length := by
    by_cases h : Toks.endL 0 (Toks.lexL ((k : Int) + 1) 0 s) < s.length
    · exact h
    · exfalso
      apply h0
      unfold Toks.lexErr
      rw [if_neg (by rw [hf]; simp), if_neg (by omega), if_neg h]
  refine ⟨?_, ?_, ?_⟩
  · unfold Toks.lexErr
    rw [if_neg (by rw [hf]; simp), if_neg (by omega), if_pos he]
  · unfold Toks.lexAt
    rw [if_neg (by rw [hf]; simp; omega)]; rfl
  · unfold pToks
    rw [if_pos (show endOf ((k : Int) + 1) s < s.length from he)]; rfl

/-- The answer's four cells, as they are made. -/
structure Four (b : Nat) (W : World) : Prop where
  p0 : W.cell? ⟨b, 0, none⟩ = some (.slice none 0 0)
  p1 : W.cell? ⟨b, 1, none⟩ = some (.int .i64 0)
  p2 : W.cell? ⟨b, 2, none⟩ = some (.int .i64 0)
  p3 : W.cell? ⟨b, 3, none⟩ = some (.int .i64 0)
  pf : ∀ j, W.frozen? ⟨b, j, none⟩ = false
theorem Four.go {b B : Nat} {W W' : World} (h : Four b W) (hb : Below B W W') (hB : b < B) : Four b W' :=
  ⟨(hb.cell (p := ⟨b, 0, none⟩) hB).trans h.p0, (hb.cell (p := ⟨b, 1, none⟩) hB).trans h.p1, (hb.cell (p := ⟨b, 2, none⟩) hB).trans h.p2, (hb.cell (p := ⟨b, 3, none⟩) hB).trans h.p3, fun j => (hb.frozen (p := ⟨b, j, none⟩) hB).trans (h.pf j)⟩

set_option maxRecDepth 100000 in
set_option maxHeartbeats 4000000 in
theorem parse_cut (k : Nat) (s : List UInt8) (w : World) (hE : Env w) (hk5 : k < 5) (hl : s.length ≤ 255) (h0 : Toks.lexErr ((k : Int) + 1) s ≠ 0)
    (hs : ∀ x ∈ pToks ((k : Int) + 1) s, x.text.length ≤ 1000) (hlen : (pToks ((k : Int) + 1) s).length ≤ 900) :
    Calls Tryz.prog 17 #[.int .i64 ((k : Int) + 1), .string (bs s)] w (TreeEnd k (pToks ((k : Int) + 1) s) (s.length : Int) w) := by
  obtain ⟨h14, hat, hpt⟩ := toks_cut hk5 hl h0
  have hu1 := alloc_own w (.cells #[.slice none 0 0, .int .i64 0, .int .i64 0, .int .i64 0] 37)
  have hE1 := hE.go hu1
  have hX := lex_any ((k : Int) + 1) s _ hE1 (by omega)
  have hF : Four w.heap.size (w.alloc (.cells #[.slice none 0 0, .int .i64 0, .int .i64 0, .int .i64 0] 37)) := ⟨by simp [go_sem], by simp [go_sem], by simp [go_sem], by simp [go_sem], fun j => by simp [go_sem]⟩
  have hzi : ((bs s).size : Int) = (s.length : Int) := by rw [bs_size]
  have hli : (s.length : Int) ≤ 255 := by omega
  go_enter Tryz.func17, Tryz.ntmps17
  go_wp2_with fail
  generalize w.alloc (.cells #[.slice none 0 0, .int .i64 0, .int .i64 0, .int .i64 0] 37) = W1 at *
  refine hX.mono ?_
  rintro e w1 ⟨⟨o, c, rfl, hT, hA⟩, hb1⟩
  rw [h14, hat]
  have hlt := cell_lt hF.p0
  have hb1z := hb1.size
  have hu1z := hu1.size
  have hF1 := hF.go hb1 hlt
  have hu := hu1.trans (hb1.mono hu1.size)
  have hE2 := hE1.go hb1
  rw [hpt] at hs hlen
  have hpt' := Lib.hid hpt
  generalize (Toks.lexToks ((k : Int) + 1) s).length = ll at *
  generalize endOf ((k : Int) + 1) s = z at *
  clear hX hF hb1 hu1 hT hA hE hE1 h0 h14 hat hpt
  go_wp2_with fail
  refine (each_any ((k : Int) + 1) s w1 hE2).mono ?_
  rintro e w2 ⟨rfl, hb2, hSp, _⟩
  have hb2z := hb2.size
  have hF2 := hF1.go hb2 (by omega)
  have hu2 := hu.trans (hb2.mono (by omega))
  have hE3 := hE2.go hb2
  clear hb2 hF1 hu hE2
  go_wp2_with fail
  refine (collect_any _ s w2 _ _ w1.heap.size hSp (by omega)).mono ?_
  rintro e w3 ⟨⟨o3, c3, rfl, hT3, hA3⟩, hb3⟩
  have hb3z := hb3.size
  have hF3 := hF2.go hb3 (by omega)
  have hu3 := hu2.trans (hb3.mono (by omega))
  have hti : TI w2.heap.size w3 (.slice o3 (Toks.toks ((k : Int) + 1) s).length c3) (Toks.toks ((k : Int) + 1) s) w3 := ⟨hT3, hA3, Below.refl _ _⟩
  obtain ⟨V, sl, happ, ⟨o', c', rfl⟩, hTI, hsz, _⟩ := hti.more hb3z (by rw [List.length_append] at hlen; omega) ⟨0, z, [], 0⟩
  dsimp only at happ
  have hF4 := hF3.go hTI.below (by omega)
  have hE5 := hE3.go (hb3.trans hTI.below)
  have hu4 := hu3.trans (hTI.below.mono (by omega))
  have hTr := tree_any k _ _ (s.length : Int) V hk5 hTI.at_ hE5.sts hs hlen
  rw [← hpt'.out] at hTr
  clear hF2 hF3 hb3 hu3 hu2 hTI hti hT3 hA3 hSp hE3 hE5 hs hlen
  generalize (Toks.toks ((k : Int) + 1) s).length = lt at *
  generalize pToks ((k : Int) + 1) s = L at *
  clear hpt'
  go_wp2_with (first | (at_builtin; refine wpList_app rfl _ _ 58 58 rfl happ ?_) | fail)
  refine hTr.mono ?_
  rintro e w4 ⟨hb4, hEnd⟩
  have hb4z := hb4.size
  have hu5 := hu4.trans (hb4.mono (by omega))
  have hF5 := hF4.go hb4 (by omega)
  have hl5 := cell_lt hF5.p0
  obtain ⟨r0, r1, r2, r3, rf⟩ := hF5
  have f0 := rf 0
  have f1 := rf 1
  have f2 := rf 2
  have f3 := rf 3
  clear hTr hF4 hb4 hu4 happ rf
  cases hR : treeAll k L (s.length : Int) with
  | error x =>
    obtain ⟨err, pl, ln⟩ := x
    rw [hR] at hEnd
    dsimp only at hEnd
    subst hEnd
    obtain ⟨ho, x0, x1, x2, x3⟩ := laid4 (.slice none 0 0) (.int .i64 err) (.int .i64 pl) (.int .i64 ln) r0 r1 r2 r3
    have HE := Lib.hid (hu5.trans (ho.below (Nat.le_refl _)))
    have HR := Lib.hid hR
    clear hR hu5 ho
    have HX := Lib.hid (And.intro x0 (And.intro x1 (And.intro x2 x3)))
    clear x0 x1 x2 x3
    go_wp2_with fail
    obtain ⟨x0, x1, x2, x3⟩ := HX.out
    refine bodyPost_ret (v := .agg #[.slice none 0 0, .int .i64 err, .int .i64 pl, .int .i64 ln]) (by simp [results, Tryz.results17, go_sem, x0, x1, x2, x3]) rfl ⟨HE.out, ?_⟩
    rw [HR.out]
  | ok T =>
    rw [hR] at hEnd
    obtain ⟨v, rfl, hSt, hAb⟩ := hEnd
    obtain ⟨ov, cv, rfl⟩ := SliceAt.slice hSt
    obtain ⟨ho, x0, x1, x2, x3⟩ := laid4 (.slice ov T.length cv) (.int .i64 0) (.int .i64 (s.length : Int)) (.int .i64 0) r0 r1 r2 r3
    have hSt5 := hSt.but (But.only ho) (hAb.mono (by omega))
    have HE := Lib.hid (And.intro (hu5.trans (ho.below (Nat.le_refl _))) hSt5)
    have HR := Lib.hid hR
    have HA := Lib.hid (hAb.mono (show w.heap.size ≤ V.heap.size by omega))
    clear hR hu5 ho hSt hSt5 hAb
    have HX := Lib.hid (And.intro x0 (And.intro x1 (And.intro x2 x3)))
    clear x0 x1 x2 x3
    go_wp2_with fail
    obtain ⟨x0, x1, x2, x3⟩ := HX.out
    refine bodyPost_ret (v := .agg #[.slice ov T.length cv, .int .i64 0, .int .i64 (s.length : Int), .int .i64 0]) (by simp [results, Tryz.results17, go_sem, x0, x1, x2, x3]) rfl ⟨HE.out.1, ?_⟩
    rw [HR.out]
    exact ⟨_, rfl, HE.out.2, HA.out⟩

theorem tok_short (n : Int) (s : List UInt8) : (∀ x ∈ pToks n s, x.text.length ≤ s.length) ∧ (pToks n s).length ≤ s.length + 1 := by
  constructor
  · intro x hx
    unfold pToks at hx
    rcases List.mem_append.1 hx with h | h
    · obtain ⟨y, hy, rfl⟩ := List.mem_map.1 h
      exact lex_short n s.length 0 s (Nat.le_refl _) y hy
    · split at h
      · rw [List.mem_singleton] at h
        subst h; simp
      · cases h
  · unfold pToks
    rw [List.length_append, List.length_map]
    have := Toks.lex_len n s
    split
    · simp only [List.length_cons, List.length_nil]; omega
    · simp only [List.length_nil]; omega
/-- P11.2, in the five notations, of a text that is not too long. -/
theorem parse_any (k : Nat) (s : List UInt8) (w : World) (hE : Env w) (hk5 : k < 5) (hl : s.length ≤ 255) :
    Calls Tryz.prog 17 #[.int .i64 ((k : Int) + 1), .string (bs s)] w (TreeEnd k (pToks ((k : Int) + 1) s) (s.length : Int) w) := by
  by_cases h0 : Toks.lexErr ((k : Int) + 1) s = 0
  · obtain ⟨h1, h2⟩ := toks_told hk5 hl h0
    rw [← h1, ← h2]
    exact parse_told k s w hE hk5 hl h0
  · obtain ⟨h1, h2⟩ := tok_short ((k : Int) + 1) s
    exact parse_cut k s w hE hk5 hl h0 (fun x hx => by have := h1 x hx; omega) (by omega)

end Go.Proofs.YthofogokpolhdaaGreatDoor.Parses

namespace Go.Proofs.YthofogokpolhdaaGreatDoor.Parses
open Go.RowKit Go.Shelf
open Go.Proofs.YthofogokpolhdaaGreatDoor.Trees (Stp StepsAt cellS But)
open Go.Proofs.YthofogokpolhdaaGreatDoor.Toks (Tok ToksAt cell_lt cell_same SliceAt Above Grid Env)
open Go.Proofs.YthofogokpolhdaaGreatDoor.Style (bs bs_size isN Styles)
set_option linter.unusedVariables false
set_option linter.unusedSimpArgs false

def restN (x : Int) (n : Nat) : Nat := (x % (n : Int)).toNat
theorem restN_lt (x : Int) (n : Nat) (h : 0 < n) : restN x n < n := by
  have h1 := Int.emod_lt_of_pos x (show (0 : Int) < n by omega)
  have h2 := Int.emod_nonneg x (show (n : Int) ≠ 0 by omega)
  unfold restN; omega
theorem rest_eq (x n : Int) : (x.tmod n + n) % n = x % n := by
  have h := Int.mul_tdiv_add_tmod x n
  rw [Int.add_emod_right]
  calc x.tmod n % n = (x.tmod n + n * x.tdiv n) % n := by rw [Int.add_mul_emod_self_left]
    _ = x % n := by rw [Int.add_comm, h]

theorem rest_any (x : Int) (n : Nat) (w : World) (h : 1 ≤ n) (hn : n ≤ 1000000) :
    Calls Tryz.prog 11 #[.int .i64 x, .int .i64 n] w fun e w' => e = .returned (.int .i64 (restN x n)) ∧ w = w' := by
  have hn0 : (0 : Int) < n := by omega
  have hnn : ¬ (n : Int) = 0 := by omega
  have hle : (n : Int) ≤ 1000000 := by omega
  have hl : -(n : Int) < x.tmod n := Int.lt_tmod_of_pos x hn0
  have hr : x.tmod n < n := Int.tmod_lt_of_pos x hn0
  have HE := Lib.hid (rest_eq x n)
  have HN : Hid (((restN x n : Nat) : Int) = x % (n : Int)) := by
    show _ = _
    have := Int.emod_nonneg x hnn
    unfold restN; omega
  go_enter Tryz.func11, Tryz.ntmps11
  go_wp2
  go_ret
  exact ⟨by rw [HE.out, HN.out]; rfl, rfl⟩

/-! ### The examples -/

def txA : List UInt8 := [47, 109, 46, 115, 45, 50]
def txB : List UInt8 := [109, 41]
def txC : List UInt8 := [109, 103, 47, 120, 121, 122]
def okA : Bool := match treeAll 0 (pToks 1 txA) 6 with
  | .ok T => T.length == 4 && ((T.getD 1 default).op == 5 && (T.getD 2 default).n == -2)
  | .error _ => false
theorem exA : okA = true := by kernel_rfl
theorem exA' : ∃ T, treeAll 0 (pToks 1 txA) 6 = .ok T ∧ T.length = 4 ∧ (T.getD 1 default).op = 5 ∧ (T.getD 2 default).n = -2 := by
  have h := exA
  unfold okA at h
  split at h
  · rename_i T hT
    rw [Bool.and_eq_true, Bool.and_eq_true, beq_iff_eq, beq_iff_eq, beq_iff_eq] at h
    exact ⟨T, hT, h.1, h.2.1, h.2.2⟩
  · cases h
def errZ (r : Except (Int × Int × Int) (List Stp)) (a b c : Int) : Bool := match r with
  | .error (x, y, z) => x == a && (y == b && z == c)
  | .ok _ => false
theorem err_of {r : Except (Int × Int × Int) (List Stp)} {a b c : Int} (h : errZ r a b c = true) : r = .error (a, b, c) := by
  unfold errZ at h
  split at h
  · rw [Bool.and_eq_true, Bool.and_eq_true, beq_iff_eq, beq_iff_eq, beq_iff_eq] at h
    obtain ⟨rfl, rfl, rfl⟩ := h
    rfl
  · cases h
theorem exB : errZ (treeAll 0 (pToks 1 txB) 2) 14 1 0 = true := by kernel_rfl
theorem exC : errZ (treeAll 0 (pToks 1 txC) 6) 15 3 3 = true := by kernel_rfl

/-- What Parse hands back, where there is a tree; where there is none. -/
theorem end_ok {k : Nat} {L : List Tok} {size : Int} {w w' : World} {e : Ending} (h : TreeEnd k L size w e w') {T : List Stp} (hT : treeAll k L size = .ok T) : ∃ o c, e = .returned (.agg #[.slice o T.length c, .int .i64 0, .int .i64 size, .int .i64 0]) ∧ StepsAt w' (.slice o T.length c) T ∧ Above w.heap.size (.slice o T.length c) ∧ Below w.heap.size w w' := by
  obtain ⟨hb, h⟩ := h
  rw [hT] at h
  obtain ⟨v, rfl, hs, ha⟩ := h
  obtain ⟨ov, cv, rfl⟩ := SliceAt.slice hs
  exact ⟨ov, cv, rfl, hs, ha, hb⟩
theorem end_err {k : Nat} {L : List Tok} {size : Int} {w w' : World} {e : Ending} (h : TreeEnd k L size w e w') {a b c : Int} (hT : treeAll k L size = .error (a, b, c)) : e = .returned (.agg #[.slice none 0 0, .int .i64 a, .int .i64 b, .int .i64 c]) ∧ Below w.heap.size w w' := by
  obtain ⟨hb, h⟩ := h
  rw [hT] at h
  exact ⟨h, hb⟩
/-- The cells of a row of steps. -/
theorem steps_in {w : World} {o : Option Addr} {c : Nat} {T : List Stp} (h : StepsAt w (.slice o T.length c) T) (h0 : 0 < T.length) : ∃ b, o = some ⟨b, 0, none⟩ ∧ Grid w b 6 T.length (cellS T) := by
  rcases h with ⟨h1, _⟩ | ⟨b, c', hs, _, _, hg⟩
  · omega
  · injection hs with e1 e2 e3
    exact ⟨b, e1, hg⟩

set_option maxRecDepth 100000 in
set_option maxHeartbeats 4000000 in
theorem awake_yes (w : World) (hE : Env w) : Calls Tryz.prog 10 #[] w fun e w' => e = .returned (.bool true) ∧ Below w.heap.size w w' := by
  obtain ⟨T, hT, hl4, hop, hn⟩ := exA'
  have hB := err_of exB
  have hC := err_of exC
  have h1 : Calls Tryz.prog 17 #[.int .i64 1, .string (bs txA)] w (TreeEnd 0 (pToks 1 txA) 6 w) := parse_any 0 txA w hE (by omega) (by decide)
  have h2 : ∀ W, Env W → Calls Tryz.prog 17 #[.int .i64 1, .string (bs txB)] W (TreeEnd 0 (pToks 1 txB) 2 W) := fun W (h : Env W) => parse_any 0 txB W h (by omega) (by decide)
  have h3 : ∀ W, Env W → Calls Tryz.prog 17 #[.int .i64 1, .string (bs txC)] W (TreeEnd 0 (pToks 1 txC) 6 W) := fun W (h : Env W) => parse_any 0 txC W h (by omega) (by decide)
  go_enter Tryz.func10, Tryz.ntmps10
  go_wp2_with fail
  refine h1.mono ?_
  rintro e w1 he
  obtain ⟨o, c, rfl, hS, hA, hb1⟩ := end_ok he hT
  obtain ⟨b, rfl, hg⟩ := steps_in hS (by omega)
  rw [hl4] at hg ⊢
  clear he h1 hT hS hA
  have hu1 := alloc_own w1 (.cells #[.slice (some ⟨b, 0, none⟩) 4 c, .int .i64 0, .int .i64 6, .int .i64 0] 37)
  have hE1 := (hE.go hb1).go hu1
  have hg1 := hg.go hu1
  have hB1 := hb1.trans (hu1.mono hb1.size)
  have y0 : (w1.alloc (.cells #[.slice (some ⟨b, 0, none⟩) 4 c, .int .i64 0, .int .i64 6, .int .i64 0] 37)).cell? ⟨w1.heap.size, 0, none⟩ = some (.slice (some ⟨b, 0, none⟩) 4 c) := by simp [go_sem]
  have y1 : (w1.alloc (.cells #[.slice (some ⟨b, 0, none⟩) 4 c, .int .i64 0, .int .i64 6, .int .i64 0] 37)).cell? ⟨w1.heap.size, 1, none⟩ = some (.int .i64 0) := by simp [go_sem]
  go_wp2_with fail
  generalize w1.alloc (.cells #[.slice (some ⟨b, 0, none⟩) 4 c, .int .i64 0, .int .i64 6, .int .i64 0] 37) = W1 at *
  refine (h2 W1 hE1).mono ?_
  rintro e w2 he
  obtain ⟨rfl, hb2⟩ := end_err he hB
  have hu2 := alloc_own w2 (.cells #[.slice none 0 0, .int .i64 14, .int .i64 1, .int .i64 0] 37)
  have hb2' := hb2.trans (hu2.mono hb2.size)
  have hE2 := hE1.go hb2'
  have hg2 := hg1.go hb2'
  have hB2 := hB1.trans (hb2'.mono hB1.size)
  have y0' := (hb2'.cell (p := ⟨w1.heap.size, 0, none⟩) (cell_lt y0)).trans y0
  have y1' := (hb2'.cell (p := ⟨w1.heap.size, 1, none⟩) (cell_lt y1)).trans y1
  have v1 : (w2.alloc (.cells #[.slice none 0 0, .int .i64 14, .int .i64 1, .int .i64 0] 37)).cell? ⟨w2.heap.size, 1, none⟩ = some (.int .i64 14) := by simp [go_sem]
  have v2 : (w2.alloc (.cells #[.slice none 0 0, .int .i64 14, .int .i64 1, .int .i64 0] 37)).cell? ⟨w2.heap.size, 2, none⟩ = some (.int .i64 1) := by simp [go_sem]
  clear he h2 hB hE1 hg1 hB1 hb2 hu2 y0 y1
  go_wp2_with fail
  generalize w2.alloc (.cells #[.slice none 0 0, .int .i64 14, .int .i64 1, .int .i64 0] 37) = W2 at *
  refine (h3 W2 hE2).mono ?_
  rintro e w3 he
  obtain ⟨rfl, hb3⟩ := end_err he hC
  have hu3 := alloc_own w3 (.cells #[.slice none 0 0, .int .i64 15, .int .i64 3, .int .i64 3] 37)
  have hb3' := hb3.trans (hu3.mono hb3.size)
  have hg3 := hg2.go hb3'
  have hB3 := hB2.trans (hb3'.mono hB2.size)
  have y0 := (hb3'.cell (p := ⟨w1.heap.size, 0, none⟩) (cell_lt y0')).trans y0'
  have y1 := (hb3'.cell (p := ⟨w1.heap.size, 1, none⟩) (cell_lt y1')).trans y1'
  have v1' := (hb3'.cell (p := ⟨w2.heap.size, 1, none⟩) (cell_lt v1)).trans v1
  have v2' := (hb3'.cell (p := ⟨w2.heap.size, 2, none⟩) (cell_lt v2)).trans v2
  have u1 : (w3.alloc (.cells #[.slice none 0 0, .int .i64 15, .int .i64 3, .int .i64 3] 37)).cell? ⟨w3.heap.size, 1, none⟩ = some (.int .i64 15) := by simp [go_sem]
  have u2 : (w3.alloc (.cells #[.slice none 0 0, .int .i64 15, .int .i64 3, .int .i64 3] 37)).cell? ⟨w3.heap.size, 2, none⟩ = some (.int .i64 3) := by simp [go_sem]
  have u3 : (w3.alloc (.cells #[.slice none 0 0, .int .i64 15, .int .i64 3, .int .i64 3] 37)).cell? ⟨w3.heap.size, 3, none⟩ = some (.int .i64 3) := by simp [go_sem]
  have z1 := hg3.1 1 (by omega) 0 (by omega)
  have z2 := hg3.1 2 (by omega) 3 (by omega)
  have e1 : cellS T 1 0 = .int .i64 5 := by unfold cellS Stp.cs; rw [← hop]; rfl
  have e2 : cellS T 2 3 = .int .i64 (-2) := by unfold cellS Stp.cs; rw [← hn]; rfl
  rw [e1] at z1
  rw [e2] at z2
  simp only [Nat.reduceMul, Nat.reduceAdd] at z1 z2
  have HB := Lib.hid hB3
  clear he h3 hC hg hg2 hg3 hE hE2 e1 e2 hb1 hb2' hb3 hb3' hu3 hl4 hop hn y0' y1' v1 v2 hB2 hB3
  go_wp2_with fail
  generalize w3.alloc (.cells #[.slice none 0 0, .int .i64 15, .int .i64 3, .int .i64 3] 37) = W3 at *
  go_wp2
  go_ret
  exact ⟨rfl, HB.out⟩

end Go.Proofs.YthofogokpolhdaaGreatDoor.Parses


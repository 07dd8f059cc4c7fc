/-
  Contract of package parse's Parse, at any text of up to 255 bytes, in the five notations.
-/
import Derived.Test.YthofogokpolhdaaGreatDoorRY
import Derived.Test.YthofogokpolhdaaGreatDoorRZ
import Derived.Test.YthofogokpolhdaaGreatDoorPX
namespace Go.Proofs.YthofogokpolhdaaGreatDoor.Parses
open Go.RowKit Go.Shelf
open Go.Proofs.YthofogokpolhdaaGreatDoor.Trees (Stp StepsAt But)
open Go.Proofs.YthofogokpolhdaaGreatDoor.Toks (Tok ToksAt cell_lt cell_same SliceAt Above Env LexEnd lex_any TI EachEnd each_any collect_any wpList_app)
open Go.Proofs.YthofogokpolhdaaGreatDoor.Style (bs bs_size isN Styles)
set_option linter.unusedVariables false
set_option linter.unusedSimpArgs false

theorem five {k : Nat} (hk : k < 5) : isN ((k : Int) + 1) = true := by
  match k, hk with
  | 0, _ => rfl
  | 1, _ => rfl
  | 2, _ => rfl
  | 3, _ => rfl
  | 4, _ => rfl
theorem toks_told {k : Nat} (hk : k < 5) {s : List UInt8} (hl : s.length ≤ 255) (h0 : Toks.lexErr ((k : Int) + 1) s = 0) : Toks.lexToks ((k : Int) + 1) s = pToks ((k : Int) + 1) s ∧ Toks.lexAt ((k : Int) + 1) s = s.length := by
  have hf := five hk
  have he : ¬ Toks.endL 0 (Toks.lexL ((k : Int) + 1) 0 s) < s.length := by
    intro h
    unfold Toks.lexErr at h0
    rw [if_neg (by rw [hf]; simp), if_neg (by omega), if_pos h] at h0
    cases h0
  have hen := Toks.lex_end ((k : Int) + 1) s
  constructor
  · unfold Toks.lexToks pToks endOf
    rw [if_pos h0, if_neg he, List.append_nil]; rfl
  · unfold Toks.lexAt
    rw [if_neg (by rw [hf]; simp; omega)]
    omega
theorem toks_cut {k : Nat} (hk : k < 5) {s : List UInt8} (hl : s.length ≤ 255) (h0 : Toks.lexErr ((k : Int) + 1) s ≠ 0) : Toks.lexErr ((k : Int) + 1) s = 14 ∧ Toks.lexAt ((k : Int) + 1) s = endOf ((k : Int) + 1) s ∧ pToks ((k : Int) + 1) s = Toks.toks ((k : Int) + 1) s ++ [⟨0, endOf ((k : Int) + 1) s, [], 0⟩] := by
  have hf := five hk
  have he : Toks.endL 0 (Toks.lexL ((k : Int) + 1) 0 s) < s.length := by
    by_cases h : Toks.endL 0 (Toks.lexL ((k : Int) + 1) 0 s) < s.length
    · exact h
    · exfalso
      apply h0
      unfold Toks.lexErr
      rw [if_neg (by rw [hf]; simp), if_neg (by omega), if_neg h]
  refine ⟨?_, ?_, ?_⟩
  · unfold Toks.lexErr
    rw [if_neg (by rw [hf]; simp), if_neg (by omega), if_pos he]
  · unfold Toks.lexAt
    rw [if_neg (by rw [hf]; simp; omega)]; rfl
  · unfold pToks
    rw [if_pos (show endOf ((k : Int) + 1) s < s.length from he)]; rfl

/-- The answer's four cells, as they are made. -/
structure Four (b : Nat) (W : World) : Prop where
  p0 : W.cell? ⟨b, 0, none⟩ = some (.slice none 0 0)
  p1 : W.cell? ⟨b, 1, none⟩ = some (.int .i64 0)
  p2 : W.cell? ⟨b, 2, none⟩ = some (.int .i64 0)
  p3 : W.cell? ⟨b, 3, none⟩ = some (.int .i64 0)
  pf : ∀ j, W.frozen? ⟨b, j, none⟩ = false
theorem Four.go {b B : Nat} {W W' : World} (h : Four b W) (hb : Below B W W') (hB : b < B) : Four b W' :=
  ⟨(hb.cell (p := ⟨b, 0, none⟩) hB).trans h.p0, (hb.cell (p := ⟨b, 1, none⟩) hB).trans h.p1, (hb.cell (p := ⟨b, 2, none⟩) hB).trans h.p2, (hb.cell (p := ⟨b, 3, none⟩) hB).trans h.p3, fun j => (hb.frozen (p := ⟨b, j, none⟩) hB).trans (h.pf j)⟩

set_option maxRecDepth 100000 in
set_option maxHeartbeats 4000000 in
theorem parse_cut (k : Nat) (s : List UInt8) (w : World) (hE : Env w) (hk5 : k < 5) (hl : s.length ≤ 255) (h0 : Toks.lexErr ((k : Int) + 1) s ≠ 0)
    (hs : ∀ x ∈ pToks ((k : Int) + 1) s, x.text.length ≤ 1000) (hlen : (pToks ((k : Int) + 1) s).length ≤ 900) :
    Calls Tryz.prog 17 #[.int .i64 ((k : Int) + 1), .string (bs s)] w (TreeEnd k (pToks ((k : Int) + 1) s) (s.length : Int) w) := by
  obtain ⟨h14, hat, hpt⟩ := toks_cut hk5 hl h0
  have hu1 := alloc_own w (.cells #[.slice none 0 0, .int .i64 0, .int .i64 0, .int .i64 0] 37)
  have hE1 := hE.go hu1
  have hX := lex_any ((k : Int) + 1) s _ hE1 (by omega)
  have hF : Four w.heap.size (w.alloc (.cells #[.slice none 0 0, .int .i64 0, .int .i64 0, .int .i64 0] 37)) := ⟨by simp [go_sem], by simp [go_sem], by simp [go_sem], by simp [go_sem], fun j => by simp [go_sem]⟩
  have hzi : ((bs s).size : Int) = (s.length : Int) := by rw [bs_size]
  have hli : (s.length : Int) ≤ 255 := by omega
  go_enter Tryz.func17, Tryz.ntmps17
  go_wp2_with fail
  generalize w.alloc (.cells #[.slice none 0 0, .int .i64 0, .int .i64 0, .int .i64 0] 37) = W1 at *
  refine hX.mono ?_
  rintro e w1 ⟨⟨o, c, rfl, hT, hA⟩, hb1⟩
  rw [h14, hat]
  have hlt := cell_lt hF.p0
  have hb1z := hb1.size
  have hu1z := hu1.size
  have hF1 := hF.go hb1 hlt
  have hu := hu1.trans (hb1.mono hu1.size)
  have hE2 := hE1.go hb1
  rw [hpt] at hs hlen
  have hpt' := Lib.hid hpt
  generalize (Toks.lexToks ((k : Int) + 1) s).length = ll at *
  generalize endOf ((k : Int) + 1) s = z at *
  clear hX hF hb1 hu1 hT hA hE hE1 h0 h14 hat hpt
  go_wp2_with fail
  refine (each_any ((k : Int) + 1) s w1 hE2).mono ?_
  rintro e w2 ⟨rfl, hb2, hSp, _⟩
  have hb2z := hb2.size
  have hF2 := hF1.go hb2 (by omega)
  have hu2 := hu.trans (hb2.mono (by omega))
  have hE3 := hE2.go hb2
  clear hb2 hF1 hu hE2
  go_wp2_with fail
  refine (collect_any _ s w2 _ _ w1.heap.size hSp (by omega)).mono ?_
  rintro e w3 ⟨⟨o3, c3, rfl, hT3, hA3⟩, hb3⟩
  have hb3z := hb3.size
  have hF3 := hF2.go hb3 (by omega)
  have hu3 := hu2.trans (hb3.mono (by omega))
  have hti : TI w2.heap.size w3 (.slice o3 (Toks.toks ((k : Int) + 1) s).length c3) (Toks.toks ((k : Int) + 1) s) w3 := ⟨hT3, hA3, Below.refl _ _⟩
  obtain ⟨V, sl, happ, ⟨o', c', rfl⟩, hTI, hsz, _⟩ := hti.more hb3z (by rw [List.length_append] at hlen; omega) ⟨0, z, [], 0⟩
  dsimp only at happ
  have hF4 := hF3.go hTI.below (by omega)
  have hE5 := hE3.go (hb3.trans hTI.below)
  have hu4 := hu3.trans (hTI.below.mono (by omega))
  have hTr := tree_any k _ _ (s.length : Int) V hk5 hTI.at_ hE5.sts hs hlen
  rw [← hpt'.out] at hTr
  clear hF2 hF3 hb3 hu3 hu2 hTI hti hT3 hA3 hSp hE3 hE5 hs hlen
  generalize (Toks.toks ((k : Int) + 1) s).length = lt at *
  generalize pToks ((k : Int) + 1) s = L at *
  clear hpt'
  go_wp2_with (first | (at_builtin; refine wpList_app rfl _ _ 58 58 rfl happ ?_) | fail)
  refine hTr.mono ?_
  rintro e w4 ⟨hb4, hEnd⟩
  have hb4z := hb4.size
  have hu5 := hu4.trans (hb4.mono (by omega))
  have hF5 := hF4.go hb4 (by omega)
  have hl5 := cell_lt hF5.p0
  obtain ⟨r0, r1, r2, r3, rf⟩ := hF5
  have f0 := rf 0
  have f1 := rf 1
  have f2 := rf 2
  have f3 := rf 3
  clear hTr hF4 hb4 hu4 happ rf
  cases hR : treeAll k L (s.length : Int) with
  | error x =>
    obtain ⟨err, pl, ln⟩ := x
    rw [hR] at hEnd
    dsimp only at hEnd
    subst hEnd
    obtain ⟨ho, x0, x1, x2, x3⟩ := laid4 (.slice none 0 0) (.int .i64 err) (.int .i64 pl) (.int .i64 ln) r0 r1 r2 r3
    have HE := Lib.hid (hu5.trans (ho.below (Nat.le_refl _)))
    have HR := Lib.hid hR
    clear hR hu5 ho
    have HX := Lib.hid (And.intro x0 (And.intro x1 (And.intro x2 x3)))
    clear x0 x1 x2 x3
    go_wp2_with fail
    obtain ⟨x0, x1, x2, x3⟩ := HX.out
    refine bodyPost_ret (v := .agg #[.slice none 0 0, .int .i64 err, .int .i64 pl, .int .i64 ln]) (by simp [results, Tryz.results17, go_sem, x0, x1, x2, x3]) rfl ⟨HE.out, ?_⟩
    rw [HR.out]
  | ok T =>
    rw [hR] at hEnd
    obtain ⟨v, rfl, hSt, hAb⟩ := hEnd
    obtain ⟨ov, cv, rfl⟩ := SliceAt.slice hSt
    obtain ⟨ho, x0, x1, x2, x3⟩ := laid4 (.slice ov T.length cv) (.int .i64 0) (.int .i64 (s.length : Int)) (.int .i64 0) r0 r1 r2 r3
    have hSt5 := hSt.but (But.only ho) (hAb.mono (by omega))
    have HE := Lib.hid (And.intro (hu5.trans (ho.below (Nat.le_refl _))) hSt5)
    have HR := Lib.hid hR
    have HA := Lib.hid (hAb.mono (show w.heap.size ≤ V.heap.size by omega))
    clear hR hu5 ho hSt hSt5 hAb
    have HX := Lib.hid (And.intro x0 (And.intro x1 (And.intro x2 x3)))
    clear x0 x1 x2 x3
    go_wp2_with fail
    obtain ⟨x0, x1, x2, x3⟩ := HX.out
    refine bodyPost_ret (v := .agg #[.slice ov T.length cv, .int .i64 0, .int .i64 (s.length : Int), .int .i64 0]) (by simp [results, Tryz.results17, go_sem, x0, x1, x2, x3]) rfl ⟨HE.out.1, ?_⟩
    rw [HR.out]
    exact ⟨_, rfl, HE.out.2, HA.out⟩

theorem tok_short (n : Int) (s : List UInt8) : (∀ x ∈ pToks n s, x.text.length ≤ s.length) ∧ (pToks n s).length ≤ s.length + 1 := by
  constructor
  · intro x hx
    unfold pToks at hx
    rcases List.mem_append.1 hx with h | h
    · obtain ⟨y, hy, rfl⟩ := List.mem_map.1 h
      exact lex_short n s.length 0 s (Nat.le_refl _) y hy
    · split at h
      · rw [List.mem_singleton] at h
        subst h; simp
      · cases h
  · unfold pToks
    rw [List.length_append, List.length_map]
    have := Toks.lex_len n s
    split
    · simp only [List.length_cons, List.length_nil]; omega
    · simp only [List.length_nil]; omega
/-- P11.2, in the five notations, of a text that is not too long. -/
theorem parse_any (k : Nat) (s : List UInt8) (w : World) (hE : Env w) (hk5 : k < 5) (hl : s.length ≤ 255) :
    Calls Tryz.prog 17 #[.int .i64 ((k : Int) + 1), .string (bs s)] w (TreeEnd k (pToks ((k : Int) + 1) s) (s.length : Int) w) := by
  by_cases h0 : Toks.lexErr ((k : Int) + 1) s = 0
  · obtain ⟨h1, h2⟩ := toks_told hk5 hl h0
    rw [← h1, ← h2]
    exact parse_told k s w hE hk5 hl h0
  · obtain ⟨h1, h2⟩ := tok_short ((k : Int) + 1) s
    exact parse_cut k s w hE hk5 hl h0 (fun x hx => by have := h1 x hx; omega) (by omega)

end Go.Proofs.YthofogokpolhdaaGreatDoor.Parses

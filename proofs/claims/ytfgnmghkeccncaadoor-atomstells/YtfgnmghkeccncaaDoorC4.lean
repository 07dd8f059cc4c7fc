/-
  The walk of AtomsTells.
-/
import Derived.Test.YtfgnmghkeccncaaDoorC3
import Derived.Test.YtfgnmghkeccncaaDoorAZ
namespace Go.Proofs.YtfgnmghkeccncaaDoor.Atoms
open Go.RowKit Go.Shelf
set_option linter.unusedVariables false
set_option linter.unusedSimpArgs false

/-- A table in a box. -/
structure BoxAt (B : Nat) (W : World) (bx : Nat) (b c p cp : Nat) (S : Nat → Value) : Prop where
  b0 : W.cell? ⟨bx, 0, none⟩ = some (.slice (some ⟨b, 0, none⟩) 48 c)
  b1 : W.cell? ⟨bx, 1, none⟩ = some (.slice (some ⟨p, 0, none⟩) 20 cp)
  grid : Grid W b 12 48 (cellA tableRs S)
  terms : TermsAll W tableRs S
  prefs : Grid W p 6 20 (cellP tablePs)
  bx_ : B ≤ bx
  bb : B ≤ b
  bp : B ≤ p
  at_ : ∀ i, i < 48 → Above B (S i)
theorem BoxAt.kept {B : Nat} {V V' : World} {bx b c p cp : Nat} {S : Nat → Value} (h : BoxAt B V bx b c p cp S) (hk : Kept B V.heap.size V V') : BoxAt B V' bx b c p cp S :=
  ⟨cell_same h.b0 (hk.block _ h.bx_ (cell_lt h.b0)), cell_same h.b1 (hk.block _ h.bx_ (cell_lt h.b1)), h.grid.kept h.bb hk, fun i hi => SliceAt.kept (h.terms i hi) (h.at_ i (by rw [len_T] at hi; exact hi)) hk, h.prefs.kept h.bp hk, h.bx_, h.bb, h.bp, h.at_⟩
theorem BoxAt.go {B : Nat} {V V' : World} {bx b c p cp : Nat} {S : Nat → Value} (h : BoxAt B V bx b c p cp S) (hb : Below V.heap.size V V') : BoxAt B V' bx b c p cp S := h.kept (Kept.of hb (Nat.le_refl _))
theorem BoxAt.mono {B B' : Nat} {V : World} {bx b c p cp : Nat} {S : Nat → Value} (h : BoxAt B V bx b c p cp S) (hB : B' ≤ B) : BoxAt B' V bx b c p cp S :=
  ⟨h.b0, h.b1, h.grid, h.terms, h.prefs, Nat.le_trans hB h.bx_, Nat.le_trans hB h.bb, Nat.le_trans hB h.bp, fun i hi => (h.at_ i hi).mono hB⟩
/-- A table that was told, in its box. -/
theorem box_of {w w2 : World} {sa sp : Value} {S : Nat → Value} (h : TableAt w.heap.size w2 sa sp tableRs S tablePs) (hb : Below w.heap.size w w2) :
    ∃ b c p cp, sa = .slice (some ⟨b, 0, none⟩) 48 c ∧ sp = .slice (some ⟨p, 0, none⟩) 20 cp ∧ b < w2.heap.size ∧ p < w2.heap.size ∧ (∀ i, i < 48 → ∀ a n c, S i = .slice (some a) n c → a.block < w2.heap.size) ∧ BoxAt w.heap.size (w2.alloc (.cells #[.slice (some ⟨b, 0, none⟩) 48 c, .slice (some ⟨p, 0, none⟩) 20 cp] 27)) w2.heap.size b c p cp S := by
  obtain ⟨b, c, rfl, hc, hsp, hg⟩ := SliceAt.atoms h.atoms (by rw [len_T]; omega)
  obtain ⟨p, cp, rfl, hgp⟩ : ∃ p c2, sp = .slice (some ⟨p, 0, none⟩) tablePs.length c2 ∧ Grid w2 p 6 tablePs.length (cellP tablePs) := by
    rcases h.prefs with ⟨h0, _⟩ | ⟨p, c2, hs, _, _, hgp⟩
    · rw [len_P] at h0; omega
    · exact ⟨p, c2, hs, hgp⟩
  have hbb := h.aa _ _ _ rfl
  have hbp := h.ap _ _ _ rfl
  have hat := h.at_
  have hts := h.atoms.2
  rw [len_T] at hg hat ⊢
  rw [len_P] at hgp ⊢
  have hu : Below w2.heap.size w2 (w2.alloc (.cells #[.slice (some ⟨b, 0, none⟩) 48 c, .slice (some ⟨p, 0, none⟩) 20 cp] 27)) := by go_grown
  refine ⟨b, c, p, cp, rfl, rfl, hg.2.2, hgp.2.2, fun i hi a n c' e => ?_, ⟨by simp [go_sem], by simp [go_sem], hg.go hu, hts.go hu, hgp.go hu, hb.size, hbb, hbp, hat⟩⟩
  rcases hts i (by rw [len_T]; exact hi) with ⟨_, h0⟩ | ⟨b', c'', he, _, _, hg'⟩
  · rw [h0] at e; cases e
  · rw [he] at e
    injection e with e1
    injection e1 with e1
    rw [← e1]
    exact hg'.2.2

/-- What stands while the terms are written. -/
structure TellsI (w : World) (lo : Nat) (V wr : World) (bx ba ca q : Nat) (oa : Option Addr) (n ta : Nat) : Prop where
  c0 : wr.cell? ⟨bx, 0, none⟩ = some (.slice (some ⟨ba, 0, none⟩) 48 ca)
  c11 : wr.cell? ⟨ba, q * 12 + 11, none⟩ = some (.slice oa n ta)
  sp : ∀ bt, oa = some ⟨bt, 0, none⟩ → 0 < n → Spare wr bt (n * 2) ∧ ∀ j, wr.frozen? ⟨bt, j, none⟩ = false
  kept : Kept lo V.heap.size V wr
  below : Below w.heap.size w wr
theorem TellsI.set {w : World} {lo : Nat} {V wr : World} {bx ba ca q : Nat} {oa : Option Addr} {n ta : Nat} (h : TellsI w lo V wr bx ba ca q oa n ta) (b j : Nat) (u : Value)
    (h1 : b ≠ bx) (h2 : b ≠ ba) (h3 : b < lo) (h4 : w.heap.size ≤ b) : TellsI w lo V (wr.setCell ⟨b, j, none⟩ u) bx ba ca q oa n ta := by
  refine ⟨?_, ?_, fun bt hbt h0 => ⟨(h.sp bt hbt h0).1.set _ _ _, fun i => ?_⟩, ⟨?_, fun kk k1 k2 => ?_⟩, h.below.setCell (p := ⟨b, j, none⟩) h4 _⟩
  · rw [World.cell?_setCell_other _ _ _ _ (by intro hh; injection hh with e1 e2; exact h1 e1)]; exact h.c0
  · rw [World.cell?_setCell_other _ _ _ _ (by intro hh; injection hh with e1 e2; exact h2 e1)]; exact h.c11
  · rw [World.frozen?_setCell]; exact (h.sp bt hbt h0).2 i
  · rw [World.size_setCell]; exact h.kept.1
  · rw [Below.heap_setCell _ ⟨b, j, none⟩ _ kk (by show kk ≠ b; omega)]; exact h.kept.2 kk k1 k2

attribute [local irreducible] tableRs tablePs

set_option maxRecDepth 100000 in
set_option maxHeartbeats 16000000 in
theorem tells_walk (atom prf : Int) (w : World) (hT : Frac.OfTen w) :
    Calls Tryd.prog 3 #[.int .i64 atom, .int .i64 prf] w fun e w' => e = .returned (.bool true) ∧ Below w.heap.size w w' := by
  obtain ⟨q, hq⟩ : ∃ q, restN atom 48 = q := ⟨_, rfl⟩
  obtain ⟨k, hk⟩ : ∃ k, restN prf 20 = k := ⟨_, rfl⟩
  have q48 : q < 48 := by rw [← hq]; exact restN_lt atom 48 (by omega)
  have k20 : k < 20 := by rw [← hk]; exact restN_lt prf 20 (by omega)
  have ra := fun W => rest_any atom 48 W (by omega) (by omega)
  have rp := fun W => rest_any prf 20 W (by omega) (by omega)
  rw [hq] at ra
  rw [hk] at rp
  clear hq hk
  have iq : (q : Int) < 48 := by omega
  have ik : (k : Int) < 20 := by omega
  go_enter Tryd.func3, Tryd.ntmps3
  go_wp2_with fail
  refine (awake_yes w hT).mono ?_
  rintro e w1 ⟨rfl, hb1⟩
  go_wp2_with fail
  refine (ra _).mono ?_
  rintro e w' ⟨rfl, rfl⟩
  go_wp2_with fail
  refine (rp _).mono ?_
  rintro e w' ⟨rfl, rfl⟩
  go_wp2_with fail
  refine (table_any w1).mono ?_
  rintro e w2 ⟨sa, sp, SA, rfl, hTA, hb2⟩
  obtain ⟨ba, ca, pa, cpa, rfl, rfl, lba, lpa, huA, hA⟩ := box_of hTA hb2
  have hB := hb1.trans (hb2.mono hb1.size)
  have hu : Below w2.heap.size w2 (w2.alloc (.cells #[.slice (some ⟨ba, 0, none⟩) 48 ca, .slice (some ⟨pa, 0, none⟩) 20 cpa] 27)) := by go_grown
  have hz3 : (w2.alloc (.cells #[.slice (some ⟨ba, 0, none⟩) 48 ca, .slice (some ⟨pa, 0, none⟩) 20 cpa] 27)).heap.size = w2.heap.size + 1 := World.size_alloc _ _
  replace hB := hB.trans (hu.mono hB.size)
  clear hu hTA hb2 ra rp
  go_wp2_with fail
  generalize w2.alloc (.cells #[.slice (some ⟨ba, 0, none⟩) 48 ca, .slice (some ⟨pa, 0, none⟩) 20 cpa] 27) = w3 at *
  refine (table_any w3).mono ?_
  rintro e w4 ⟨sa, sp, SB, rfl, hTB, hb4⟩
  obtain ⟨bb, cb, pb, cpb, rfl, rfl, lbb, lpb, _, hBB⟩ := box_of hTB hb4
  have hu : Below w4.heap.size w4 (w4.alloc (.cells #[.slice (some ⟨bb, 0, none⟩) 48 cb, .slice (some ⟨pb, 0, none⟩) 20 cpb] 27)) := by go_grown
  replace hB := (hB.trans (hb4.mono hB.size)).trans (hu.mono (by have := hB.size; have := hb4.size; omega))
  replace hA := (hA.go hb4).go hu
  have hz4 := hb4.size
  have hz5 : (w4.alloc (.cells #[.slice (some ⟨bb, 0, none⟩) 48 cb, .slice (some ⟨pb, 0, none⟩) 20 cpb] 27)).heap.size = w4.heap.size + 1 := World.size_alloc _ _
  clear hu hTB hb4
  go_wp2_with fail
  generalize w4.alloc (.cells #[.slice (some ⟨bb, 0, none⟩) 48 cb, .slice (some ⟨pb, 0, none⟩) 20 cpb] 27) = w5 at *
  refine (refTable_any w5).mono ?_
  rintro e w6 ⟨sa, sp, SW, rfl, hTW, hb6⟩
  obtain ⟨bw, cw, pw, cpw, rfl, rfl, lbw, lpw, _, hW⟩ := box_of hTW hb6
  have hu : Below w6.heap.size w6 (w6.alloc (.cells #[.slice (some ⟨bw, 0, none⟩) 48 cw, .slice (some ⟨pw, 0, none⟩) 20 cpw] 27)) := by go_grown
  replace hB := (hB.trans (hb6.mono hB.size)).trans (hu.mono (by have := hB.size; have := hb6.size; omega))
  replace hA := (hA.go hb6).go hu
  replace hBB := (hBB.go hb6).go hu
  have hz6 := hb6.size
  replace hW := hW.mono (show w3.heap.size ≤ w5.heap.size by omega)
  clear hu hTW hb6
  obtain ⟨r, hr⟩ : ∃ r, tableRs.getD q default = r := ⟨_, rfl⟩
  obtain ⟨pr, hpr⟩ : ∃ pr, tablePs.getD k default = pr := ⟨_, rfl⟩
  have hrl := fitsT.ts q
  rw [hr] at hrl
  have HR := Lib.hid hr
  have HPR := Lib.hid hpr
  clear hr hpr
  have qT : q < tableRs.length := by rw [len_T]; exact q48
  have tA := hA.terms q qT
  have tB := hBB.terms q qT
  have tW := hW.terms q qT
  rw [HR.out] at tA tB tW
  obtain ⟨oa, ta, hsa⟩ := SliceAt.slice tA
  obtain ⟨ob, tb, hsb⟩ := SliceAt.slice tB
  obtain ⟨ow, tw, hsw⟩ := SliceAt.slice tW
  have HSA := Lib.hid hsa
  have HSB := Lib.hid hsb
  have HSW := Lib.hid hsw
  clear hsa hsb hsw tA tB tW
  have hAq : ∀ W, BoxAt w1.heap.size W w2.heap.size ba ca pa cpa SA → TermsAt W (.slice oa r.ts.length ta) r.ts ∧ W.cell? ⟨ba, q * 12, none⟩ = some (.string (bs r.c0)) ∧ W.cell? ⟨ba, q * 12 + 1, none⟩ = some (.string (bs r.c1)) ∧ W.cell? ⟨ba, q * 12 + 2, none⟩ = some (.string (bs r.c2)) ∧ W.cell? ⟨ba, q * 12 + 3, none⟩ = some (.string (bs r.c3)) ∧ W.cell? ⟨ba, q * 12 + 4, none⟩ = some (.string (bs r.c4)) ∧ W.cell? ⟨ba, q * 12 + 5, none⟩ = some (.bool r.m) ∧ W.cell? ⟨ba, q * 12 + 6, none⟩ = some (.int .i64 r.tag) ∧ W.cell? ⟨ba, q * 12 + 7, none⟩ = some (.int .i64 r.base) ∧ W.cell? ⟨ba, q * 12 + 8, none⟩ = some (.int .i64 r.num) ∧ W.cell? ⟨ba, q * 12 + 9, none⟩ = some (.int .i64 r.den) ∧ W.cell? ⟨ba, q * 12 + 10, none⟩ = some (.int .i64 r.ten) ∧ W.cell? ⟨ba, q * 12 + 11, none⟩ = some (.slice oa r.ts.length ta) := fun W h => by
    have h1 := h.terms q qT
    rw [HR.out, HSA.out] at h1
    have h2 := row_cells h.grid q q48 r HR.out
    rw [HSA.out] at h2
    exact ⟨h1, h2⟩
  have hBq : ∀ W, BoxAt w3.heap.size W w4.heap.size bb cb pb cpb SB → TermsAt W (.slice ob r.ts.length tb) r.ts ∧ W.cell? ⟨bb, q * 12, none⟩ = some (.string (bs r.c0)) ∧ W.cell? ⟨bb, q * 12 + 1, none⟩ = some (.string (bs r.c1)) ∧ W.cell? ⟨bb, q * 12 + 2, none⟩ = some (.string (bs r.c2)) ∧ W.cell? ⟨bb, q * 12 + 3, none⟩ = some (.string (bs r.c3)) ∧ W.cell? ⟨bb, q * 12 + 4, none⟩ = some (.string (bs r.c4)) ∧ W.cell? ⟨bb, q * 12 + 5, none⟩ = some (.bool r.m) ∧ W.cell? ⟨bb, q * 12 + 6, none⟩ = some (.int .i64 r.tag) ∧ W.cell? ⟨bb, q * 12 + 7, none⟩ = some (.int .i64 r.base) ∧ W.cell? ⟨bb, q * 12 + 8, none⟩ = some (.int .i64 r.num) ∧ W.cell? ⟨bb, q * 12 + 9, none⟩ = some (.int .i64 r.den) ∧ W.cell? ⟨bb, q * 12 + 10, none⟩ = some (.int .i64 r.ten) ∧ W.cell? ⟨bb, q * 12 + 11, none⟩ = some (.slice ob r.ts.length tb) := fun W h => by
    have h1 := h.terms q qT
    rw [HR.out, HSB.out] at h1
    have h2 := row_cells h.grid q q48 r HR.out
    rw [HSB.out] at h2
    exact ⟨h1, h2⟩
  have hWq : ∀ W, BoxAt w3.heap.size W w6.heap.size bw cw pw cpw SW → TermsAt W (.slice ow r.ts.length tw) r.ts ∧ W.cell? ⟨bw, q * 12, none⟩ = some (.string (bs r.c0)) ∧ W.cell? ⟨bw, q * 12 + 1, none⟩ = some (.string (bs r.c1)) ∧ W.cell? ⟨bw, q * 12 + 2, none⟩ = some (.string (bs r.c2)) ∧ W.cell? ⟨bw, q * 12 + 3, none⟩ = some (.string (bs r.c3)) ∧ W.cell? ⟨bw, q * 12 + 4, none⟩ = some (.string (bs r.c4)) ∧ W.cell? ⟨bw, q * 12 + 5, none⟩ = some (.bool r.m) ∧ W.cell? ⟨bw, q * 12 + 6, none⟩ = some (.int .i64 r.tag) ∧ W.cell? ⟨bw, q * 12 + 7, none⟩ = some (.int .i64 r.base) ∧ W.cell? ⟨bw, q * 12 + 8, none⟩ = some (.int .i64 r.num) ∧ W.cell? ⟨bw, q * 12 + 9, none⟩ = some (.int .i64 r.den) ∧ W.cell? ⟨bw, q * 12 + 10, none⟩ = some (.int .i64 r.ten) ∧ W.cell? ⟨bw, q * 12 + 11, none⟩ = some (.slice ow r.ts.length tw) := fun W h => by
    have h1 := h.terms q qT
    rw [HR.out, HSW.out] at h1
    have h2 := row_cells h.grid q q48 r HR.out
    rw [HSW.out] at h2
    exact ⟨h1, h2⟩
  have HAQ := Lib.hid hAq
  have HBQ := Lib.hid hBq
  have HWQ := Lib.hid hWq
  clear hAq hBq hWq
  generalize hV : w6.alloc (.cells #[.slice (some ⟨bw, 0, none⟩) 48 cw, .slice (some ⟨pw, 0, none⟩) 20 cpw] 27) = V at hA hBB hW hB
  have a0 := hA.b0
  have a1 := hA.b1
  have b0 := hBB.b0
  have b1 := hBB.b1
  have c0 := hW.b0
  have c1 := hW.b1
  go_wp2_with fail
  have hS : V.cell? ⟨w2.heap.size, 0, none⟩ = some (.slice (some ⟨ba, 0, none⟩) 48 ca) ∧ V.cell? ⟨w6.heap.size, 0, none⟩ = some (.slice (some ⟨bw, 0, none⟩) 48 cw) ∧ V.cell? ⟨ba, q * 12, none⟩ = some (.string (bs r.c0)) ∧ V.cell? ⟨ba, q * 12 + 1, none⟩ = some (.string (bs r.c1)) ∧ V.cell? ⟨ba, q * 12 + 2, none⟩ = some (.string (bs r.c2)) ∧ V.cell? ⟨ba, q * 12 + 3, none⟩ = some (.string (bs r.c3)) ∧ V.cell? ⟨ba, q * 12 + 4, none⟩ = some (.string (bs r.c4)) ∧ V.cell? ⟨ba, q * 12 + 5, none⟩ = some (.bool r.m) ∧ V.cell? ⟨ba, q * 12 + 6, none⟩ = some (.int .i64 r.tag) ∧ V.cell? ⟨ba, q * 12 + 7, none⟩ = some (.int .i64 r.base) ∧ V.cell? ⟨ba, q * 12 + 8, none⟩ = some (.int .i64 r.num) ∧ V.cell? ⟨ba, q * 12 + 9, none⟩ = some (.int .i64 r.den) ∧ V.cell? ⟨ba, q * 12 + 10, none⟩ = some (.int .i64 r.ten) ∧ V.cell? ⟨ba, q * 12 + 11, none⟩ = some (.slice oa r.ts.length ta) ∧ V.cell? ⟨bw, q * 12, none⟩ = some (.string (bs r.c0)) ∧ V.cell? ⟨bw, q * 12 + 1, none⟩ = some (.string (bs r.c1)) ∧ V.cell? ⟨bw, q * 12 + 2, none⟩ = some (.string (bs r.c2)) ∧ V.cell? ⟨bw, q * 12 + 3, none⟩ = some (.string (bs r.c3)) ∧ V.cell? ⟨bw, q * 12 + 4, none⟩ = some (.string (bs r.c4)) ∧ V.cell? ⟨bw, q * 12 + 5, none⟩ = some (.bool r.m) ∧ V.cell? ⟨bw, q * 12 + 6, none⟩ = some (.int .i64 r.tag) ∧ V.cell? ⟨bw, q * 12 + 7, none⟩ = some (.int .i64 r.base) ∧ V.cell? ⟨bw, q * 12 + 8, none⟩ = some (.int .i64 r.num) ∧ V.cell? ⟨bw, q * 12 + 9, none⟩ = some (.int .i64 r.den) ∧ V.cell? ⟨bw, q * 12 + 10, none⟩ = some (.int .i64 r.ten) ∧ V.cell? ⟨bw, q * 12 + 11, none⟩ = some (.slice ow r.ts.length tw) := by
    obtain ⟨_, x0, x1, x2, x3, x4, x5, x6, x7, x8, x9, x10, x11⟩ := HAQ.out _ hA
    obtain ⟨_, y0, y1, y2, y3, y4, y5, y6, y7, y8, y9, y10, y11⟩ := HWQ.out _ hW
    exact ⟨a0, c0, x0, x1, x2, x3, x4, x5, x6, x7, x8, x9, x10, x11, y0, y1, y2, y3, y4, y5, y6, y7, y8, y9, y10, y11⟩
  have hSd : V.drew.cell? ⟨w2.heap.size, 0, none⟩ = some (.slice (some ⟨ba, 0, none⟩) 48 ca) ∧ V.drew.cell? ⟨w6.heap.size, 0, none⟩ = some (.slice (some ⟨bw, 0, none⟩) 48 cw) ∧ V.drew.cell? ⟨ba, q * 12, none⟩ = some (.string (bs r.c0)) ∧ V.drew.cell? ⟨ba, q * 12 + 1, none⟩ = some (.string (bs r.c1)) ∧ V.drew.cell? ⟨ba, q * 12 + 2, none⟩ = some (.string (bs r.c2)) ∧ V.drew.cell? ⟨ba, q * 12 + 3, none⟩ = some (.string (bs r.c3)) ∧ V.drew.cell? ⟨ba, q * 12 + 4, none⟩ = some (.string (bs r.c4)) ∧ V.drew.cell? ⟨ba, q * 12 + 5, none⟩ = some (.bool r.m) ∧ V.drew.cell? ⟨ba, q * 12 + 6, none⟩ = some (.int .i64 r.tag) ∧ V.drew.cell? ⟨ba, q * 12 + 7, none⟩ = some (.int .i64 r.base) ∧ V.drew.cell? ⟨ba, q * 12 + 8, none⟩ = some (.int .i64 r.num) ∧ V.drew.cell? ⟨ba, q * 12 + 9, none⟩ = some (.int .i64 r.den) ∧ V.drew.cell? ⟨ba, q * 12 + 10, none⟩ = some (.int .i64 r.ten) ∧ V.drew.cell? ⟨ba, q * 12 + 11, none⟩ = some (.slice oa r.ts.length ta) ∧ V.drew.cell? ⟨bw, q * 12, none⟩ = some (.string (bs r.c0)) ∧ V.drew.cell? ⟨bw, q * 12 + 1, none⟩ = some (.string (bs r.c1)) ∧ V.drew.cell? ⟨bw, q * 12 + 2, none⟩ = some (.string (bs r.c2)) ∧ V.drew.cell? ⟨bw, q * 12 + 3, none⟩ = some (.string (bs r.c3)) ∧ V.drew.cell? ⟨bw, q * 12 + 4, none⟩ = some (.string (bs r.c4)) ∧ V.drew.cell? ⟨bw, q * 12 + 5, none⟩ = some (.bool r.m) ∧ V.drew.cell? ⟨bw, q * 12 + 6, none⟩ = some (.int .i64 r.tag) ∧ V.drew.cell? ⟨bw, q * 12 + 7, none⟩ = some (.int .i64 r.base) ∧ V.drew.cell? ⟨bw, q * 12 + 8, none⟩ = some (.int .i64 r.num) ∧ V.drew.cell? ⟨bw, q * 12 + 9, none⟩ = some (.int .i64 r.den) ∧ V.drew.cell? ⟨bw, q * 12 + 10, none⟩ = some (.int .i64 r.ten) ∧ V.drew.cell? ⟨bw, q * 12 + 11, none⟩ = some (.slice ow r.ts.length tw) := hS
  have hsame := same_yes r (.slice oa r.ts.length ta) (.slice ow r.ts.length tw) V.drew (HAQ.out _ hA).1 (HWQ.out _ hW).1 hrl
  simp only [Row.cs] at hsame
  clear a0 a1 b0 b1 c0 c1 hV
  go_region_held3 (fun v => v.cell? ⟨w2.heap.size, 0, none⟩ = some (.slice (some ⟨ba, 0, none⟩) 48 ca) ∧ v.cell? ⟨w6.heap.size, 0, none⟩ = some (.slice (some ⟨bw, 0, none⟩) 48 cw) ∧ v.cell? ⟨ba, q * 12, none⟩ = some (.string (bs r.c0)) ∧ v.cell? ⟨ba, q * 12 + 1, none⟩ = some (.string (bs r.c1)) ∧ v.cell? ⟨ba, q * 12 + 2, none⟩ = some (.string (bs r.c2)) ∧ v.cell? ⟨ba, q * 12 + 3, none⟩ = some (.string (bs r.c3)) ∧ v.cell? ⟨ba, q * 12 + 4, none⟩ = some (.string (bs r.c4)) ∧ v.cell? ⟨ba, q * 12 + 5, none⟩ = some (.bool r.m) ∧ v.cell? ⟨ba, q * 12 + 6, none⟩ = some (.int .i64 r.tag) ∧ v.cell? ⟨ba, q * 12 + 7, none⟩ = some (.int .i64 r.base) ∧ v.cell? ⟨ba, q * 12 + 8, none⟩ = some (.int .i64 r.num) ∧ v.cell? ⟨ba, q * 12 + 9, none⟩ = some (.int .i64 r.den) ∧ v.cell? ⟨ba, q * 12 + 10, none⟩ = some (.int .i64 r.ten) ∧ v.cell? ⟨ba, q * 12 + 11, none⟩ = some (.slice oa r.ts.length ta) ∧ v.cell? ⟨bw, q * 12, none⟩ = some (.string (bs r.c0)) ∧ v.cell? ⟨bw, q * 12 + 1, none⟩ = some (.string (bs r.c1)) ∧ v.cell? ⟨bw, q * 12 + 2, none⟩ = some (.string (bs r.c2)) ∧ v.cell? ⟨bw, q * 12 + 3, none⟩ = some (.string (bs r.c3)) ∧ v.cell? ⟨bw, q * 12 + 4, none⟩ = some (.string (bs r.c4)) ∧ v.cell? ⟨bw, q * 12 + 5, none⟩ = some (.bool r.m) ∧ v.cell? ⟨bw, q * 12 + 6, none⟩ = some (.int .i64 r.tag) ∧ v.cell? ⟨bw, q * 12 + 7, none⟩ = some (.int .i64 r.base) ∧ v.cell? ⟨bw, q * 12 + 8, none⟩ = some (.int .i64 r.num) ∧ v.cell? ⟨bw, q * 12 + 9, none⟩ = some (.int .i64 r.den) ∧ v.cell? ⟨bw, q * 12 + 10, none⟩ = some (.int .i64 r.ten) ∧ v.cell? ⟨bw, q * 12 + 11, none⟩ = some (.slice ow r.ts.length tw))
    (first | with_reducible exact hS | with_reducible exact hSd | with_reducible exact hSn)
    (first | (go_at_call 12; refine hsame.mono ?_; rintro e V1 ⟨rfl, hbs⟩; replace hbs : Below V.heap.size V V1 := (Below.refl _ V).drew.trans hbs; replace hA := hA.go hbs; replace hBB := hBB.go hbs; replace hW := hW.go hbs; replace hB := hB.trans (hbs.mono hB.size); have hSn : V1.cell? ⟨w2.heap.size, 0, none⟩ = some (.slice (some ⟨ba, 0, none⟩) 48 ca) ∧ V1.cell? ⟨w6.heap.size, 0, none⟩ = some (.slice (some ⟨bw, 0, none⟩) 48 cw) ∧ V1.cell? ⟨ba, q * 12, none⟩ = some (.string (bs r.c0)) ∧ V1.cell? ⟨ba, q * 12 + 1, none⟩ = some (.string (bs r.c1)) ∧ V1.cell? ⟨ba, q * 12 + 2, none⟩ = some (.string (bs r.c2)) ∧ V1.cell? ⟨ba, q * 12 + 3, none⟩ = some (.string (bs r.c3)) ∧ V1.cell? ⟨ba, q * 12 + 4, none⟩ = some (.string (bs r.c4)) ∧ V1.cell? ⟨ba, q * 12 + 5, none⟩ = some (.bool r.m) ∧ V1.cell? ⟨ba, q * 12 + 6, none⟩ = some (.int .i64 r.tag) ∧ V1.cell? ⟨ba, q * 12 + 7, none⟩ = some (.int .i64 r.base) ∧ V1.cell? ⟨ba, q * 12 + 8, none⟩ = some (.int .i64 r.num) ∧ V1.cell? ⟨ba, q * 12 + 9, none⟩ = some (.int .i64 r.den) ∧ V1.cell? ⟨ba, q * 12 + 10, none⟩ = some (.int .i64 r.ten) ∧ V1.cell? ⟨ba, q * 12 + 11, none⟩ = some (.slice oa r.ts.length ta) ∧ V1.cell? ⟨bw, q * 12, none⟩ = some (.string (bs r.c0)) ∧ V1.cell? ⟨bw, q * 12 + 1, none⟩ = some (.string (bs r.c1)) ∧ V1.cell? ⟨bw, q * 12 + 2, none⟩ = some (.string (bs r.c2)) ∧ V1.cell? ⟨bw, q * 12 + 3, none⟩ = some (.string (bs r.c3)) ∧ V1.cell? ⟨bw, q * 12 + 4, none⟩ = some (.string (bs r.c4)) ∧ V1.cell? ⟨bw, q * 12 + 5, none⟩ = some (.bool r.m) ∧ V1.cell? ⟨bw, q * 12 + 6, none⟩ = some (.int .i64 r.tag) ∧ V1.cell? ⟨bw, q * 12 + 7, none⟩ = some (.int .i64 r.base) ∧ V1.cell? ⟨bw, q * 12 + 8, none⟩ = some (.int .i64 r.num) ∧ V1.cell? ⟨bw, q * 12 + 9, none⟩ = some (.int .i64 r.den) ∧ V1.cell? ⟨bw, q * 12 + 10, none⟩ = some (.int .i64 r.ten) ∧ V1.cell? ⟨bw, q * 12 + 11, none⟩ = some (.slice ow r.ts.length tw) := (by
      obtain ⟨_, x0, x1, x2, x3, x4, x5, x6, x7, x8, x9, x10, x11⟩ := HAQ.out _ hA
      obtain ⟨_, y0, y1, y2, y3, y4, y5, y6, y7, y8, y9, y10, y11⟩ := HWQ.out _ hW
      exact ⟨hA.b0, hW.b0, x0, x1, x2, x3, x4, x5, x6, x7, x8, x9, x10, x11, y0, y1, y2, y3, y4, y5, y6, y7, y8, y9, y10, y11⟩)))
  clear hS hSd hsame hSn
  have hP10 : V1.cell? ⟨w2.heap.size, 1, none⟩ = some (.slice (some ⟨pa, 0, none⟩) 20 cpa) ∧ V1.cell? ⟨w6.heap.size, 1, none⟩ = some (.slice (some ⟨pw, 0, none⟩) 20 cpw) ∧ V1.cell? ⟨pa, k * 6, none⟩ = some (.string (bs pr.c0)) ∧ V1.cell? ⟨pa, k * 6 + 1, none⟩ = some (.string (bs pr.c1)) ∧ V1.cell? ⟨pa, k * 6 + 2, none⟩ = some (.string (bs pr.c2)) ∧ V1.cell? ⟨pa, k * 6 + 3, none⟩ = some (.string (bs pr.c3)) ∧ V1.cell? ⟨pa, k * 6 + 4, none⟩ = some (.string (bs pr.c4)) ∧ V1.cell? ⟨pa, k * 6 + 5, none⟩ = some (.int .i64 pr.ten) ∧ V1.cell? ⟨pw, k * 6, none⟩ = some (.string (bs pr.c0)) ∧ V1.cell? ⟨pw, k * 6 + 1, none⟩ = some (.string (bs pr.c1)) ∧ V1.cell? ⟨pw, k * 6 + 2, none⟩ = some (.string (bs pr.c2)) ∧ V1.cell? ⟨pw, k * 6 + 3, none⟩ = some (.string (bs pr.c3)) ∧ V1.cell? ⟨pw, k * 6 + 4, none⟩ = some (.string (bs pr.c4)) ∧ V1.cell? ⟨pw, k * 6 + 5, none⟩ = some (.int .i64 pr.ten) := by
    obtain ⟨x0, x1, x2, x3, x4, x5⟩ := pre_cells hA.prefs k k20 pr HPR.out
    obtain ⟨y0, y1, y2, y3, y4, y5⟩ := pre_cells hW.prefs k k20 pr HPR.out
    exact ⟨hA.b1, hW.b1, x0, x1, x2, x3, x4, x5, y0, y1, y2, y3, y4, y5⟩
  have hP10d : V1.drew.cell? ⟨w2.heap.size, 1, none⟩ = some (.slice (some ⟨pa, 0, none⟩) 20 cpa) ∧ V1.drew.cell? ⟨w6.heap.size, 1, none⟩ = some (.slice (some ⟨pw, 0, none⟩) 20 cpw) ∧ V1.drew.cell? ⟨pa, k * 6, none⟩ = some (.string (bs pr.c0)) ∧ V1.drew.cell? ⟨pa, k * 6 + 1, none⟩ = some (.string (bs pr.c1)) ∧ V1.drew.cell? ⟨pa, k * 6 + 2, none⟩ = some (.string (bs pr.c2)) ∧ V1.drew.cell? ⟨pa, k * 6 + 3, none⟩ = some (.string (bs pr.c3)) ∧ V1.drew.cell? ⟨pa, k * 6 + 4, none⟩ = some (.string (bs pr.c4)) ∧ V1.drew.cell? ⟨pa, k * 6 + 5, none⟩ = some (.int .i64 pr.ten) ∧ V1.drew.cell? ⟨pw, k * 6, none⟩ = some (.string (bs pr.c0)) ∧ V1.drew.cell? ⟨pw, k * 6 + 1, none⟩ = some (.string (bs pr.c1)) ∧ V1.drew.cell? ⟨pw, k * 6 + 2, none⟩ = some (.string (bs pr.c2)) ∧ V1.drew.cell? ⟨pw, k * 6 + 3, none⟩ = some (.string (bs pr.c3)) ∧ V1.drew.cell? ⟨pw, k * 6 + 4, none⟩ = some (.string (bs pr.c4)) ∧ V1.drew.cell? ⟨pw, k * 6 + 5, none⟩ = some (.int .i64 pr.ten) := hP10
  have qP := fun V => eqP (bs pr.c0) (bs pr.c1) (bs pr.c2) (bs pr.c3) (bs pr.c4) pr.ten V
  go_wp2
  go_region_held3 (fun v => v.cell? ⟨w2.heap.size, 1, none⟩ = some (.slice (some ⟨pa, 0, none⟩) 20 cpa) ∧ v.cell? ⟨w6.heap.size, 1, none⟩ = some (.slice (some ⟨pw, 0, none⟩) 20 cpw) ∧ v.cell? ⟨pa, k * 6, none⟩ = some (.string (bs pr.c0)) ∧ v.cell? ⟨pa, k * 6 + 1, none⟩ = some (.string (bs pr.c1)) ∧ v.cell? ⟨pa, k * 6 + 2, none⟩ = some (.string (bs pr.c2)) ∧ v.cell? ⟨pa, k * 6 + 3, none⟩ = some (.string (bs pr.c3)) ∧ v.cell? ⟨pa, k * 6 + 4, none⟩ = some (.string (bs pr.c4)) ∧ v.cell? ⟨pa, k * 6 + 5, none⟩ = some (.int .i64 pr.ten) ∧ v.cell? ⟨pw, k * 6, none⟩ = some (.string (bs pr.c0)) ∧ v.cell? ⟨pw, k * 6 + 1, none⟩ = some (.string (bs pr.c1)) ∧ v.cell? ⟨pw, k * 6 + 2, none⟩ = some (.string (bs pr.c2)) ∧ v.cell? ⟨pw, k * 6 + 3, none⟩ = some (.string (bs pr.c3)) ∧ v.cell? ⟨pw, k * 6 + 4, none⟩ = some (.string (bs pr.c4)) ∧ v.cell? ⟨pw, k * 6 + 5, none⟩ = some (.int .i64 pr.ten))
    (first | with_reducible exact hP10 | with_reducible exact hP10d)
    (first | fail)
  clear hP10 hP10d
  replace hB := hB.drew
  replace hA : BoxAt w1.heap.size V1.drew w2.heap.size ba ca pa cpa SA := hA.go (Below.refl _ _).drew
  replace hBB : BoxAt w3.heap.size V1.drew w4.heap.size bb cb pb cpb SB := hBB.go (Below.refl _ _).drew
  replace hW : BoxAt w3.heap.size V1.drew w6.heap.size bw cw pw cpw SW := hW.go (Below.refl _ _).drew
  generalize V1.drew = V2 at *
  have a0 := hA.b0
  have a1 := hA.b1
  have hpre := (pre_cells hA.prefs k k20 pr HPR.out).2.2.2.2.2
  have hprf := hA.prefs.2.1 (k * 6 + 5)
  obtain ⟨htA, x0, _, _, _, _, _, _, _, _, _, _, x11⟩ := HAQ.out _ hA
  have hxf := hA.grid.2.1 (q * 12)
  have n1 : pa ≠ w2.heap.size := by omega
  have n2 : ba ≠ w2.heap.size := by omega
  have n3 : pa ≠ ba := by
    intro e
    have h1 := hA.grid.1 0 (by omega) 5 (by omega)
    have h2 := hA.prefs.1 0 (by omega) 5 (by omega)
    rw [e, Nat.zero_mul] at h2
    rw [Nat.zero_mul] at h1
    rw [h1] at h2
    simp [cellA, cellP, Row.cell, Row.cs, Pre.cell, Pre.cs] at h2
  have n4 : ∀ bt, oa = some ⟨bt, 0, none⟩ → 0 < r.ts.length → bt ≠ ba ∧ bt < w2.heap.size ∧ w1.heap.size ≤ bt ∧ bt ≠ pa ∧ Grid V2 bt 2 r.ts.length (cellT r.ts) := by
    intro bt hbt h0
    obtain ⟨b', hb', hg⟩ := TermsAt.grid htA h0
    rw [hbt] at hb'
    injection hb' with hb'
    injection hb' with hb'
    subst hb'
    have g0 := hg.1 0 h0 0 (by omega)
    have g1 := hA.grid.1 0 (by omega) 0 (by omega)
    have g2 := hA.prefs.1 0 (by omega) 0 (by omega)
    rw [Nat.zero_mul] at g0 g1 g2
    refine ⟨?_, ?_, ?_, ?_, hg⟩
    · intro e
      rw [e, g1] at g0
      simp [cellA, cellT, termCell, Row.cell, Row.cs] at g0
    · exact huA q q48 _ _ _ (by rw [HSA.out, hbt])
    · exact hA.at_ q q48 _ _ _ (by rw [HSA.out, hbt])
    · intro e
      rw [e, g2] at g0
      simp [cellP, cellT, termCell, Pre.cell, Pre.cs] at g0
  have k1 : (V2.setCell ⟨pa, k * 6 + 5, none⟩ (.int .i64 99)).cell? ⟨w2.heap.size, 0, none⟩ = some (.slice (some ⟨ba, 0, none⟩) 48 ca) := by rw [World.cell?_setCell_other _ _ _ _ (by intro hh; injection hh with e1 e2; exact n1 e1)]; exact a0
  have k2 : (V2.setCell ⟨pa, k * 6 + 5, none⟩ (.int .i64 99)).cell? ⟨ba, q * 12, none⟩ = some (.string (bs r.c0)) := by rw [World.cell?_setCell_other _ _ _ _ (by intro hh; injection hh with e1 e2; exact n3 e1)]; exact x0
  have k3 : (V2.setCell ⟨pa, k * 6 + 5, none⟩ (.int .i64 99)).frozen? ⟨ba, q * 12, none⟩ = false := by rw [World.frozen?_setCell]; exact hxf
  have k4 : (V2.setCell ⟨pa, k * 6 + 5, none⟩ (.int .i64 99)).cell? ⟨ba, q * 12 + 11, none⟩ = some (.slice oa r.ts.length ta) := by rw [World.cell?_setCell_other _ _ _ _ (by intro hh; injection hh with e1 e2; exact n3 e1)]; exact x11
  have l1 : ((V2.setCell ⟨pa, k * 6 + 5, none⟩ (.int .i64 99)).setCell ⟨ba, q * 12, none⟩ (.string ⟨#[120]⟩)).cell? ⟨w2.heap.size, 0, none⟩ = some (.slice (some ⟨ba, 0, none⟩) 48 ca) := by rw [World.cell?_setCell_other _ _ _ _ (by intro hh; injection hh with e1 e2; exact n2 e1)]; exact k1
  have l2 : ((V2.setCell ⟨pa, k * 6 + 5, none⟩ (.int .i64 99)).setCell ⟨ba, q * 12, none⟩ (.string ⟨#[120]⟩)).cell? ⟨ba, q * 12 + 11, none⟩ = some (.slice oa r.ts.length ta) := by rw [World.cell?_setCell_other _ _ _ _ (by intro hh; injection hh with e1 e2; omega)]; exact k4
  have l3 : ∀ bt, oa = some ⟨bt, 0, none⟩ → 0 < r.ts.length → Spare ((V2.setCell ⟨pa, k * 6 + 5, none⟩ (.int .i64 99)).setCell ⟨ba, q * 12, none⟩ (.string ⟨#[120]⟩)) bt (r.ts.length * 2) ∧ (∀ j, ((V2.setCell ⟨pa, k * 6 + 5, none⟩ (.int .i64 99)).setCell ⟨ba, q * 12, none⟩ (.string ⟨#[120]⟩)).frozen? ⟨bt, j, none⟩ = false) := by
    intro bt hbt h0
    obtain ⟨_, _, _, _, hg⟩ := n4 bt hbt h0
    refine ⟨Spare.set (Spare.set (fun j hj => ?_) _ _ _) _ _ _, fun j => ?_⟩
    · rw [hg.flat (by omega) j _ (flat_get hj)]; rfl
    · rw [World.frozen?_setCell, World.frozen?_setCell]; exact hg.2.1 j
  have l4 : Kept w3.heap.size V2.heap.size V2 ((V2.setCell ⟨pa, k * 6 + 5, none⟩ (.int .i64 99)).setCell ⟨ba, q * 12, none⟩ (.string ⟨#[120]⟩)) := by
    refine ⟨by rw [World.size_setCell, World.size_setCell]; exact Nat.le_refl _, fun kk h1 h2 => ?_⟩
    rw [Below.heap_setCell _ ⟨ba, q * 12, none⟩ _ kk (by show kk ≠ ba; omega), Below.heap_setCell _ ⟨pa, k * 6 + 5, none⟩ _ kk (by show kk ≠ pa; omega)]
  have hw1 := hb1.size
  have l5 : Below w.heap.size w ((V2.setCell ⟨pa, k * 6 + 5, none⟩ (.int .i64 99)).setCell ⟨ba, q * 12, none⟩ (.string ⟨#[120]⟩)) :=
    (hB.setCell (p := ⟨pa, k * 6 + 5, none⟩) (by show w.heap.size ≤ pa; have := hA.bp; omega) _).setCell (p := ⟨ba, q * 12, none⟩) (by show w.heap.size ≤ ba; have := hA.bb; omega) _
  have N4 := Lib.hid n4
  have N5 : Hid (0 < r.ts.length → ∃ bt, oa = some ⟨bt, 0, none⟩) := Lib.hid fun h0 => by
    obtain ⟨b', hb', _⟩ := TermsAt.grid htA h0
    exact ⟨b', hb'⟩
  clear n4 htA hA hB huA qP x11
  go_wp2
  have hI : TellsI w w3.heap.size V2 ((V2.setCell ⟨pa, k * 6 + 5, none⟩ (.int .i64 99)).setCell ⟨ba, q * 12, none⟩ (.string ⟨#[120]⟩)) w2.heap.size ba ca q oa r.ts.length ta := ⟨l1, l2, l3, l4, l5⟩
  clear k1 k2 k3 k4 l1 l2 l3 l4 l5
  go_loopw [13] (fun x wr => ∃ j : Nat, x = .int .i64 j ∧ j ≤ r.ts.length ∧ TellsI w w3.heap.size V2 wr w2.heap.size ba ca q oa r.ts.length ta) (fun x _ => (r.ts.length - intOf x).toNat)
  case atStart => exact ⟨0, rfl, by omega, hI⟩
  case round =>
    clear hI
    obtain ⟨j, rfl, hj, hI⟩ := hrel
    have x0 := hI.c0
    have x11 := hI.c11
    by_cases hjl : j < r.ts.length
    · have hji : (j : Int) < (r.ts.length : Int) := by omega
      obtain ⟨bt, hbt⟩ := N5.out (by omega)
      obtain ⟨m1, m2, m3, m4, _⟩ := N4.out bt hbt (by omega)
      obtain ⟨hsp, hfz⟩ := hI.sp bt hbt (by omega)
      obtain ⟨v0, hv0⟩ := Option.isSome_iff_exists.1 (hsp (j * 2 + 1) (by omega))
      have hf := hfz (j * 2 + 1)
      have hI' := hI.set bt (j * 2 + 1) (.int .i64 99) (by omega) m1 (by omega) (by omega)
      clear hI hsp hfz
      rw [hbt] at x11
      go_wp2
      go_roundw
      case rel => exact ⟨j + 1, rfl, by omega, hI'⟩
      case measure => simp only [intOf]; omega
    · have hji : ¬ (j : Int) < (r.ts.length : Int) := by omega
      replace hBB := hBB.kept hI.kept
      replace hW := hW.kept hI.kept
      have hB := hI.below
      go_wp2_with fail
      clear hI hj hjl hji x0 x11 N4 N5
      have b0 := hBB.b0
      have c0 := hW.b0
      go_wp2_with fail
      have hS : wr.cell? ⟨w4.heap.size, 0, none⟩ = some (.slice (some ⟨bb, 0, none⟩) 48 cb) ∧ wr.cell? ⟨w6.heap.size, 0, none⟩ = some (.slice (some ⟨bw, 0, none⟩) 48 cw) ∧ wr.cell? ⟨bb, q * 12, none⟩ = some (.string (bs r.c0)) ∧ wr.cell? ⟨bb, q * 12 + 1, none⟩ = some (.string (bs r.c1)) ∧ wr.cell? ⟨bb, q * 12 + 2, none⟩ = some (.string (bs r.c2)) ∧ wr.cell? ⟨bb, q * 12 + 3, none⟩ = some (.string (bs r.c3)) ∧ wr.cell? ⟨bb, q * 12 + 4, none⟩ = some (.string (bs r.c4)) ∧ wr.cell? ⟨bb, q * 12 + 5, none⟩ = some (.bool r.m) ∧ wr.cell? ⟨bb, q * 12 + 6, none⟩ = some (.int .i64 r.tag) ∧ wr.cell? ⟨bb, q * 12 + 7, none⟩ = some (.int .i64 r.base) ∧ wr.cell? ⟨bb, q * 12 + 8, none⟩ = some (.int .i64 r.num) ∧ wr.cell? ⟨bb, q * 12 + 9, none⟩ = some (.int .i64 r.den) ∧ wr.cell? ⟨bb, q * 12 + 10, none⟩ = some (.int .i64 r.ten) ∧ wr.cell? ⟨bb, q * 12 + 11, none⟩ = some (.slice ob r.ts.length tb) ∧ wr.cell? ⟨bw, q * 12, none⟩ = some (.string (bs r.c0)) ∧ wr.cell? ⟨bw, q * 12 + 1, none⟩ = some (.string (bs r.c1)) ∧ wr.cell? ⟨bw, q * 12 + 2, none⟩ = some (.string (bs r.c2)) ∧ wr.cell? ⟨bw, q * 12 + 3, none⟩ = some (.string (bs r.c3)) ∧ wr.cell? ⟨bw, q * 12 + 4, none⟩ = some (.string (bs r.c4)) ∧ wr.cell? ⟨bw, q * 12 + 5, none⟩ = some (.bool r.m) ∧ wr.cell? ⟨bw, q * 12 + 6, none⟩ = some (.int .i64 r.tag) ∧ wr.cell? ⟨bw, q * 12 + 7, none⟩ = some (.int .i64 r.base) ∧ wr.cell? ⟨bw, q * 12 + 8, none⟩ = some (.int .i64 r.num) ∧ wr.cell? ⟨bw, q * 12 + 9, none⟩ = some (.int .i64 r.den) ∧ wr.cell? ⟨bw, q * 12 + 10, none⟩ = some (.int .i64 r.ten) ∧ wr.cell? ⟨bw, q * 12 + 11, none⟩ = some (.slice ow r.ts.length tw) := by
        obtain ⟨_, x0, x1, x2, x3, x4, x5, x6, x7, x8, x9, x10, x11⟩ := HBQ.out _ hBB
        obtain ⟨_, y0, y1, y2, y3, y4, y5, y6, y7, y8, y9, y10, y11⟩ := HWQ.out _ hW
        exact ⟨b0, c0, x0, x1, x2, x3, x4, x5, x6, x7, x8, x9, x10, x11, y0, y1, y2, y3, y4, y5, y6, y7, y8, y9, y10, y11⟩
      have hSd : wr.drew.cell? ⟨w4.heap.size, 0, none⟩ = some (.slice (some ⟨bb, 0, none⟩) 48 cb) ∧ wr.drew.cell? ⟨w6.heap.size, 0, none⟩ = some (.slice (some ⟨bw, 0, none⟩) 48 cw) ∧ wr.drew.cell? ⟨bb, q * 12, none⟩ = some (.string (bs r.c0)) ∧ wr.drew.cell? ⟨bb, q * 12 + 1, none⟩ = some (.string (bs r.c1)) ∧ wr.drew.cell? ⟨bb, q * 12 + 2, none⟩ = some (.string (bs r.c2)) ∧ wr.drew.cell? ⟨bb, q * 12 + 3, none⟩ = some (.string (bs r.c3)) ∧ wr.drew.cell? ⟨bb, q * 12 + 4, none⟩ = some (.string (bs r.c4)) ∧ wr.drew.cell? ⟨bb, q * 12 + 5, none⟩ = some (.bool r.m) ∧ wr.drew.cell? ⟨bb, q * 12 + 6, none⟩ = some (.int .i64 r.tag) ∧ wr.drew.cell? ⟨bb, q * 12 + 7, none⟩ = some (.int .i64 r.base) ∧ wr.drew.cell? ⟨bb, q * 12 + 8, none⟩ = some (.int .i64 r.num) ∧ wr.drew.cell? ⟨bb, q * 12 + 9, none⟩ = some (.int .i64 r.den) ∧ wr.drew.cell? ⟨bb, q * 12 + 10, none⟩ = some (.int .i64 r.ten) ∧ wr.drew.cell? ⟨bb, q * 12 + 11, none⟩ = some (.slice ob r.ts.length tb) ∧ wr.drew.cell? ⟨bw, q * 12, none⟩ = some (.string (bs r.c0)) ∧ wr.drew.cell? ⟨bw, q * 12 + 1, none⟩ = some (.string (bs r.c1)) ∧ wr.drew.cell? ⟨bw, q * 12 + 2, none⟩ = some (.string (bs r.c2)) ∧ wr.drew.cell? ⟨bw, q * 12 + 3, none⟩ = some (.string (bs r.c3)) ∧ wr.drew.cell? ⟨bw, q * 12 + 4, none⟩ = some (.string (bs r.c4)) ∧ wr.drew.cell? ⟨bw, q * 12 + 5, none⟩ = some (.bool r.m) ∧ wr.drew.cell? ⟨bw, q * 12 + 6, none⟩ = some (.int .i64 r.tag) ∧ wr.drew.cell? ⟨bw, q * 12 + 7, none⟩ = some (.int .i64 r.base) ∧ wr.drew.cell? ⟨bw, q * 12 + 8, none⟩ = some (.int .i64 r.num) ∧ wr.drew.cell? ⟨bw, q * 12 + 9, none⟩ = some (.int .i64 r.den) ∧ wr.drew.cell? ⟨bw, q * 12 + 10, none⟩ = some (.int .i64 r.ten) ∧ wr.drew.cell? ⟨bw, q * 12 + 11, none⟩ = some (.slice ow r.ts.length tw) := hS
      have hsame := same_yes r (.slice ob r.ts.length tb) (.slice ow r.ts.length tw) wr.drew (HBQ.out _ hBB).1 (HWQ.out _ hW).1 hrl
      simp only [Row.cs] at hsame
      clear b0 c0
      go_region_held3 (fun v => v.cell? ⟨w4.heap.size, 0, none⟩ = some (.slice (some ⟨bb, 0, none⟩) 48 cb) ∧ v.cell? ⟨w6.heap.size, 0, none⟩ = some (.slice (some ⟨bw, 0, none⟩) 48 cw) ∧ v.cell? ⟨bb, q * 12, none⟩ = some (.string (bs r.c0)) ∧ v.cell? ⟨bb, q * 12 + 1, none⟩ = some (.string (bs r.c1)) ∧ v.cell? ⟨bb, q * 12 + 2, none⟩ = some (.string (bs r.c2)) ∧ v.cell? ⟨bb, q * 12 + 3, none⟩ = some (.string (bs r.c3)) ∧ v.cell? ⟨bb, q * 12 + 4, none⟩ = some (.string (bs r.c4)) ∧ v.cell? ⟨bb, q * 12 + 5, none⟩ = some (.bool r.m) ∧ v.cell? ⟨bb, q * 12 + 6, none⟩ = some (.int .i64 r.tag) ∧ v.cell? ⟨bb, q * 12 + 7, none⟩ = some (.int .i64 r.base) ∧ v.cell? ⟨bb, q * 12 + 8, none⟩ = some (.int .i64 r.num) ∧ v.cell? ⟨bb, q * 12 + 9, none⟩ = some (.int .i64 r.den) ∧ v.cell? ⟨bb, q * 12 + 10, none⟩ = some (.int .i64 r.ten) ∧ v.cell? ⟨bb, q * 12 + 11, none⟩ = some (.slice ob r.ts.length tb) ∧ v.cell? ⟨bw, q * 12, none⟩ = some (.string (bs r.c0)) ∧ v.cell? ⟨bw, q * 12 + 1, none⟩ = some (.string (bs r.c1)) ∧ v.cell? ⟨bw, q * 12 + 2, none⟩ = some (.string (bs r.c2)) ∧ v.cell? ⟨bw, q * 12 + 3, none⟩ = some (.string (bs r.c3)) ∧ v.cell? ⟨bw, q * 12 + 4, none⟩ = some (.string (bs r.c4)) ∧ v.cell? ⟨bw, q * 12 + 5, none⟩ = some (.bool r.m) ∧ v.cell? ⟨bw, q * 12 + 6, none⟩ = some (.int .i64 r.tag) ∧ v.cell? ⟨bw, q * 12 + 7, none⟩ = some (.int .i64 r.base) ∧ v.cell? ⟨bw, q * 12 + 8, none⟩ = some (.int .i64 r.num) ∧ v.cell? ⟨bw, q * 12 + 9, none⟩ = some (.int .i64 r.den) ∧ v.cell? ⟨bw, q * 12 + 10, none⟩ = some (.int .i64 r.ten) ∧ v.cell? ⟨bw, q * 12 + 11, none⟩ = some (.slice ow r.ts.length tw))
        (first | with_reducible exact hS | with_reducible exact hSd | with_reducible exact hSn)
        (first | (go_at_call 12; refine hsame.mono ?_; rintro e V3 ⟨rfl, hbs⟩; replace hbs : Below wr.heap.size wr V3 := (Below.refl _ wr).drew.trans hbs; replace hBB := hBB.go hbs; replace hW := hW.go hbs; replace hB := hB.trans (hbs.mono hB.size); have hSn : V3.cell? ⟨w4.heap.size, 0, none⟩ = some (.slice (some ⟨bb, 0, none⟩) 48 cb) ∧ V3.cell? ⟨w6.heap.size, 0, none⟩ = some (.slice (some ⟨bw, 0, none⟩) 48 cw) ∧ V3.cell? ⟨bb, q * 12, none⟩ = some (.string (bs r.c0)) ∧ V3.cell? ⟨bb, q * 12 + 1, none⟩ = some (.string (bs r.c1)) ∧ V3.cell? ⟨bb, q * 12 + 2, none⟩ = some (.string (bs r.c2)) ∧ V3.cell? ⟨bb, q * 12 + 3, none⟩ = some (.string (bs r.c3)) ∧ V3.cell? ⟨bb, q * 12 + 4, none⟩ = some (.string (bs r.c4)) ∧ V3.cell? ⟨bb, q * 12 + 5, none⟩ = some (.bool r.m) ∧ V3.cell? ⟨bb, q * 12 + 6, none⟩ = some (.int .i64 r.tag) ∧ V3.cell? ⟨bb, q * 12 + 7, none⟩ = some (.int .i64 r.base) ∧ V3.cell? ⟨bb, q * 12 + 8, none⟩ = some (.int .i64 r.num) ∧ V3.cell? ⟨bb, q * 12 + 9, none⟩ = some (.int .i64 r.den) ∧ V3.cell? ⟨bb, q * 12 + 10, none⟩ = some (.int .i64 r.ten) ∧ V3.cell? ⟨bb, q * 12 + 11, none⟩ = some (.slice ob r.ts.length tb) ∧ V3.cell? ⟨bw, q * 12, none⟩ = some (.string (bs r.c0)) ∧ V3.cell? ⟨bw, q * 12 + 1, none⟩ = some (.string (bs r.c1)) ∧ V3.cell? ⟨bw, q * 12 + 2, none⟩ = some (.string (bs r.c2)) ∧ V3.cell? ⟨bw, q * 12 + 3, none⟩ = some (.string (bs r.c3)) ∧ V3.cell? ⟨bw, q * 12 + 4, none⟩ = some (.string (bs r.c4)) ∧ V3.cell? ⟨bw, q * 12 + 5, none⟩ = some (.bool r.m) ∧ V3.cell? ⟨bw, q * 12 + 6, none⟩ = some (.int .i64 r.tag) ∧ V3.cell? ⟨bw, q * 12 + 7, none⟩ = some (.int .i64 r.base) ∧ V3.cell? ⟨bw, q * 12 + 8, none⟩ = some (.int .i64 r.num) ∧ V3.cell? ⟨bw, q * 12 + 9, none⟩ = some (.int .i64 r.den) ∧ V3.cell? ⟨bw, q * 12 + 10, none⟩ = some (.int .i64 r.ten) ∧ V3.cell? ⟨bw, q * 12 + 11, none⟩ = some (.slice ow r.ts.length tw) := (by
          obtain ⟨_, x0, x1, x2, x3, x4, x5, x6, x7, x8, x9, x10, x11⟩ := HBQ.out _ hBB
          obtain ⟨_, y0, y1, y2, y3, y4, y5, y6, y7, y8, y9, y10, y11⟩ := HWQ.out _ hW
          exact ⟨hBB.b0, hW.b0, x0, x1, x2, x3, x4, x5, x6, x7, x8, x9, x10, x11, y0, y1, y2, y3, y4, y5, y6, y7, y8, y9, y10, y11⟩)))
      clear hS hSd hsame hSn
      have hP10 : V3.cell? ⟨w4.heap.size, 1, none⟩ = some (.slice (some ⟨pb, 0, none⟩) 20 cpb) ∧ V3.cell? ⟨w6.heap.size, 1, none⟩ = some (.slice (some ⟨pw, 0, none⟩) 20 cpw) ∧ V3.cell? ⟨pb, k * 6, none⟩ = some (.string (bs pr.c0)) ∧ V3.cell? ⟨pb, k * 6 + 1, none⟩ = some (.string (bs pr.c1)) ∧ V3.cell? ⟨pb, k * 6 + 2, none⟩ = some (.string (bs pr.c2)) ∧ V3.cell? ⟨pb, k * 6 + 3, none⟩ = some (.string (bs pr.c3)) ∧ V3.cell? ⟨pb, k * 6 + 4, none⟩ = some (.string (bs pr.c4)) ∧ V3.cell? ⟨pb, k * 6 + 5, none⟩ = some (.int .i64 pr.ten) ∧ V3.cell? ⟨pw, k * 6, none⟩ = some (.string (bs pr.c0)) ∧ V3.cell? ⟨pw, k * 6 + 1, none⟩ = some (.string (bs pr.c1)) ∧ V3.cell? ⟨pw, k * 6 + 2, none⟩ = some (.string (bs pr.c2)) ∧ V3.cell? ⟨pw, k * 6 + 3, none⟩ = some (.string (bs pr.c3)) ∧ V3.cell? ⟨pw, k * 6 + 4, none⟩ = some (.string (bs pr.c4)) ∧ V3.cell? ⟨pw, k * 6 + 5, none⟩ = some (.int .i64 pr.ten) := by
        obtain ⟨x0, x1, x2, x3, x4, x5⟩ := pre_cells hBB.prefs k k20 pr HPR.out
        obtain ⟨y0, y1, y2, y3, y4, y5⟩ := pre_cells hW.prefs k k20 pr HPR.out
        exact ⟨hBB.b1, hW.b1, x0, x1, x2, x3, x4, x5, y0, y1, y2, y3, y4, y5⟩
      have hP10d : V3.drew.cell? ⟨w4.heap.size, 1, none⟩ = some (.slice (some ⟨pb, 0, none⟩) 20 cpb) ∧ V3.drew.cell? ⟨w6.heap.size, 1, none⟩ = some (.slice (some ⟨pw, 0, none⟩) 20 cpw) ∧ V3.drew.cell? ⟨pb, k * 6, none⟩ = some (.string (bs pr.c0)) ∧ V3.drew.cell? ⟨pb, k * 6 + 1, none⟩ = some (.string (bs pr.c1)) ∧ V3.drew.cell? ⟨pb, k * 6 + 2, none⟩ = some (.string (bs pr.c2)) ∧ V3.drew.cell? ⟨pb, k * 6 + 3, none⟩ = some (.string (bs pr.c3)) ∧ V3.drew.cell? ⟨pb, k * 6 + 4, none⟩ = some (.string (bs pr.c4)) ∧ V3.drew.cell? ⟨pb, k * 6 + 5, none⟩ = some (.int .i64 pr.ten) ∧ V3.drew.cell? ⟨pw, k * 6, none⟩ = some (.string (bs pr.c0)) ∧ V3.drew.cell? ⟨pw, k * 6 + 1, none⟩ = some (.string (bs pr.c1)) ∧ V3.drew.cell? ⟨pw, k * 6 + 2, none⟩ = some (.string (bs pr.c2)) ∧ V3.drew.cell? ⟨pw, k * 6 + 3, none⟩ = some (.string (bs pr.c3)) ∧ V3.drew.cell? ⟨pw, k * 6 + 4, none⟩ = some (.string (bs pr.c4)) ∧ V3.drew.cell? ⟨pw, k * 6 + 5, none⟩ = some (.int .i64 pr.ten) := hP10
      have qP := fun V => eqP (bs pr.c0) (bs pr.c1) (bs pr.c2) (bs pr.c3) (bs pr.c4) pr.ten V
      go_wp2
      go_region_held3 (fun v => v.cell? ⟨w4.heap.size, 1, none⟩ = some (.slice (some ⟨pb, 0, none⟩) 20 cpb) ∧ v.cell? ⟨w6.heap.size, 1, none⟩ = some (.slice (some ⟨pw, 0, none⟩) 20 cpw) ∧ v.cell? ⟨pb, k * 6, none⟩ = some (.string (bs pr.c0)) ∧ v.cell? ⟨pb, k * 6 + 1, none⟩ = some (.string (bs pr.c1)) ∧ v.cell? ⟨pb, k * 6 + 2, none⟩ = some (.string (bs pr.c2)) ∧ v.cell? ⟨pb, k * 6 + 3, none⟩ = some (.string (bs pr.c3)) ∧ v.cell? ⟨pb, k * 6 + 4, none⟩ = some (.string (bs pr.c4)) ∧ v.cell? ⟨pb, k * 6 + 5, none⟩ = some (.int .i64 pr.ten) ∧ v.cell? ⟨pw, k * 6, none⟩ = some (.string (bs pr.c0)) ∧ v.cell? ⟨pw, k * 6 + 1, none⟩ = some (.string (bs pr.c1)) ∧ v.cell? ⟨pw, k * 6 + 2, none⟩ = some (.string (bs pr.c2)) ∧ v.cell? ⟨pw, k * 6 + 3, none⟩ = some (.string (bs pr.c3)) ∧ v.cell? ⟨pw, k * 6 + 4, none⟩ = some (.string (bs pr.c4)) ∧ v.cell? ⟨pw, k * 6 + 5, none⟩ = some (.int .i64 pr.ten))
        (first | with_reducible exact hP10 | with_reducible exact hP10d)
        (first | fail)
      go_wp2
      go_ret
      exact ⟨rfl, hB.drew⟩

theorem tells_law (atom prf : Int) (w : World) (hT : Frac.OfTen w) (_ : -9223372036854775808 ≤ atom ∧ atom ≤ 9223372036854775807) (_ : -9223372036854775808 ≤ prf ∧ prf ≤ 9223372036854775807) :
    Calls Tryd.prog 3 #[.int .i64 atom, .int .i64 prf] w fun e w' => e = .returned (.bool true) ∧ Below w.heap.size w w' := tells_walk atom prf w hT

end Go.Proofs.YtfgnmghkeccncaaDoor.Atoms

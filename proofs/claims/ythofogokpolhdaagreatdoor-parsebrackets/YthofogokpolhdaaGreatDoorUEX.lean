/-
  Contract of tree.mayBe. Steps in memory, as they are read: any part of a slice. Contracts of the closure of tree.Sound, of tree.Sound. Contract of tree.Sound.
-/
import Derived.Test.YthofogokpolhdaaGreatDoorUBX
import Derived.Test.YthofogokpolhdaaGreatDoorAFX
import Derived.StillTailTactics
namespace Go.Proofs.YthofogokpolhdaaGreatDoor.Trees
open Go.RowKit Go.Shelf
open Go.Proofs.YthofogokpolhdaaGreatDoor.Style (bs bs_size bs_at getD_at bs_of)
open Go.Proofs.YthofogokpolhdaaGreatDoor.Toks (cell_lt cell_same)
open Go.Proofs.YthofogokpolhdaaGreatDoor.Atoms (Row Pre)
set_option linter.unusedVariables false
set_option linter.unusedSimpArgs false

theorem TabAt.go {w w' : World} {oa : Option Addr} {ca : Nat} {rows : List Row} (h : TabAt w oa ca rows) (hb : Below w.heap.size w w') : TabAt w' oa ca rows := fun i hi => by
  obtain ⟨b, e, hc⟩ := h i hi
  exact ⟨b, e, (hb.cell (p := ⟨b, i * 12 + 5, none⟩) (cell_lt hc)).trans hc⟩
/-- A step in a block of its own. -/
structure StAt (W : World) (b : Nat) (x : Stp) : Prop where
  c0 : W.cell? ⟨b, 0, none⟩ = some (.int .i64 x.op)
  c1 : W.cell? ⟨b, 1, none⟩ = some (.int .i64 x.pf)
  c2 : W.cell? ⟨b, 2, none⟩ = some (.int .i64 x.atom)
  c3 : W.cell? ⟨b, 3, none⟩ = some (.int .i64 x.n)
  c4 : W.cell? ⟨b, 4, none⟩ = some (.int .i64 x.num)
  c5 : W.cell? ⟨b, 5, none⟩ = some (.string (bs x.text))
theorem StAt.go {W W' : World} {b : Nat} {x : Stp} (h : StAt W b x) (hb : Below W.heap.size W W') : StAt W' b x :=
  ⟨(hb.cell (p := ⟨b, 0, none⟩) (cell_lt h.c0)).trans h.c0, (hb.cell (p := ⟨b, 1, none⟩) (cell_lt h.c0)).trans h.c1, (hb.cell (p := ⟨b, 2, none⟩) (cell_lt h.c0)).trans h.c2, (hb.cell (p := ⟨b, 3, none⟩) (cell_lt h.c0)).trans h.c3, (hb.cell (p := ⟨b, 4, none⟩) (cell_lt h.c0)).trans h.c4, (hb.cell (p := ⟨b, 5, none⟩) (cell_lt h.c0)).trans h.c5⟩
theorem StAt.new (w : World) (x : Stp) : StAt (w.alloc (.cells x.cs 47)) w.heap.size x :=
  ⟨by simp [go_sem, Stp.cs], by simp [go_sem, Stp.cs], by simp [go_sem, Stp.cs], by simp [go_sem, Stp.cs], by simp [go_sem, Stp.cs], by simp [go_sem, Stp.cs]⟩
theorem StAt.new2 (w : World) (o : Obj) (x y : Stp) : StAt (((w.alloc o).alloc (.cells x.cs 47)).alloc (.cells y.cs 47)) (w.heap.size + 1) x := by
  have h := StAt.new (w.alloc o) x
  rw [World.size_alloc] at h
  exact h.go ((Below.refl _ _).alloc (Nat.le_refl _) _)
theorem StAt.new3 (w : World) (o : Obj) (x y : Stp) : StAt (((w.alloc o).alloc (.cells x.cs 47)).alloc (.cells y.cs 47)) (w.heap.size + 1 + 1) y := by
  have h := StAt.new ((w.alloc o).alloc (.cells x.cs 47)) y
  rw [World.size_alloc, World.size_alloc] at h
  exact h
theorem empty_iff (t : List UInt8) : (bs t).toList.isEmpty = decide (t = []) := by
  rw [bs_list]; cases t <;> rfl
theorem may_1 (ok : Int → Int → Bool) (pf at0 n num : Int) (t : List UInt8) : mayZ ok ⟨1, pf, at0, n, num, t⟩ = (decide (1 ≤ num) && (pf == -1 && (at0 == 0 && (n == 0 && (bs t).toList.isEmpty)))) := by
  rw [empty_iff, Bool.eq_iff_iff]; simp [mayZ]
theorem may_2 (ok : Int → Int → Bool) (pf at0 n num : Int) (t : List UInt8) : mayZ ok ⟨2, pf, at0, n, num, t⟩ = ((ok pf at0 && (decide (-99 ≤ n) && decide (n ≤ 99))) && (num == 0 && (bs t).toList.isEmpty)) := by
  rw [empty_iff, Bool.eq_iff_iff]; simp [mayZ]
theorem may_345 (ok : Int → Int → Bool) (o pf at0 n num : Int) (t : List UInt8) (h : o = 3 ∨ o = 4 ∨ o = 5) : mayZ ok ⟨o, pf, at0, n, num, t⟩ = (pf == -1 && (at0 == 0 && (n == 0 && (num == 0 && (bs t).toList.isEmpty)))) := by
  rw [empty_iff, Bool.eq_iff_iff]
  rcases h with rfl | rfl | rfl <;> simp [mayZ]
theorem may_67 (ok : Int → Int → Bool) (o pf at0 n num : Int) (t : List UInt8) (h : o = 6 ∨ o = 7) : mayZ ok ⟨o, pf, at0, n, num, t⟩ = (fineT t && (pf == -1 && (at0 == 0 && (n == 0 && num == 0)))) := by
  rw [Bool.eq_iff_iff]
  rcases h with rfl | rfl <;> simp [mayZ]
theorem may_no (ok : Int → Int → Bool) (o pf at0 n num : Int) (t : List UInt8) (h : ¬ (o = 1 ∨ o = 2 ∨ o = 3 ∨ o = 4 ∨ o = 5 ∨ o = 6 ∨ o = 7)) : mayZ ok ⟨o, pf, at0, n, num, t⟩ = false := by
  unfold mayZ
  rw [if_neg (by simp only; omega), if_neg (by simp only; omega), if_neg (by simp only; omega), if_neg (by simp only; omega)]

set_option maxRecDepth 100000 in
set_option maxHeartbeats 4000000 in
theorem may_any (oa op : Option Addr) (ca cp : Nat) (rows : List Row) (np : Nat) (x : Stp) (w : World) (hl : rows.length ≤ 1000) (hc : rows.length ≤ ca) (hnp : np ≤ 1000) (hT : TabAt w oa ca rows) (htl : x.text.length ≤ 9223372036854775807) :
    Calls Tryz.prog 44 #[.agg #[.slice oa rows.length ca, .slice op np cp], x.v] w fun e w' => e = .returned (.bool (mayZ (symZ rows np) x)) ∧ Below w.heap.size w w' := by
  obtain ⟨o, pf, at0, n, num, text⟩ := x
  simp only [Stp.v]
  simp only at htl
  have heq := eqv_step
  by_cases h1 : o = 1
  · subst h1
    rw [may_1]
    by_cases hn : 1 ≤ num
    · rw [decide_eq_true hn, Bool.true_and]
      go_enter Tryz.func44, Tryz.ntmps44
      go_wp2_with fail
      go_ret
      exact ⟨by first | rfl | simp, by go_grown⟩
    · rw [decide_eq_false hn, Bool.false_and]
      go_enter Tryz.func44, Tryz.ntmps44
      go_wp2_with fail
      go_ret
      exact ⟨by first | rfl | simp, by go_grown⟩
  by_cases h2 : o = 2
  · subst h2
    rw [may_2]
    have hS := fun W (h : TabAt W oa ca rows) => sym_any oa op ca cp rows np pf at0 W hl hc hnp h
    generalize symZ rows np pf at0 = b at *
    obtain ⟨R, hR⟩ : ∃ R, ((b && (decide (-99 ≤ n) && decide (n ≤ 99))) && (num == 0 && (bs text).toList.isEmpty)) = R := ⟨_, rfl⟩
    rw [hR]
    have HR := Lib.hid hR
    clear hR
    have hu : Below w.heap.size w ((((w.alloc (.cells #[.slice oa rows.length ca, .slice op np cp] 89)).alloc (.cells #[.int .i64 2, .int .i64 pf, .int .i64 at0, .int .i64 n, .int .i64 num, .string (bs text)] 47)).alloc (.cells #[.int .i64 2, .int .i64 pf, .int .i64 at0, .int .i64 n, .int .i64 0, .string (bs [])] 47)).drew) := by go_grown
    have hTW := hT.go hu
    have hx := StAt.new2 w (.cells #[.slice oa rows.length ca, .slice op np cp] 89) ⟨2, pf, at0, n, num, text⟩ ⟨2, pf, at0, n, 0, []⟩
    have hy := StAt.new3 w (.cells #[.slice oa rows.length ca, .slice op np cp] 89) ⟨2, pf, at0, n, num, text⟩ ⟨2, pf, at0, n, 0, []⟩
    simp only [Stp.cs] at hx hy
    go_enter Tryz.func44, Tryz.ntmps44
    go_upto_region 8 with fail
    go_region
    go_wp2_with fail
    replace hx := hx.go (Below.refl _ _).drew
    replace hy := hy.go (Below.refl _ _).drew
    change Calls _ _ _ ((((w.alloc (.cells #[.slice oa rows.length ca, .slice op np cp] 89)).alloc (.cells #[.int .i64 2, .int .i64 pf, .int .i64 at0, .int .i64 n, .int .i64 num, .string (bs text)] 47)).alloc (.cells #[.int .i64 2, .int .i64 pf, .int .i64 at0, .int .i64 n, .int .i64 0, .string (bs [])] 47)).drew) _
    generalize ((((w.alloc (.cells #[.slice oa rows.length ca, .slice op np cp] 89)).alloc (.cells #[.int .i64 2, .int .i64 pf, .int .i64 at0, .int .i64 n, .int .i64 num, .string (bs text)] 47)).alloc (.cells #[.int .i64 2, .int .i64 pf, .int .i64 at0, .int .i64 n, .int .i64 0, .string (bs [])] 47)).drew) = W at *
    refine (hS W hTW).mono ?_
    rintro e u ⟨rfl, hb⟩
    have hB := hu.trans (hb.mono hu.size)
    obtain ⟨x0, x1, x2, x3, x4, x5⟩ := hx.go hb
    obtain ⟨y0, y1, y2, y3, y4, y5⟩ := hy.go hb
    simp only at x0 x1 x2 x3 x4 x5 y0 y1 y2 y3 y4 y5
    clear hx hy hS hTW hu hb
    cases b with
    | false =>
      go_wp2
      go_ret
      exact ⟨by rw [← HR.out]; first | rfl | simp, by first | exact hB | go_grown⟩
    | true =>
      by_cases d1 : -99 ≤ n
      · have e1 : decide (-99 ≤ n) = true := decide_eq_true d1
        by_cases d2 : n ≤ 99
        · have e2 : decide (n ≤ 99) = true := decide_eq_true d2
          go_wp2
          go_ret
          exact ⟨by rw [← HR.out, e1, e2]; first | rfl | (simp [bs_list]; done) | (simp only [bs_list]; cases text <;> simp), by first | exact hB | go_grown⟩
        · have e2 : decide (n ≤ 99) = false := decide_eq_false d2
          go_wp2
          go_ret
          exact ⟨by rw [← HR.out, e1, e2]; first | rfl | (simp [bs_list]; done) | (simp only [bs_list]; cases text <;> simp), by first | exact hB | go_grown⟩
      · have e1 : decide (-99 ≤ n) = false := decide_eq_false d1
        go_wp2
        go_ret
        exact ⟨by rw [← HR.out, e1]; first | rfl | simp, by first | exact hB | go_grown⟩
  by_cases h3 : o = 3 ∨ o = 4 ∨ o = 5
  · rw [may_345 _ _ _ _ _ _ _ h3]
    rcases h3 with rfl | rfl | rfl
    all_goals
      go_enter Tryz.func44, Tryz.ntmps44
      go_wp2_with fail
      go_ret
      exact ⟨by first | rfl | simp, by go_grown⟩
  by_cases h6 : o = 6 ∨ o = 7
  · rw [may_67 _ _ _ _ _ _ _ h6]
    have hP := fun W => plain_any text W htl
    generalize fineT text = b at *
    rcases h6 with rfl | rfl
    all_goals
      go_enter Tryz.func44, Tryz.ntmps44
      go_wp2_with fail
      refine (hP _).mono ?_
      rintro e w2 ⟨rfl, rfl⟩
      cases b
      all_goals
        go_wp2_with fail
        go_ret
        exact ⟨by first | rfl | simp, by go_grown⟩
  rw [may_no _ _ _ _ _ _ _ (by omega)]
  have e1 : (o == 1) = false := by simpa using h1
  have e2 : (o == 2) = false := by simpa using h2
  have e3 : (o == 3) = false := by simp; omega
  have e4 : (o == 4) = false := by simp; omega
  have e5 : (o == 5) = false := by simp; omega
  have e6 : (o == 6) = false := by simp; omega
  have e7 : (o == 7) = false := by simp; omega
  clear h1 h2 h3 h6
  go_enter Tryz.func44, Tryz.ntmps44
  go_wp2_with fail
  go_ret
  exact ⟨by first | rfl | simp, by go_grown⟩

end Go.Proofs.YthofogokpolhdaaGreatDoor.Trees

namespace Go.Proofs.YthofogokpolhdaaGreatDoor.Trees
open Go.RowKit Go.Shelf
open Go.Proofs.YthofogokpolhdaaGreatDoor.Style (bs bs_size bs_at getD_at bs_of)
open Go.Proofs.YthofogokpolhdaaGreatDoor.Toks (cell_lt cell_same)
set_option linter.unusedVariables false
set_option linter.unusedSimpArgs false

/-- The value s is a slice that reads as these steps. -/
def View (w : World) (s : Value) (L : List Stp) : Prop :=
  ∃ o c, s = .slice o L.length c ∧ L.length ≤ c ∧ ∀ i, i < L.length → ∃ b off, o = some ⟨b, off, none⟩ ∧
    w.cell? ⟨b, off + i * 6, none⟩ = some (.int .i64 (L.getD i default).op) ∧ w.cell? ⟨b, off + i * 6 + 1, none⟩ = some (.int .i64 (L.getD i default).pf)
    ∧ w.cell? ⟨b, off + i * 6 + 2, none⟩ = some (.int .i64 (L.getD i default).atom) ∧ w.cell? ⟨b, off + i * 6 + 3, none⟩ = some (.int .i64 (L.getD i default).n)
    ∧ w.cell? ⟨b, off + i * 6 + 4, none⟩ = some (.int .i64 (L.getD i default).num) ∧ w.cell? ⟨b, off + i * 6 + 5, none⟩ = some (.string (bs (L.getD i default).text))
theorem View.go {w w' : World} {s : Value} {L : List Stp} (h : View w s L) (hb : Below w.heap.size w w') : View w' s L := by
  obtain ⟨o, c, e, hc, h⟩ := h
  refine ⟨o, c, e, hc, fun i hi => ?_⟩
  obtain ⟨b, off, eo, c0, c1, c2, c3, c4, c5⟩ := h i hi
  exact ⟨b, off, eo, (hb.cell (p := ⟨b, _, none⟩) (cell_lt c0)).trans c0, (hb.cell (p := ⟨b, _, none⟩) (cell_lt c0)).trans c1, (hb.cell (p := ⟨b, _, none⟩) (cell_lt c0)).trans c2, (hb.cell (p := ⟨b, _, none⟩) (cell_lt c0)).trans c3, (hb.cell (p := ⟨b, _, none⟩) (cell_lt c0)).trans c4, (hb.cell (p := ⟨b, _, none⟩) (cell_lt c0)).trans c5⟩
theorem View.drew {w : World} {s : Value} {L : List Stp} (h : View w s L) : View w.drew s L := h.go (Below.refl _ _).drew
theorem View.nil (w : World) (o : Option Addr) (c : Nat) : View w (.slice o 0 c) [] := ⟨o, c, rfl, Nat.zero_le _, fun i hi => absurd hi (by simp)⟩
theorem View.slice {w : World} {s : Value} {L : List Stp} (h : View w s L) : ∃ o c, s = .slice o L.length c ∧ L.length ≤ c := by
  obtain ⟨o, c, e, hc, _⟩ := h; exact ⟨o, c, e, hc⟩
/-- The first ones. -/
theorem View.take {w : World} {o : Option Addr} {c n : Nat} {L : List Stp} (h : View w (.slice o L.length c) L) (hn : n ≤ L.length) : View w (.slice o n c) (L.take n) := by
  obtain ⟨o', c', e, hc, h⟩ := h
  injection e with e1 e2 e3
  subst e1 e3
  have hl : (L.take n).length = n := by rw [List.length_take]; omega
  refine ⟨o, c, by rw [hl], by omega, fun i hi => ?_⟩
  rw [hl] at hi
  rw [show (L.take n).getD i default = L.getD i default by rw [List.getD_eq_getElem?_getD, List.getD_eq_getElem?_getD, List.getElem?_take_of_lt hi]]
  exact h i (by omega)
/-- What stands behind the first ones. -/
theorem View.rest {w : World} {b off c n : Nat} {L : List Stp} (h : View w (.slice (some ⟨b, off, none⟩) L.length c) L) (hn : n ≤ L.length) : View w (.slice (some ⟨b, off + n * 6, none⟩) (L.length - n) (c - n)) (L.drop n) := by
  obtain ⟨o', c', e, hc, h⟩ := h
  injection e with e1 e2 e3
  subst e1 e3
  have hl : (L.drop n).length = L.length - n := List.length_drop
  refine ⟨_, _, by rw [hl], by omega, fun i hi => ?_⟩
  rw [hl] at hi
  rw [show (L.drop n).getD i default = L.getD (n + i) default by rw [List.getD_eq_getElem?_getD, List.getD_eq_getElem?_getD, List.getElem?_drop]]
  obtain ⟨b', off', eo, h⟩ := h (n + i) (by omega)
  injection eo with eo
  injection eo with e1 e2
  subst e1 e2
  rw [show off + (n + i) * 6 = off + n * 6 + i * 6 by omega] at h
  exact ⟨b, _, rfl, h⟩

end Go.Proofs.YthofogokpolhdaaGreatDoor.Trees

namespace Go.Proofs.YthofogokpolhdaaGreatDoor.Trees
open Go.RowKit Go.Shelf
open Go.Proofs.YthofogokpolhdaaGreatDoor.Style (bs bs_size bs_at getD_at bs_of)
open Go.Proofs.YthofogokpolhdaaGreatDoor.Toks (cell_lt cell_same)
open Go.Proofs.YthofogokpolhdaaGreatDoor.Atoms (Row Pre tableRs tablePs TableAt TableEnd table_any)
set_option linter.unusedVariables false
set_option linter.unusedSimpArgs false

set_option maxRecDepth 100000 in
theorem find_any (b : Nat) (k : Nat) (op : Int) (w : World) (hc : w.cell? ⟨b, 0, none⟩ = some (.int .i64 (k : Int))) (hf : w.frozen? ⟨b, 0, none⟩ = false) (hk : k ≤ 1000) :
    Calls Tryz.prog 41 #[.int .i64 op, .pointer (some ⟨b, 0, none⟩)] w fun e w' => e = .returned (.bool (decide (takesZ op ≤ k))) ∧ Toks.Only b w w' ∧ w'.cell? ⟨b, 0, none⟩ = some (.int .i64 ((k : Int) + (1 - (takesZ op : Int)))) ∧ w'.frozen? ⟨b, 0, none⟩ = false := by
  have hT := fun W => takes_any op W
  have ht := takes_le op
  generalize takesZ op = m at *
  have hmi : (m : Int) ≤ 2 := by omega
  have hki : (k : Int) ≤ 1000 := by omega
  go_enter Tryz.func41, Tryz.ntmps41
  go_wp2_with fail
  go_quiet (first | (go_at_call 42; exact Calls.quiet_of_same ((hT _).mono fun e w' h => ⟨h.1, h.2.symm⟩)))
  go_wp2_with fail
  have hO : Toks.Only b w (w.drewN nq) := ⟨rfl, rfl, rfl, rfl, fun _ _ => rfl⟩
  have hc2 : (w.drewN nq).cell? ⟨b, 0, none⟩ = some (.int .i64 (k : Int)) := hc
  have hf2 : (w.drewN nq).frozen? ⟨b, 0, none⟩ = false := hf
  clear hc hf
  generalize w.drewN nq = W at *
  have hO3 : Toks.Only b w W.drew := ⟨hO.os, hO.tape, hO.output, hO.size, hO.block⟩
  have hc3 : W.drew.cell? ⟨b, 0, none⟩ = some (.int .i64 (k : Int)) := hc2
  have hf3 : W.drew.frozen? ⟨b, 0, none⟩ = false := hf2
  have hw1 : IntKind.i64.wrap (1 - (m : Int)) = 1 - (m : Int) := by unfold IntKind.wrap; simp [IntKind.bits, IntKind.signed]; omega
  have hw2 : IntKind.i64.wrap ((k : Int) + (1 - (m : Int))) = (k : Int) + (1 - (m : Int)) := by unfold IntKind.wrap; simp [IntKind.bits, IntKind.signed]; omega
  go_still_tail 5, (by kernel_rfl)
  still_call ((hT _).mono fun e w' h => ⟨h.1, h.2.symm⟩)
  repeat still_step
  refine wpStill_nil ?_
  change wpList _ _ _ _ _ W.drew
  clear hc2 hf2 hO hT
  generalize W.drew = V at *
  go_wp2
  go_ret
  refine ⟨rfl, hO3.set 0 _, ?_, ?_⟩
  · exact World.cell?_setCell_same _ _ _ hc3
  · rw [World.frozen?_setCell]; exact hf3

theorem cnt_next {ok : Int → Int → Bool} {L : List Stp} {i k : Nat} (hi : i < L.length) (h : cntZ ok (L.take i) 0 = some k) :
    cntZ ok (L.take (i + 1)) 0 = (if mayZ ok (L.getD i default) = true ∧ takesZ (L.getD i default).op ≤ k then some (k - takesZ (L.getD i default).op + 1) else none) := by
  rw [List.take_succ_eq_append_getElem hi, cnt_app, h]
  show cntZ ok [L[i]] k = _
  rw [cnt_one, show L.getD i default = L[i] by rw [List.getD_eq_getElem?_getD, List.getElem?_eq_getElem hi]; rfl]
theorem cnt_stop {ok : Int → Int → Bool} {L : List Stp} {i : Nat} (h : cntZ ok (L.take i) 0 = none) : cntZ ok L 0 = none := by
  have : L = L.take i ++ L.drop i := (List.take_append_drop i L).symm
  rw [this, cnt_app, h]; rfl
theorem cnt_le (ok : Int → Int → Bool) : ∀ (L : List Stp) (k m : Nat), cntZ ok L k = some m → m ≤ k + L.length
  | [], k, m, h => by injection h with h; simp; omega
  | x :: r, k, m, h => by
    simp only [cntZ] at h
    split at h
    · have := cnt_le ok r _ m h
      simp only [List.length_cons]; omega
    · cases h

def symT : Int → Int → Bool := symZ tableRs tablePs.length
theorem table_len : tableRs.length = 48 ∧ tablePs.length ≤ 100 := by decide +kernel
/-- Of a table in memory, what is looked at. -/
theorem tab_of {B : Nat} {w : World} {oa : Option Addr} {n ca : Nat} {sp : Value} {rows : List Row} {S : Nat → Value} {ps : List Pre} (h : TableAt B w (.slice oa n ca) sp rows S ps) : n = rows.length ∧ rows.length ≤ ca ∧ TabAt w oa ca rows ∧ (∃ op cp, sp = .slice op ps.length cp) ∧ (∀ a, oa = some a → B ≤ a.block) := by
  obtain ⟨hA, hP, ha, hp, _⟩ := h
  refine ⟨?_, ?_, ?_, ?_, fun a e => ha a n ca (by rw [e])⟩
  · rcases hA.1 with ⟨h0, e⟩ | ⟨b, c, e, _⟩
    · injection e with _ e2; omega
    · injection e with _ e2
  · rcases hA.1 with ⟨h0, e⟩ | ⟨b, c, e, hc, _⟩
    · omega
    · injection e with _ _ e3; omega
  · intro i hi
    rcases hA.1 with ⟨h0, e⟩ | ⟨b, c, e, hc, hm, hg⟩
    · omega
    · injection e with e1 _ _
      exact ⟨b, e1, hg.1 i hi 5 (by omega)⟩
  · rcases hP with ⟨h0, e⟩ | ⟨b, c, e, hc, hm, hg⟩
    · exact ⟨none, 0, by rw [e, h0]⟩
    · exact ⟨_, c, e⟩
theorem TabAt.other {w : World} {oa : Option Addr} {ca : Nat} {rows : List Row} (h : TabAt w oa ca rows) {B b : Nat} (hb : b < B) (ha : ∀ a, oa = some a → B ≤ a.block) (u : Value) : TabAt (w.setCell ⟨b, 0, none⟩ u) oa ca rows := fun i hi => by
  obtain ⟨b', e, hc⟩ := h i hi
  have := ha _ e
  refine ⟨b', e, ?_⟩
  rw [World.cell?_setCell_other _ _ _ _ (by intro hh; injection hh with e1 _; simp only at this; omega)]
  exact hc

end Go.Proofs.YthofogokpolhdaaGreatDoor.Trees

namespace Go.Proofs.YthofogokpolhdaaGreatDoor.Trees
open Go.RowKit Go.Shelf
open Go.Proofs.YthofogokpolhdaaGreatDoor.Style (bs bs_size bs_at getD_at bs_of)
open Go.Proofs.YthofogokpolhdaaGreatDoor.Toks (cell_lt cell_same)
open Go.Proofs.YthofogokpolhdaaGreatDoor.Atoms (Row Pre tableRs tablePs TableAt TableEnd table_any)
set_option linter.unusedVariables false
set_option linter.unusedSimpArgs false
attribute [local irreducible] tableRs tablePs symZ mayZ

theorem TabAt.only {w W W' : World} {oa : Option Addr} {ca : Nat} {rows : List Row} {b : Nat} (h : TabAt W oa ca rows) (ho : Toks.Only b W W') (ha : ∀ a, oa = some a → b + 1 ≤ a.block) : TabAt W' oa ca rows := fun i hi => by
  obtain ⟨b', e, hc⟩ := h i hi
  have := ha _ e
  exact ⟨b', e, cell_same hc (ho.block b' (by simp only at this; omega))⟩
/-- While Sound goes: the count's box, the table, its box, the steps. -/
structure SoI (w W : World) (s : Value) (L : List Stp) (tb : Nat) (oa op : Option Addr) (ca np cp : Nat) (k : Nat) : Prop where
  c : W.cell? ⟨w.heap.size, 0, none⟩ = some (.int .i64 (k : Int))
  f : W.frozen? ⟨w.heap.size, 0, none⟩ = false
  tab : TabAt W oa ca tableRs
  ab : ∀ a, oa = some a → w.heap.size + 1 ≤ a.block
  t0 : W.cell? ⟨tb, 0, none⟩ = some (.slice oa tableRs.length ca)
  t1 : W.cell? ⟨tb, 1, none⟩ = some (.slice op np cp)
  tl : w.heap.size < tb
  view : View w s L
  below : Below w.heap.size w W
theorem SoI.go {w W W' : World} {s : Value} {L : List Stp} {tb : Nat} {oa op : Option Addr} {ca np cp k : Nat} (h : SoI w W s L tb oa op ca np cp k) (hb : Below W.heap.size W W') : SoI w W' s L tb oa op ca np cp k :=
  ⟨(hb.cell (p := ⟨w.heap.size, 0, none⟩) (cell_lt h.c)).trans h.c, (hb.frozen (p := ⟨w.heap.size, 0, none⟩) (cell_lt h.c)).trans h.f, h.tab.go hb, h.ab, (hb.cell (p := ⟨tb, 0, none⟩) (cell_lt h.t0)).trans h.t0, (hb.cell (p := ⟨tb, 1, none⟩) (cell_lt h.t0)).trans h.t1, h.tl, h.view, h.below.trans (hb.mono h.below.size)⟩
theorem SoI.count {w W W' : World} {s : Value} {L : List Stp} {tb : Nat} {oa op : Option Addr} {ca np cp k k' : Nat} (h : SoI w W s L tb oa op ca np cp k) (ho : Toks.Only w.heap.size W W') (hc : W'.cell? ⟨w.heap.size, 0, none⟩ = some (.int .i64 (k' : Int))) (hf : W'.frozen? ⟨w.heap.size, 0, none⟩ = false) : SoI w W' s L tb oa op ca np cp k' :=
  ⟨hc, hf, h.tab.only (w := w) ho h.ab, h.ab, cell_same h.t0 (ho.block tb (by have := h.tl; omega)), cell_same h.t1 (ho.block tb (by have := h.tl; omega)), h.tl, h.view, h.below.trans (ho.below (Nat.le_refl _))⟩
theorem SoI.now {w W : World} {s : Value} {L : List Stp} {tb : Nat} {oa op : Option Addr} {ca np cp k : Nat} (h : SoI w W s L tb oa op ca np cp k) : View W s L := h.view.go h.below

set_option maxRecDepth 100000 in
set_option maxHeartbeats 4000000 in
theorem sound_any (s : Value) (L : List Stp) (w : World) (hV : View w s L) (hF : ∀ x ∈ L, x.text.length ≤ 9223372036854775807) (hl : L.length ≤ 100000) :
    Calls Tryz.prog 27 #[s] w fun e w' => e = .returned (.bool (soundZ symT L)) ∧ Below w.heap.size w w' := by
  obtain ⟨o, c, rfl, hlc⟩ := hV.slice
  have hli : (L.length : Int) ≤ 100000 := by omega
  by_cases h255 : 255 < L.length
  · have hz : soundZ symT L = false := by unfold soundZ; rw [decide_eq_false (by omega), Bool.false_and]
    rw [hz]
    have hi : (255 : Int) < L.length := by omega
    clear hV hF
    go_enter Tryz.func27, Tryz.ntmps27
    go_wp2_with fail
    go_ret
    exact ⟨rfl, by first | exact Below.refl _ _ | go_grown⟩
  have hi : ¬ (255 : Int) < L.length := by omega
  have hz : soundZ symT L = (cntZ symT L 0 == some 1) := by unfold soundZ; rw [decide_eq_true (by omega), Bool.true_and]
  rw [hz]
  obtain ⟨R, hR⟩ : ∃ R, (cntZ symT L 0 == some 1) = R := ⟨_, rfl⟩
  rw [hR]
  have HR := Lib.hid hR
  clear hR hz
  have hTb := fun W => table_any W
  have hu : Below w.heap.size w (w.alloc (.cells #[.int .i64 0] 3)) := by go_grown
  have hc0 : (w.alloc (.cells #[.int .i64 0] 3)).cell? ⟨w.heap.size, 0, none⟩ = some (.int .i64 0) := by simp [go_sem]
  have hf0 : (w.alloc (.cells #[.int .i64 0] 3)).frozen? ⟨w.heap.size, 0, none⟩ = false := by simp [go_sem]
  have hsz : (w.alloc (.cells #[.int .i64 0] 3)).heap.size = w.heap.size + 1 := World.size_alloc _ _
  go_enter Tryz.func27, Tryz.ntmps27
  go_wp2_with fail
  generalize w.alloc (.cells #[.int .i64 0] 3) = W0 at *
  refine (hTb W0).mono ?_
  rintro e w1 ⟨sa, sp, S, rfl, hTA, hb1⟩
  obtain ⟨oa, na, ca, rfl⟩ : ∃ o n c, sa = Value.slice o n c := by
    rcases hTA.atoms.1 with ⟨_, e⟩ | ⟨b, c, e, _⟩
    · exact ⟨_, _, _, e⟩
    · exact ⟨_, _, _, e⟩
  obtain ⟨rfl, hca, hTab, ⟨op, cp, rfl⟩, hab⟩ := tab_of hTA
  have hu1 : Below w1.heap.size w1 (w1.alloc (.cells #[.slice oa tableRs.length ca, .slice op tablePs.length cp] 89)) := (Below.refl _ _).alloc (Nat.le_refl _) _
  have hz1 := hb1.size
  have hI : SoI w (w1.alloc (.cells #[.slice oa tableRs.length ca, .slice op tablePs.length cp] 89)) (.slice o L.length c) L w1.heap.size oa op ca tablePs.length cp 0 :=
    ⟨(hu1.cell (p := ⟨w.heap.size, 0, none⟩) (by show w.heap.size < w1.heap.size; omega)).trans ((hb1.cell (p := ⟨w.heap.size, 0, none⟩) (cell_lt hc0)).trans hc0), (hu1.frozen (p := ⟨w.heap.size, 0, none⟩) (by show w.heap.size < w1.heap.size; omega)).trans ((hb1.frozen (p := ⟨w.heap.size, 0, none⟩) (cell_lt hc0)).trans hf0), hTab.go hu1, fun a e => by have := hab a e; omega, by simp [go_sem], by simp [go_sem], by omega, hV, (hu.trans (hb1.mono hu.size)).trans (hu1.mono (by have := hu.size; omega))⟩
  have hM : ∀ (x : Stp), x ∈ L → ∀ W, TabAt W oa ca tableRs → Calls Tryz.prog 44 #[.agg #[.slice oa tableRs.length ca, .slice op tablePs.length cp], x.v] W fun e w' => e = .returned (.bool (mayZ symT x)) ∧ Below W.heap.size W w' :=
    fun x hx W hT => may_any oa op ca cp tableRs tablePs.length x W (by have := table_len.1; omega) hca (by have := table_len.2; omega) hT (hF x hx)
  have hML := Lib.hid hM
  have hD := fun (k : Nat) (x : Int) (W : World) (h1 : W.cell? ⟨w.heap.size, 0, none⟩ = some (.int .i64 (k : Int))) (h2 : W.frozen? ⟨w.heap.size, 0, none⟩ = false) (h3 : k ≤ 1000) => find_any w.heap.size k x W h1 h2 h3
  clear hTA hTab hab hb1 hu hu1 hc0 hf0 hsz hTb hV hM hF hca hz1
  generalize tablePs.length = np at *
  go_wp2_with fail
  generalize w1.alloc (.cells #[.slice oa tableRs.length ca, .slice op np cp] 89) = W1 at *
  go_loopw [7, 15] (fun x y wr => ∃ (i k : Nat), y = .int .i64 (i : Int) ∧ i ≤ L.length ∧ Hid (cntZ symT (L.take i) 0 = some k) ∧ SoI w wr (.slice o L.length c) L w1.heap.size oa op ca np cp k) (fun _ y _ => (L.length - intOf y).toNat)
  case atStart => exact ⟨0, 0, rfl, by omega, by show _ = _; rfl, hI⟩
  case round =>
    clear hI
    obtain ⟨i, k, rfl, hil, HJ, hI⟩ := hrel
    have hk : k ≤ i := by
      have := cnt_le symT (L.take i) 0 k HJ.out
      rw [List.length_take] at this; omega
    by_cases hlt : i < L.length
    · have hii : (i : Int) < L.length := by omega
      have hn := cnt_next hlt HJ.out
      have hmem : L.getD i default ∈ L := by rw [List.getD_eq_getElem?_getD, List.getElem?_eq_getElem hlt]; exact List.getElem_mem _
      have hM := fun W (h : TabAt W oa ca tableRs) => hML.out (L.getD i default) hmem W h
      obtain ⟨o', c', e', hc', hv⟩ := hI.now
      obtain ⟨b, off, eo, v0, v1, v2, v3, v4, v5⟩ := hv i hlt
      injection e' with e1 e2 e3
      subst e1 e3
      subst eo
      obtain ⟨x, hx⟩ : ∃ x, L.getD i default = x := ⟨_, rfl⟩
      rw [hx] at hn hM v0 v1 v2 v3 v4 v5
      clear hx hmem hv
      have hu2 : Below wr.heap.size wr (wr.alloc (.cells x.cs 47)) := (Below.refl _ _).alloc (Nat.le_refl _) _
      have hI2 := hI.go hu2
      have hx2 := StAt.new wr x
      obtain ⟨xo, xp, xa, xn, xm, xt⟩ := x
      simp only [Stp.cs, Stp.v] at hu2 hI2 hx2 hM
      simp only at v0 v1 v2 v3 v4 v5 hn
      have t0 := hI2.t0
      have t1 := hI2.t1
      obtain ⟨q0, q1, q2, q3, q4, q5⟩ := id hx2
      simp only at q0 q1 q2 q3 q4 q5
      have HN := Lib.hid hn
      clear hn hI hu2
      generalize mayZ symT ⟨xo, xp, xa, xn, xm, xt⟩ = may at *
      go_upto_region 9 with fail
      generalize wr.alloc (.cells #[.int .i64 xo, .int .i64 xp, .int .i64 xa, .int .i64 xn, .int .i64 xm, .string (bs xt)] 47) = W2 at *
      clear v0 v1 v2 v3 v4 v5
      go_wp2_with fail
      refine (hM W2 hI2.tab).mono ?_
      rintro e W3 ⟨rfl, hb3⟩
      have hI3 := hI2.go hb3
      obtain ⟨r0, r1, r2, r3, r4, r5⟩ := hx2.go hb3
      simp only at r0
      clear q0 q1 q2 q3 q4 q5 t0 t1 hI2 hx2 hM
      have ht := takes_le xo
      have hD := hD k xo W3 hI3.c hI3.f (by omega)
      cases may with
      | false =>
        have hRf : Hid (false = R) := by
          show _ = _
          rw [← HR.out, cnt_stop (HN.out.trans (if_neg (by simp)))]; rfl
        clear HR HN hD
        go_wp2
        go_ret
        exact ⟨by rw [← hRf.out]; rfl, hI3.below⟩
      | true =>
        generalize takesZ xo = m at *
        by_cases hm : m ≤ k
        · have hN2 : cntZ symT (L.take (i + 1)) 0 = some (k - m + 1) := HN.out.trans (if_pos ⟨rfl, hm⟩)
          rw [decide_eq_true hm, show (k : Int) + (1 - (m : Int)) = ((k - m + 1 : Nat) : Int) by omega] at hD
          have HN2 := Lib.hid hN2
          clear hN2 HN HR
          go_wp2_with fail
          refine hD.mono ?_
          rintro e W4 ⟨rfl, ho, h1, h2⟩
          have hI4 := hI3.count ho h1 h2
          go_wp2_with fail
          exact ⟨⟨i + 1, k - m + 1, by simp, by omega, HN2, hI4⟩, by simp only [intOf]; omega⟩
        · have hRf : Hid (false = R) := by
            show _ = _
            rw [← HR.out, cnt_stop (HN.out.trans (if_neg (by simp; omega)))]; rfl
          rw [decide_eq_false hm] at hD
          clear HR HN
          go_wp2_with fail
          refine hD.mono ?_
          rintro e W4 ⟨rfl, ho, h1, h2⟩
          go_wp2_with fail
          go_ret
          exact ⟨by rw [← hRf.out]; rfl, hI3.below.trans (ho.below (Nat.le_refl _))⟩
    · have hii : ¬ (i : Int) < L.length := by omega
      have hR1 : Hid (((k : Int) == 1) = R) := by
        show _ = _
        have := HJ.out
        rw [List.take_of_length_le (by omega)] at this
        rw [← HR.out, this, Bool.eq_iff_iff]
        simp; omega
      have c0 := hI.c
      clear HR HJ
      go_wp2_with fail
      go_ret
      exact ⟨by rw [← hR1.out]; rfl, hI.below⟩

end Go.Proofs.YthofogokpolhdaaGreatDoor.Trees


/-
  Contract of tree.mayBe.
-/
import Derived.Test.YtgbhfhdhmkmpcaaUBX
namespace Go.Proofs.Ytgbhfhdhmkmpcaa.Trees
open Go.RowKit Go.Shelf
open Go.Proofs.Ytgbhfhdhmkmpcaa.Style (bs bs_size bs_at getD_at bs_of)
open Go.Proofs.Ytgbhfhdhmkmpcaa.Toks (cell_lt cell_same)
open Go.Proofs.Ytgbhfhdhmkmpcaa.Atoms (Row Pre)
set_option linter.unusedVariables false
set_option linter.unusedSimpArgs false

theorem TabAt.go {w w' : World} {oa : Option Addr} {ca : Nat} {rows : List Row} (h : TabAt w oa ca rows) (hb : Below w.heap.size w w') : TabAt w' oa ca rows := fun i hi => by
  obtain ⟨b, e, hc⟩ := h i hi
  exact ⟨b, e, (hb.cell (p := ⟨b, i * 12 + 5, none⟩) (cell_lt hc)).trans hc⟩
/-- A step in a block of its own. -/
structure StAt (W : World) (b : Nat) (x : Stp) : Prop where
  c0 : W.cell? ⟨b, 0, none⟩ = some (.int .i64 x.op)
  c1 : W.cell? ⟨b, 1, none⟩ = some (.int .i64 x.pf)
  c2 : W.cell? ⟨b, 2, none⟩ = some (.int .i64 x.atom)
  c3 : W.cell? ⟨b, 3, none⟩ = some (.int .i64 x.n)
  c4 : W.cell? ⟨b, 4, none⟩ = some (.int .i64 x.num)
  c5 : W.cell? ⟨b, 5, none⟩ = some (.string (bs x.text))
theorem StAt.go {W W' : World} {b : Nat} {x : Stp} (h : StAt W b x) (hb : Below W.heap.size W W') : StAt W' b x :=
  ⟨(hb.cell (p := ⟨b, 0, none⟩) (cell_lt h.c0)).trans h.c0, (hb.cell (p := ⟨b, 1, none⟩) (cell_lt h.c0)).trans h.c1, (hb.cell (p := ⟨b, 2, none⟩) (cell_lt h.c0)).trans h.c2, (hb.cell (p := ⟨b, 3, none⟩) (cell_lt h.c0)).trans h.c3, (hb.cell (p := ⟨b, 4, none⟩) (cell_lt h.c0)).trans h.c4, (hb.cell (p := ⟨b, 5, none⟩) (cell_lt h.c0)).trans h.c5⟩
theorem StAt.new (w : World) (x : Stp) : StAt (w.alloc (.cells x.cs 36)) w.heap.size x :=
  ⟨by simp [go_sem, Stp.cs], by simp [go_sem, Stp.cs], by simp [go_sem, Stp.cs], by simp [go_sem, Stp.cs], by simp [go_sem, Stp.cs], by simp [go_sem, Stp.cs]⟩
theorem StAt.new2 (w : World) (o : Obj) (x y : Stp) : StAt (((w.alloc o).alloc (.cells x.cs 36)).alloc (.cells y.cs 36)) (w.heap.size + 1) x := by
  have h := StAt.new (w.alloc o) x
  rw [World.size_alloc] at h
  exact h.go ((Below.refl _ _).alloc (Nat.le_refl _) _)
theorem StAt.new3 (w : World) (o : Obj) (x y : Stp) : StAt (((w.alloc o).alloc (.cells x.cs 36)).alloc (.cells y.cs 36)) (w.heap.size + 1 + 1) y := by
  have h := StAt.new ((w.alloc o).alloc (.cells x.cs 36)) y
  rw [World.size_alloc, World.size_alloc] at h
  exact h
theorem empty_iff (t : List UInt8) : (bs t).toList.isEmpty = decide (t = []) := by
  rw [bs_list]; cases t <;> rfl
theorem may_1 (ok : Int → Int → Bool) (pf at0 n num : Int) (t : List UInt8) : mayZ ok ⟨1, pf, at0, n, num, t⟩ = (decide (1 ≤ num) && (pf == -1 && (at0 == 0 && (n == 0 && (bs t).toList.isEmpty)))) := by
  rw [empty_iff, Bool.eq_iff_iff]; simp [mayZ]
theorem may_2 (ok : Int → Int → Bool) (pf at0 n num : Int) (t : List UInt8) : mayZ ok ⟨2, pf, at0, n, num, t⟩ = ((ok pf at0 && (decide (-99 ≤ n) && decide (n ≤ 99))) && (num == 0 && (bs t).toList.isEmpty)) := by
  rw [empty_iff, Bool.eq_iff_iff]; simp [mayZ]
theorem may_345 (ok : Int → Int → Bool) (o pf at0 n num : Int) (t : List UInt8) (h : o = 3 ∨ o = 4 ∨ o = 5) : mayZ ok ⟨o, pf, at0, n, num, t⟩ = (pf == -1 && (at0 == 0 && (n == 0 && (num == 0 && (bs t).toList.isEmpty)))) := by
  rw [empty_iff, Bool.eq_iff_iff]
  rcases h with rfl | rfl | rfl <;> simp [mayZ]
theorem may_67 (ok : Int → Int → Bool) (o pf at0 n num : Int) (t : List UInt8) (h : o = 6 ∨ o = 7) : mayZ ok ⟨o, pf, at0, n, num, t⟩ = (fineT t && (pf == -1 && (at0 == 0 && (n == 0 && num == 0)))) := by
  rw [Bool.eq_iff_iff]
  rcases h with rfl | rfl <;> simp [mayZ]
theorem may_no (ok : Int → Int → Bool) (o pf at0 n num : Int) (t : List UInt8) (h : ¬ (o = 1 ∨ o = 2 ∨ o = 3 ∨ o = 4 ∨ o = 5 ∨ o = 6 ∨ o = 7)) : mayZ ok ⟨o, pf, at0, n, num, t⟩ = false := by
  unfold mayZ
  rw [if_neg (by simp only; omega), if_neg (by simp only; omega), if_neg (by simp only; omega), if_neg (by simp only; omega)]

set_option maxRecDepth 100000 in
set_option maxHeartbeats 4000000 in
theorem may_any (oa op : Option Addr) (ca cp : Nat) (rows : List Row) (np : Nat) (x : Stp) (w : World) (hl : rows.length ≤ 1000) (hc : rows.length ≤ ca) (hnp : np ≤ 1000) (hT : TabAt w oa ca rows) (htl : x.text.length ≤ 9223372036854775807) :
    Calls Try.prog 21 #[.agg #[.slice oa rows.length ca, .slice op np cp], x.v] w fun e w' => e = .returned (.bool (mayZ (symZ rows np) x)) ∧ Below w.heap.size w w' := by
  obtain ⟨o, pf, at0, n, num, text⟩ := x
  simp only [Stp.v]
  simp only at htl
  have heq := eqv_step
  by_cases h1 : o = 1
  · subst h1
    rw [may_1]
    by_cases hn : 1 ≤ num
    · rw [decide_eq_true hn, Bool.true_and]
      go_enter Try.func21, Try.ntmps21
      go_wp2_with fail
      go_ret
      exact ⟨by first | rfl | simp, by go_grown⟩
    · rw [decide_eq_false hn, Bool.false_and]
      go_enter Try.func21, Try.ntmps21
      go_wp2_with fail
      go_ret
      exact ⟨by first | rfl | simp, by go_grown⟩
  by_cases h2 : o = 2
  · subst h2
    rw [may_2]
    have hS := fun W (h : TabAt W oa ca rows) => sym_any oa op ca cp rows np pf at0 W hl hc hnp h
    generalize symZ rows np pf at0 = b at *
    obtain ⟨R, hR⟩ : ∃ R, ((b && (decide (-99 ≤ n) && decide (n ≤ 99))) && (num == 0 && (bs text).toList.isEmpty)) = R := ⟨_, rfl⟩
    rw [hR]
    have HR := Lib.hid hR
    clear hR
    have hu : Below w.heap.size w ((((w.alloc (.cells #[.slice oa rows.length ca, .slice op np cp] 57)).alloc (.cells #[.int .i64 2, .int .i64 pf, .int .i64 at0, .int .i64 n, .int .i64 num, .string (bs text)] 36)).alloc (.cells #[.int .i64 2, .int .i64 pf, .int .i64 at0, .int .i64 n, .int .i64 0, .string (bs [])] 36)).drew) := by go_grown
    have hTW := hT.go hu
    have hx := StAt.new2 w (.cells #[.slice oa rows.length ca, .slice op np cp] 57) ⟨2, pf, at0, n, num, text⟩ ⟨2, pf, at0, n, 0, []⟩
    have hy := StAt.new3 w (.cells #[.slice oa rows.length ca, .slice op np cp] 57) ⟨2, pf, at0, n, num, text⟩ ⟨2, pf, at0, n, 0, []⟩
    simp only [Stp.cs] at hx hy
    go_enter Try.func21, Try.ntmps21
    go_upto_region 8 with fail
    go_region
    go_wp2_with fail
    replace hx := hx.go (Below.refl _ _).drew
    replace hy := hy.go (Below.refl _ _).drew
    change Calls _ _ _ ((((w.alloc (.cells #[.slice oa rows.length ca, .slice op np cp] 57)).alloc (.cells #[.int .i64 2, .int .i64 pf, .int .i64 at0, .int .i64 n, .int .i64 num, .string (bs text)] 36)).alloc (.cells #[.int .i64 2, .int .i64 pf, .int .i64 at0, .int .i64 n, .int .i64 0, .string (bs [])] 36)).drew) _
    generalize ((((w.alloc (.cells #[.slice oa rows.length ca, .slice op np cp] 57)).alloc (.cells #[.int .i64 2, .int .i64 pf, .int .i64 at0, .int .i64 n, .int .i64 num, .string (bs text)] 36)).alloc (.cells #[.int .i64 2, .int .i64 pf, .int .i64 at0, .int .i64 n, .int .i64 0, .string (bs [])] 36)).drew) = W at *
    refine (hS W hTW).mono ?_
    rintro e u ⟨rfl, hb⟩
    have hB := hu.trans (hb.mono hu.size)
    obtain ⟨x0, x1, x2, x3, x4, x5⟩ := hx.go hb
    obtain ⟨y0, y1, y2, y3, y4, y5⟩ := hy.go hb
    simp only at x0 x1 x2 x3 x4 x5 y0 y1 y2 y3 y4 y5
    clear hx hy hS hTW hu hb
    cases b with
    | false =>
      go_wp2
      go_ret
      exact ⟨by rw [← HR.out]; first | rfl | simp, by first | exact hB | go_grown⟩
    | true =>
      by_cases d1 : -99 ≤ n
      · have e1 : decide (-99 ≤ n) = true := decide_eq_true d1
        by_cases d2 : n ≤ 99
        · have e2 : decide (n ≤ 99) = true := decide_eq_true d2
          go_wp2
          go_ret
          exact ⟨by rw [← HR.out, e1, e2]; first | rfl | (simp [bs_list]; done) | (simp only [bs_list]; cases text <;> simp), by first | exact hB | go_grown⟩
        · have e2 : decide (n ≤ 99) = false := decide_eq_false d2
          go_wp2
          go_ret
          exact ⟨by rw [← HR.out, e1, e2]; first | rfl | (simp [bs_list]; done) | (simp only [bs_list]; cases text <;> simp), by first | exact hB | go_grown⟩
      · have e1 : decide (-99 ≤ n) = false := decide_eq_false d1
        go_wp2
        go_ret
        exact ⟨by rw [← HR.out, e1]; first | rfl | simp, by first | exact hB | go_grown⟩
  by_cases h3 : o = 3 ∨ o = 4 ∨ o = 5
  · rw [may_345 _ _ _ _ _ _ _ h3]
    rcases h3 with rfl | rfl | rfl
    all_goals
      go_enter Try.func21, Try.ntmps21
      go_wp2_with fail
      go_ret
      exact ⟨by first | rfl | simp, by go_grown⟩
  by_cases h6 : o = 6 ∨ o = 7
  · rw [may_67 _ _ _ _ _ _ _ h6]
    have hP := fun W => plain_any text W htl
    generalize fineT text = b at *
    rcases h6 with rfl | rfl
    all_goals
      go_enter Try.func21, Try.ntmps21
      go_wp2_with fail
      refine (hP _).mono ?_
      rintro e w2 ⟨rfl, rfl⟩
      cases b
      all_goals
        go_wp2_with fail
        go_ret
        exact ⟨by first | rfl | simp, by go_grown⟩
  rw [may_no _ _ _ _ _ _ _ (by omega)]
  have e1 : (o == 1) = false := by simpa using h1
  have e2 : (o == 2) = false := by simpa using h2
  have e3 : (o == 3) = false := by simp; omega
  have e4 : (o == 4) = false := by simp; omega
  have e5 : (o == 5) = false := by simp; omega
  have e6 : (o == 6) = false := by simp; omega
  have e7 : (o == 7) = false := by simp; omega
  clear h1 h2 h3 h6
  go_enter Try.func21, Try.ntmps21
  go_wp2_with fail
  go_ret
  exact ⟨by first | rfl | simp, by go_grown⟩

end Go.Proofs.Ytgbhfhdhmkmpcaa.Trees

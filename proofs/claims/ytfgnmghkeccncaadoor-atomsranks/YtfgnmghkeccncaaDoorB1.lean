/-
  The walk of AtomsRanks.
-/
import Derived.Test.YtfgnmghkeccncaaDoorAZ
namespace Go.Proofs.YtfgnmghkeccncaaDoor.Atoms
open Go.RowKit Go.Shelf
set_option linter.unusedVariables false
set_option linter.unusedSimpArgs false

theorem below_drewN {B : Nat} {w X : World} (h : Below B w X) (m : Nat) : Below B w (X.drewN m) := ⟨h.os, h.tape, h.output, h.size, h.block⟩

attribute [local irreducible] tableRs tablePs

set_option maxRecDepth 100000 in
set_option maxHeartbeats 4000000 in
theorem ranks_walk (i k : Int) (w : World) (hT : Frac.OfTen w) :
    Calls Tryd.prog 6 #[.int .i64 i, .int .i64 k] w fun e w' => e = .returned (.bool true) ∧ Below w.heap.size w w' := by
  go_enter Tryd.func6, Tryd.ntmps6
  go_wp2_with fail
  refine (awake_yes w hT).mono ?_
  rintro e w1 ⟨rfl, hb1⟩
  go_wp2_with fail
  refine (table_any w1).mono ?_
  rintro e w2 ⟨sa, sp, S, rfl, hTab, hb2⟩
  obtain ⟨b, c, rfl, hc, hsp, hg⟩ := SliceAt.atoms hTab.atoms (by rw [len_T]; omega)
  obtain ⟨o2, n2, c2, rfl⟩ : ∃ o n c, sp = Value.slice o n c := by obtain ⟨o, c, h⟩ := SliceAt.slice hTab.prefs; exact ⟨o, _, c, h⟩
  have hlt := len_T
  rw [hlt] at hg ⊢
  have hB := hb1.trans (hb2.mono hb1.size)
  have hu : Below w2.heap.size w2 (w2.alloc (.cells #[.slice (some ⟨b, 0, none⟩) 48 c, .slice o2 n2 c2] 27)) := by go_grown
  have hx0 : (w2.alloc (.cells #[.slice (some ⟨b, 0, none⟩) 48 c, .slice o2 n2 c2] 27)).cell? ⟨w2.heap.size, 0, none⟩ = some (.slice (some ⟨b, 0, none⟩) 48 c) := by simp [go_sem]
  have hts := hTab.atoms.2.go hu
  replace hg := hg.go hu
  replace hB := hB.trans (hu.mono hB.size)
  go_wp2_with fail
  generalize w2.alloc (.cells #[.slice (some ⟨b, 0, none⟩) 48 c, .slice o2 n2 c2] 27) = V at *
  obtain ⟨q, hq⟩ : ∃ q, restN i 48 = q := ⟨_, rfl⟩
  have hq48 : q < 48 := by rw [← hq]; exact restN_lt i 48 (by omega)
  have hrest := fun W => rest_any i 48 W (by omega) (by omega)
  rw [hq] at hrest
  have hrestq : ∀ W, Calls Tryd.prog 9 #[.int .i64 i, .int .i64 48] W fun e w' => e = .returned (.int .i64 (q : Int)) ∧ w' = W := fun W => (hrest W).mono fun e w' h => ⟨h.1, h.2.symm⟩
  clear hq hu hTab hb2 hb1
  obtain ⟨r, hr⟩ : ∃ r, tableRs.getD q default = r := ⟨_, rfl⟩
  obtain ⟨d0, d1, d2, d3, d4, d5, d6, d7, d8, d9, d10, d11⟩ := row_cells hg q hq48 r hr
  have ht := hts q (by rw [hlt]; exact hq48)
  rw [hr] at ht
  have hno := ranks_none q hq48
  have hso := ranks_some q hq48
  rw [hr] at hno hso
  have HN := Lib.hid hno
  have HS := Lib.hid hso
  have HR := Lib.hid hr
  clear hno hso hr
  obtain ⟨os, cs, hsl⟩ := SliceAt.slice ht
  rw [hsl] at d11 ht
  clear hsl hlt
  have hqi : (q : Int) < 48 := by omega
  have hcs : V.cell? ⟨w2.heap.size, 0, none⟩ = some (.slice (some ⟨b, 0, none⟩) 48 c) ∧ V.cell? ⟨b, q * 12, none⟩ = some (.string (bs r.c0)) ∧ V.cell? ⟨b, q * 12 + 1, none⟩ = some (.string (bs r.c1)) ∧ V.cell? ⟨b, q * 12 + 2, none⟩ = some (.string (bs r.c2)) ∧ V.cell? ⟨b, q * 12 + 3, none⟩ = some (.string (bs r.c3)) ∧ V.cell? ⟨b, q * 12 + 4, none⟩ = some (.string (bs r.c4)) ∧ V.cell? ⟨b, q * 12 + 5, none⟩ = some (.bool r.m) ∧ V.cell? ⟨b, q * 12 + 6, none⟩ = some (.int .i64 r.tag) ∧ V.cell? ⟨b, q * 12 + 7, none⟩ = some (.int .i64 r.base) ∧ V.cell? ⟨b, q * 12 + 8, none⟩ = some (.int .i64 r.num) ∧ V.cell? ⟨b, q * 12 + 9, none⟩ = some (.int .i64 r.den) ∧ V.cell? ⟨b, q * 12 + 10, none⟩ = some (.int .i64 r.ten) ∧ V.cell? ⟨b, q * 12 + 11, none⟩ = some (.slice os r.ts.length cs) := ⟨hx0, d0, d1, d2, d3, d4, d5, d6, d7, d8, d9, d10, d11⟩
  have hcd : V.drew.cell? ⟨w2.heap.size, 0, none⟩ = some (.slice (some ⟨b, 0, none⟩) 48 c) ∧ V.drew.cell? ⟨b, q * 12, none⟩ = some (.string (bs r.c0)) ∧ V.drew.cell? ⟨b, q * 12 + 1, none⟩ = some (.string (bs r.c1)) ∧ V.drew.cell? ⟨b, q * 12 + 2, none⟩ = some (.string (bs r.c2)) ∧ V.drew.cell? ⟨b, q * 12 + 3, none⟩ = some (.string (bs r.c3)) ∧ V.drew.cell? ⟨b, q * 12 + 4, none⟩ = some (.string (bs r.c4)) ∧ V.drew.cell? ⟨b, q * 12 + 5, none⟩ = some (.bool r.m) ∧ V.drew.cell? ⟨b, q * 12 + 6, none⟩ = some (.int .i64 r.tag) ∧ V.drew.cell? ⟨b, q * 12 + 7, none⟩ = some (.int .i64 r.base) ∧ V.drew.cell? ⟨b, q * 12 + 8, none⟩ = some (.int .i64 r.num) ∧ V.drew.cell? ⟨b, q * 12 + 9, none⟩ = some (.int .i64 r.den) ∧ V.drew.cell? ⟨b, q * 12 + 10, none⟩ = some (.int .i64 r.ten) ∧ V.drew.cell? ⟨b, q * 12 + 11, none⟩ = some (.slice os r.ts.length cs) := hcs
  clear hx0 d0 d1 d2 d3 d4 d5 d6 d7 d8 d9 d10 d11
  have hz1 := cell_lt hcs.1
  have hz2 := cell_lt hcs.2.1
  have hca : ∀ o, (V.alloc o).drew.cell? ⟨w2.heap.size, 0, none⟩ = some (.slice (some ⟨b, 0, none⟩) 48 c) ∧ (V.alloc o).drew.cell? ⟨b, q * 12, none⟩ = some (.string (bs r.c0)) ∧ (V.alloc o).drew.cell? ⟨b, q * 12 + 1, none⟩ = some (.string (bs r.c1)) ∧ (V.alloc o).drew.cell? ⟨b, q * 12 + 2, none⟩ = some (.string (bs r.c2)) ∧ (V.alloc o).drew.cell? ⟨b, q * 12 + 3, none⟩ = some (.string (bs r.c3)) ∧ (V.alloc o).drew.cell? ⟨b, q * 12 + 4, none⟩ = some (.string (bs r.c4)) ∧ (V.alloc o).drew.cell? ⟨b, q * 12 + 5, none⟩ = some (.bool r.m) ∧ (V.alloc o).drew.cell? ⟨b, q * 12 + 6, none⟩ = some (.int .i64 r.tag) ∧ (V.alloc o).drew.cell? ⟨b, q * 12 + 7, none⟩ = some (.int .i64 r.base) ∧ (V.alloc o).drew.cell? ⟨b, q * 12 + 8, none⟩ = some (.int .i64 r.num) ∧ (V.alloc o).drew.cell? ⟨b, q * 12 + 9, none⟩ = some (.int .i64 r.den) ∧ (V.alloc o).drew.cell? ⟨b, q * 12 + 10, none⟩ = some (.int .i64 r.ten) ∧ (V.alloc o).drew.cell? ⟨b, q * 12 + 11, none⟩ = some (.slice os r.ts.length cs) := fun o => by
    have hb : ∀ k, k < V.heap.size → (V.alloc o).drew.heap[k]? = V.heap[k]? := fun k hk => Below.heap_alloc V o k hk
    obtain ⟨a0, a1, a2, a3, a4, a5, a6, a7, a8, a9, a10, a11, a12⟩ := hcs
    exact ⟨cell_same a0 (hb _ hz1), cell_same a1 (hb _ hz2), cell_same a2 (hb _ hz2), cell_same a3 (hb _ hz2), cell_same a4 (hb _ hz2), cell_same a5 (hb _ hz2), cell_same a6 (hb _ hz2), cell_same a7 (hb _ hz2), cell_same a8 (hb _ hz2), cell_same a9 (hb _ hz2), cell_same a10 (hb _ hz2), cell_same a11 (hb _ hz2), cell_same a12 (hb _ hz2)⟩
  go_region_held3 (fun v => v.cell? ⟨w2.heap.size, 0, none⟩ = some (.slice (some ⟨b, 0, none⟩) 48 c) ∧ v.cell? ⟨b, q * 12, none⟩ = some (.string (bs r.c0)) ∧ v.cell? ⟨b, q * 12 + 1, none⟩ = some (.string (bs r.c1)) ∧ v.cell? ⟨b, q * 12 + 2, none⟩ = some (.string (bs r.c2)) ∧ v.cell? ⟨b, q * 12 + 3, none⟩ = some (.string (bs r.c3)) ∧ v.cell? ⟨b, q * 12 + 4, none⟩ = some (.string (bs r.c4)) ∧ v.cell? ⟨b, q * 12 + 5, none⟩ = some (.bool r.m) ∧ v.cell? ⟨b, q * 12 + 6, none⟩ = some (.int .i64 r.tag) ∧ v.cell? ⟨b, q * 12 + 7, none⟩ = some (.int .i64 r.base) ∧ v.cell? ⟨b, q * 12 + 8, none⟩ = some (.int .i64 r.num) ∧ v.cell? ⟨b, q * 12 + 9, none⟩ = some (.int .i64 r.den) ∧ v.cell? ⟨b, q * 12 + 10, none⟩ = some (.int .i64 r.ten) ∧ v.cell? ⟨b, q * 12 + 11, none⟩ = some (.slice os r.ts.length cs))
    (first | with_reducible exact hcs | with_reducible exact hcd | with_reducible exact hca _)
    (first | (go_at_call 9; refine (hrest _).mono ?_; rintro e w' ⟨rfl, rfl⟩))
  all_goals
    have hbx : AtomBox (V.alloc (.cells #[.string (bs r.c0), .string (bs r.c1), .string (bs r.c2), .string (bs r.c3), .string (bs r.c4), .bool r.m, .int .i64 r.tag, .int .i64 r.base, .int .i64 r.num, .int .i64 r.den, .int .i64 r.ten, .slice os r.ts.length cs] 33)).drew V.heap.size r (.slice os r.ts.length cs) := AtomBox.new V r (.slice os r.ts.length cs)
    have hu2 : Below V.heap.size V (V.alloc (.cells #[.string (bs r.c0), .string (bs r.c1), .string (bs r.c2), .string (bs r.c3), .string (bs r.c4), .bool r.m, .int .i64 r.tag, .int .i64 r.base, .int .i64 r.num, .int .i64 r.den, .int .i64 r.ten, .slice os r.ts.length cs] 33)).drew := ((Below.refl _ _).alloc (Nat.le_refl _) _).drew
    generalize (V.alloc (.cells #[.string (bs r.c0), .string (bs r.c1), .string (bs r.c2), .string (bs r.c3), .string (bs r.c4), .bool r.m, .int .i64 r.tag, .int .i64 r.base, .int .i64 r.num, .int .i64 r.den, .int .i64 r.ten, .slice os r.ts.length cs] 33)).drew = X at *
    replace hB := hB.trans (hu2.mono hB.size)
    replace ht := TermsAt.go ht hu2
    replace hg := hg.go hu2
    have hx0 := (hu2.cell (p := ⟨w2.heap.size, 0, none⟩) hz1).trans hcs.1
    clear hcs hcd hca hts hu2
    obtain ⟨x0, x1, x2, x3, x4, x5, x6, x7, x8, x9, x10, x11⟩ := AtomBox.cells hbx
    by_cases hts0 : r.ts = []
    · have hlen : ((r.ts.length : Int) == 0) = true := by rw [hts0]; rfl
      rcases HN.out hts0 with hbase | hbase
      · clear hts0
        go_wp2
        go_region
        all_goals
          go_wp2
          go_ret
          exact ⟨rfl, hB.drew⟩
      · have hnb : ¬ r.base < 0 := by omega
        have hqb : ((q : Int) == r.base) = true := by rw [hbase]; simp
        clear hbase hts0
        go_wp2
        go_quiet ((go_at_call 9; exact Calls.quiet_of_same (hrestq _)))
        go_wp2
        go_ret
        exact ⟨rfl, below_drewN hB _⟩
    · have hl0 : 0 < r.ts.length := by
        rcases hh : r.ts with _ | ⟨a, l⟩
        · exact absurd hh hts0
        · simp
      have hlen : ((r.ts.length : Int) == 0) = false := by rw [beq_eq_false_iff_ne]; omega
      have hrl : r.ts.length ≤ 1000000 := by
        have := fitsT.ts q
        rw [HR.out] at this
        exact this
      obtain ⟨j, hj⟩ : ∃ j, restN k r.ts.length = j := ⟨_, rfl⟩
      have hjl : j < r.ts.length := by rw [← hj]; exact restN_lt k _ hl0
      have hrest2 := fun W => rest_any k r.ts.length W (by omega) hrl
      rw [hj] at hrest2
      obtain ⟨tj, htj⟩ : ∃ tj, r.ts.getD j default = tj := ⟨_, rfl⟩
      have hmem : tj ∈ r.ts := by
        rw [← htj, List.getD_eq_getElem?_getD, List.getElem?_eq_getElem hjl]
        exact List.getElem_mem hjl
      obtain ⟨t0, tq, ttag, te, tb⟩ := HS.out tj hmem
      obtain ⟨bt, rfl⟩ : ∃ bt, os = some ⟨bt, 0, none⟩ := by
        rcases ht with ⟨h0, _⟩ | ⟨b', c', he, _⟩
        · omega
        · injection he with e1 e2 e3
          exact ⟨b', e1⟩
      have hgt : Grid X bt 2 r.ts.length (cellT r.ts) := by
        rcases ht with ⟨h0, _⟩ | ⟨b', c', he, _, _, hgt⟩
        · omega
        · injection he with e1 e2 e3
          injection e1 with e1
          injection e1 with e1
          rw [e1]
          exact hgt
      have q1 : X.cell? ⟨bt, j * 2, none⟩ = some (.int .i64 tj.1) := by rw [← htj]; exact hgt.1 j hjl 0 (by omega)
      have q2 : X.cell? ⟨bt, j * 2 + 1, none⟩ = some (.int .i64 tj.2) := by rw [← htj]; exact hgt.1 j hjl 1 (by omega)
      obtain ⟨p, hp⟩ : ∃ p : Nat, tj.1 = (p : Int) := ⟨tj.1.toNat, by omega⟩
      have htag := hg.1 p (by omega) 6 (by omega)
      have htag' : cellA tableRs S p 6 = .int .i64 0 := by
        show Value.int .i64 (tableRs.getD p default).tag = _
        rw [hp, Int.toNat_natCast] at ttag
        rw [ttag]
      rw [htag'] at htag
      obtain ⟨t1, t2⟩ := tj
      dsimp only at hp q1 q2 te tq t0
      subst hp
      have et : (t2 != 0) = true := by simpa using te
      have eb : (r.base == -1) = true := by simpa using tb
      have hji : (j : Int) < (r.ts.length : Int) := by omega
      have hcs : X.cell? ⟨V.heap.size, 11, none⟩ = some (.slice (some ⟨bt, 0, none⟩) r.ts.length cs) ∧ X.cell? ⟨bt, j * 2, none⟩ = some (.int .i64 (p : Int)) ∧ X.cell? ⟨bt, j * 2 + 1, none⟩ = some (.int .i64 t2) := ⟨x11, q1, q2⟩
      have hz3 := cell_lt x11
      have hz4 := cell_lt q1
      have hca : ∀ o, (X.alloc o).drew.cell? ⟨V.heap.size, 11, none⟩ = some (.slice (some ⟨bt, 0, none⟩) r.ts.length cs) ∧ (X.alloc o).drew.cell? ⟨bt, j * 2, none⟩ = some (.int .i64 (p : Int)) ∧ (X.alloc o).drew.cell? ⟨bt, j * 2 + 1, none⟩ = some (.int .i64 t2) := fun o => by
        have hb : ∀ k, k < X.heap.size → (X.alloc o).drew.heap[k]? = X.heap[k]? := fun k hk => Below.heap_alloc X o k hk
        exact ⟨cell_same x11 (hb _ hz3), cell_same q1 (hb _ hz4), cell_same q2 (hb _ hz4)⟩
      have hcd : X.drew.cell? ⟨V.heap.size, 11, none⟩ = some (.slice (some ⟨bt, 0, none⟩) r.ts.length cs) ∧ X.drew.cell? ⟨bt, j * 2, none⟩ = some (.int .i64 (p : Int)) ∧ X.drew.cell? ⟨bt, j * 2 + 1, none⟩ = some (.int .i64 t2) := hcs
      have p48 : (p : Int) < 48 := by omega
      clear te tb ttag htag' hmem htj hgt ht hts0 hj HS HN
      go_wp2
      go_region_held3 (fun v => v.cell? ⟨V.heap.size, 11, none⟩ = some (.slice (some ⟨bt, 0, none⟩) r.ts.length cs) ∧ v.cell? ⟨bt, j * 2, none⟩ = some (.int .i64 (p : Int)) ∧ v.cell? ⟨bt, j * 2 + 1, none⟩ = some (.int .i64 t2))
        (first | with_reducible exact hcs | with_reducible exact hcd | with_reducible exact hca _)
        (first | (go_at_call 9; refine (hrest2 _).mono ?_; rintro e w' ⟨rfl, rfl⟩))
      all_goals
        have y0 : (X.alloc (.cells #[.int .i64 (p : Int), .int .i64 t2] 37)).drew.cell? ⟨X.heap.size, 0, none⟩ = some (.int .i64 (p : Int)) := by simp [go_sem]
        have y1 : (X.alloc (.cells #[.int .i64 (p : Int), .int .i64 t2] 37)).drew.cell? ⟨X.heap.size, 1, none⟩ = some (.int .i64 t2) := by simp [go_sem]
        have hu3 : Below X.heap.size X (X.alloc (.cells #[.int .i64 (p : Int), .int .i64 t2] 37)).drew := ((Below.refl _ _).alloc (Nat.le_refl _) _).drew
        generalize (X.alloc (.cells #[.int .i64 (p : Int), .int .i64 t2] 37)).drew = Y at *
        replace hB := hB.trans (hu3.mono hB.size)
        have z7 := (hu3.cell (p := ⟨V.heap.size, 7, none⟩) hz3).trans x7
        have z0 := (hu3.cell (p := ⟨w2.heap.size, 0, none⟩) (cell_lt hx0)).trans hx0
        have zt := (hu3.cell (p := ⟨b, p * 12 + 6, none⟩) (cell_lt htag)).trans htag
        clear hcs hcd hca hu3 x0 x1 x2 x3 x4 x5 x6 x7 x8 x9 x10 x11 q1 q2 hx0 htag
        go_wp2
        go_quiet ((go_at_call 9; exact Calls.quiet_of_same (hrestq _)))
        go_wp2
        go_ret
        exact ⟨rfl, below_drewN hB _⟩

theorem ranks_law (i k : Int) (w : World) (hT : Frac.OfTen w) (_ : -9223372036854775808 ≤ i ∧ i ≤ 9223372036854775807) (_ : -9223372036854775808 ≤ k ∧ k ≤ 9223372036854775807) :
    Calls Tryd.prog 6 #[.int .i64 i, .int .i64 k] w fun e w' => e = .returned (.bool true) ∧ Below w.heap.size w w' := ranks_walk i k w hT

end Go.Proofs.YtfgnmghkeccncaaDoor.Atoms

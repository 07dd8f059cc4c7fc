/-
  spoilt: its walk.
-/
import Derived.Test.YtpmibcdmaaagjaaDoorC9
import Derived.StillTailTactics
namespace Go.Proofs.YtpmibcdmaaagjaaDoor.Atoms
open Go.RowKit Go.Shelf
set_option linter.unusedVariables false
set_option linter.unusedSimpArgs false

set_option maxRecDepth 100000 in
set_option maxHeartbeats 16000000 in
theorem spoilt_c (how at_ n : Int) (tx : List UInt8) (rows : List Row) (S : Nat → Value) (ps : List Pre) (M m : Nat) (w : World) (o o2 : Option Addr) (c c2 : Nat) (hA : AtomsSl w (.slice o rows.length c) rows S) (hP : PrefsSl w (.slice o2 ps.length c2) ps) (l1 : rows.length ≤ 1000) (l2 : ps.length ≤ 1000) (g1 : 0 < rows.length) (g2 : 0 < ps.length)
    (hM : rows.length + 120 ≤ M) (hM2 : M ≤ 1900) (hm : m ≤ 900) (hok : RowsOk m rows) (hpf : ∀ p ∈ ps, p.c5.Fine) (hn : -9223372036854775808 ≤ n ∧ n ≤ 9223372036854775807) (htx : tx.length ≤ 9223372036854775807) (hw : restN how 14 = 1 ∨ restN how 14 = 11) :
    Calls Tryd.prog 7 #[.agg #[.slice o rows.length c, .slice o2 ps.length c2], .agg #[.int .i64 how, .int .i64 at_, .int .i64 n, .string (bs tx)]] w (SpoiltEnd M (m + 1) w) := by
  have HOK : Hid (RowsOk (m + 1) rows ∧ ∀ p ∈ ps, p.c5.Fine) := Lib.hid ⟨fun r hr => ⟨(hok r hr).1, Nat.le_succ_of_le (hok r hr).2⟩, hpf⟩
  have HO := Lib.hid hok
  clear hok hpf
  obtain ⟨n1, hn1⟩ : ∃ n1, rows.length = n1 := ⟨_, rfl⟩
  obtain ⟨n2, hn2⟩ : ∃ n2, ps.length = n2 := ⟨_, rfl⟩
  rw [hn1, hn2]
  rw [hn1] at g1
  rw [hn2] at g2
  have j1 : ((n1 : Int) == 0) = false := by rw [beq_eq_false_iff_ne]; omega
  have j2 : ((n2 : Int) == 0) = false := by rw [beq_eq_false_iff_ne]; omega
  have HN1 := Lib.hid hn1
  have HN2 := Lib.hid hn2
  clear hn1 hn2
  go_enter Tryd.func7, Tryd.ntmps7
  go_upto_region 3 with fail
  have hI : SpI w (((w.alloc (.cells #[.slice o n1 c, .slice o2 n2 c2] 29)).alloc (.cells #[.int .i64 how, .int .i64 at_, .int .i64 n, .string (bs tx)] 23)).alloc (.cells #[.slice none 0 0, .slice none 0 0] 29)) w.heap.size (.slice o n1 c) (.slice o2 n2 c2) how at_ n (bs tx) := by
    refine ⟨?_, ?_, fun j => ?_, ?_, ?_, ?_, ?_, ?_, ?_, fun j => ?_, ?_, ?_⟩ <;> first | (simp [go_sem]; done) | go_grown | (simp only [World.size_alloc]; omega)
  generalize (((w.alloc (.cells #[.slice o n1 c, .slice o2 n2 c2] 29)).alloc (.cells #[.int .i64 how, .int .i64 at_, .int .i64 n, .string (bs tx)] 23)).alloc (.cells #[.slice none 0 0, .slice none 0 0] 29)) = w0 at *
  obtain ⟨V1, b1, d1, happ, hs1, hb1, hbl⟩ := clone_app elem_atom (SliceAt.go hA.1 hI.below) (cell_one hA.2) (by omega)
  rw [HN1.out] at happ
  have t0 := (hI.go (V' := w0.alloc (.cells #[] 40)) (((Below.refl _ _).alloc (Nat.le_refl _) _).mono hI.size)).t0
  have hJ := hI.go (hbl.mono hI.size)
  have t0' := hJ.t0
  have tf' := hJ.tf 0
  have z0 := hI.size
  go_upto_region 4 with (first | (at_builtin; refine wpList_app rfl _ _ 26 26 rfl happ ?_) | fail)
  clear happ t0 t0' tf'
  replace hJ := hJ.set0 (.slice (some ⟨b1, 0, none⟩) n1 d1)
  have ab1 : Above w0.heap.size (.slice (some ⟨b1, 0, none⟩) rows.length d1) := by intro a m c' e; injection e with e1; injection e1 with e1; rw [← e1]; exact hb1
  have hX : SliceAt (V1.setCell ⟨w.heap.size, 0, none⟩ (.slice (some ⟨b1, 0, none⟩) n1 d1)) (.slice (some ⟨b1, 0, none⟩) rows.length d1) 12 rows.length (cellA rows S) := SliceAt.other hs1 ab1 (by omega) _ _
  clear hs1 hI
  have z1 := hbl.size
  have zz : V1.heap.size ≤ (V1.setCell ⟨w.heap.size, 0, none⟩ (.slice (some ⟨b1, 0, none⟩) n1 d1)).heap.size := Nat.le_of_eq (World.size_setCell _ _ _).symm
  generalize V1.setCell ⟨w.heap.size, 0, none⟩ (.slice (some ⟨b1, 0, none⟩) n1 d1) = w1 at *
  obtain ⟨V2, b2, d2, happ, hs2, hb2, hbl2⟩ := clone_app elem_pre (SliceAt.go hP hJ.below) (pre_one ps) (by omega)
  rw [HN2.out] at happ
  have t1 := (hJ.go (V' := w1.alloc (.cells #[] 49)) (((Below.refl _ _).alloc (Nat.le_refl _) _).mono hJ.size)).t1
  have hI := hJ.go (hbl2.mono hJ.size)
  have t1' := hI.t1
  have tf' := hI.tf 1
  go_upto_region 5 with (first | (at_builtin; refine wpList_app rfl _ _ 27 27 rfl happ ?_) | fail)
  clear happ t1 t1' tf' hJ
  replace hI := hI.set1 (.slice (some ⟨b2, 0, none⟩) n2 d2)
  have hXa : SliceAt (V2.setCell ⟨w.heap.size, 1, none⟩ (.slice (some ⟨b2, 0, none⟩) n2 d2)) (.slice (some ⟨b1, 0, none⟩) rows.length d1) 12 rows.length (cellA rows S) := SliceAt.other (SliceAt.go hX hbl2) ab1 (by omega) _ _
  have ab2 : Above w0.heap.size (.slice (some ⟨b2, 0, none⟩) ps.length d2) := by intro a m c' e; injection e with e1; injection e1 with e1; rw [← e1]; show w0.heap.size ≤ b2; omega
  have hXp : SliceAt (V2.setCell ⟨w.heap.size, 1, none⟩ (.slice (some ⟨b2, 0, none⟩) n2 d2)) (.slice (some ⟨b2, 0, none⟩) ps.length d2) 6 ps.length (cellP ps) := SliceAt.other hs2 ab2 (by omega) _ _
  have n12 : b1 < b2 := by
    rcases hX with ⟨h0, _⟩ | ⟨b', c', he, _, _, hg⟩
    · rw [HN1.out] at h0; omega
    · injection he with e1
      injection e1 with e1
      injection e1 with e1
      have := hg.2.2
      omega
  clear hs2 hX hbl hbl2
  generalize V2.setCell ⟨w.heap.size, 1, none⟩ (.slice (some ⟨b2, 0, none⟩) n2 d2) = w2 at *
  have t0 := hI.t0
  have t1 := hI.t1
  have q1 := hI.q1
  have q2 := hI.q2
  go_wp2_with fail
  refine (rest_any at_ n1 _ (by omega) (by rw [HN1.out] at l1; omega)).mono ?_
  rintro e w' ⟨rfl, rfl⟩
  go_wp2_with fail
  refine (rest_any n n2 _ (by omega) (by rw [HN2.out] at l2; omega)).mono ?_
  rintro e w' ⟨rfl, rfl⟩
  have hi := restN_lt at_ n1 g1
  have hp := restN_lt n n2 g2
  generalize restN at_ n1 = i at hi ⊢
  generalize restN n n2 = p at hp ⊢
  have hii : (i : Int) < n1 := by omega
  obtain ⟨r, hr⟩ : ∃ r, rows.getD i default = r := ⟨_, rfl⟩
  have HR := Lib.hid hr
  clear hr
  have HFR : Hid ((r.Fine ∧ r.TenOk) ∧ r.ts.length ≤ m) := Lib.hid (HO.out r (by
    rw [← HR.out, List.getD_eq_getElem?_getD, List.getElem?_eq_getElem (by rw [HN1.out]; exact hi)]
    exact List.getElem_mem _))
  obtain ⟨oi, ci, hsi⟩ := SliceAt.slice (hA.2 i (by rw [HN1.out]; exact hi))
  rw [HR.out] at hsi
  obtain ⟨b', c', he, hdc, hsp, hg⟩ : ∃ b c, Value.slice (some ⟨b1, 0, none⟩) rows.length d1 = .slice (some ⟨b, 0, none⟩) rows.length c ∧ rows.length ≤ c ∧ Spare w2 b (c * 12) ∧ Grid w2 b 12 rows.length (cellA rows S) := by
    rcases hXa with ⟨h0, _⟩ | h
    · rw [HN1.out] at h0; omega
    · exact h
  injection he with e1 e2 e3
  injection e1 with e1
  injection e1 with e1
  subst e1 e3
  have hrow := row_cells hg i (by rw [HN1.out]; exact hi) r HR.out
  rw [hsi] at hrow
  obtain ⟨x0, x1, x2, x3, x4, x5, x6, x7, x8, x9, x10, x11⟩ := hrow
  have HSI := Lib.hid hsi
  clear hsi
  go_upto_region 8 with fail
  have hu : Below w2.heap.size w2 (w2.alloc (.cells (r.cs (.slice oi r.ts.length ci)) 40)) := (Below.refl _ _).alloc (Nat.le_refl _) _
  have hbox := AtomBox.new w2 r (.slice oi r.ts.length ci)
  have hz3 : w2.heap.size + 1 ≤ (w2.alloc (.cells (r.cs (.slice oi r.ts.length ci)) 40)).heap.size := Nat.le_of_eq (World.size_alloc _ _).symm
  replace hI := hI.go (hu.mono hI.size)
  have hgl := hg.2.2
  replace hg := hg.go hu
  replace hsp : Spare (w2.alloc (.cells (r.cs (.slice oi r.ts.length ci)) 40)) b1 (d1 * 12) := hsp.block (hu.block b1 hgl)
  obtain ⟨n2a, hpg, hpp, hdp⟩ : b2 < w2.heap.size ∧ Grid w2 b2 6 ps.length (cellP ps) ∧ Spare w2 b2 (d2 * 6) ∧ ps.length ≤ d2 := by
    rcases hXp with ⟨h0, _⟩ | ⟨b', c', he, hcc, hss, hgg⟩
    · rw [HN2.out] at h0; omega
    · injection he with e1 e2 e3
      injection e1 with e1
      injection e1 with e1
      subst e1 e3
      exact ⟨hgg.2.2, hgg, hss, hcc⟩
  replace hpp : Spare (w2.alloc (.cells (r.cs (.slice oi r.ts.length ci)) 40)) b2 (d2 * 6) := hpp.block (hu.block b2 n2a)
  replace hpg := hpg.go hu
  clear hXa hXp x0 x1 x2 x3 x4 x5 x6 x7 x8 x9 x10 x11 t0 t1 q1 q2 hu
  simp only [Row.cs] at hI hbox hg hsp hpg hpp hz3
  generalize w2.alloc (.cells #[.string (bs r.c0), .string (bs r.c1), .string (bs r.c2), .string (bs r.c3), .string (bs r.c4), .bool r.m, .int .i64 r.tag, .int .i64 r.base, .int .i64 r.num, .int .i64 r.den, .int .i64 r.ten, .slice oi r.ts.length ci] 40) = w3 at *
  have ht0 := hA.2 i (by rw [HN1.out]; exact hi)
  rw [HR.out, HSI.out] at ht0
  have l3 : r.ts.length ≤ 1000 := Nat.le_trans HFR.out.2 (by omega)
  obtain ⟨V4, b4, d4, happ, hs4, hb4, hbl4⟩ := clone_app elem_term (SliceAt.go ht0 hI.below) (term_one r.ts) (by omega)
  have hu4 : Below w3.heap.size w3 (w3.alloc (.cells #[] 47)) := (Below.refl _ _).alloc (Nat.le_refl _) _
  have x11 := (AtomBox.cells (Grid.go hbox hu4)).2.2.2.2.2.2.2.2.2.2.2
  have hbox' : AtomBox V4 w2.heap.size r (.slice oi r.ts.length ci) := Grid.go hbox hbl4
  have y11 := (AtomBox.cells hbox').2.2.2.2.2.2.2.2.2.2.2
  have yf := hbox'.2.1 11
  go_upto_region 9 with (first | (at_builtin; refine wpList_app rfl _ _ 38 38 rfl happ ?_) | fail)
  clear happ x11 y11 yf hbox
  have hJ := spj_start (d4 := d4) rfl (hI.below.trans (hbl4.mono (by have := hI.size; omega))) hA.2 ht0 (hg.go hbl4) (hsp.block (hbl4.block b1 (by omega))) hdc (hpg.go hbl4) (hpp.block (hbl4.block b2 (by omega))) hdp hbox' hs4 (by omega) n12 n2a (by omega)
  replace hI := (hI.go (hbl4.mono hI.size)).go (V' := V4.setCell ⟨w2.heap.size, 11, none⟩ (.slice (some ⟨b4, 0, none⟩) r.ts.length d4)) (((Only.refl _ _).set _ _).below hJ.oa)
  have HAO : Hid (∀ i, i < rows.length → ∀ a n c, S i = .slice (some a) n c → a.block < w.heap.size) := fun i hi => SliceAt.lt (hA.2 i hi)
  have o4 : w2.heap.size < b4 := by omega
  clear hg hsp hpg hpp hbox' hs4 hbl4 hu4 ht0 ab1 ab2 hA hP
  generalize V4.setCell ⟨w2.heap.size, 11, none⟩ (.slice (some ⟨b4, 0, none⟩) r.ts.length d4) = V at *
  generalize w2.heap.size = ab at *
  have q0 := hI.q0
  go_wp2_with fail
  refine (rest_any how 14 _ (by omega) (by omega)).mono ?_
  rintro e w' ⟨rfl, rfl⟩
  have hh := restN_lt how 14 (by omega)
  generalize restN how 14 = h at hh hw ⊢
  have q2 := hI.q2
  by_cases e1 : h = 1
  · subst e1
    have t0 := hI.t0
    obtain ⟨k, hk⟩ : ∃ k, restN n 5 = k := ⟨_, rfl⟩
    have k5 : k < 5 := by rw [← hk]; exact restN_lt n 5 (by omega)
    have rk := fun W => rest_any n 5 W (by omega) (by omega)
    rw [hk] at rk
    clear hk
    obtain ⟨y, hy⟩ : ∃ y, restN n n1 = y := ⟨_, rfl⟩
    have y1 : y < n1 := by rw [← hy]; exact restN_lt n n1 g1
    have ry := fun W => rest_any n n1 W (by omega) (by rw [HN1.out] at l1; omega)
    rw [hy] at ry
    clear hy
    have ik : (k : Int) < 5 := by omega
    have iy : (y : Int) < n1 := by omega
    obtain ⟨v0, hv0⟩ : ∃ v0, V.cell? ⟨ab, k, none⟩ = some v0 := ⟨_, code_cell hJ.box k k5⟩
    have xf := hJ.box.2.1 k
    have hco := grid_code hJ.grid y (by rw [HN1.out]; exact y1) k k5
    have HCO : Hid (((rows.getD y default).c5.get k).length ≤ 9223372036854775807) := Lib.hid ((HO.out (rows.getD y default) (by
      rw [List.getD_eq_getElem?_getD, List.getElem?_eq_getElem (by rw [HN1.out]; exact y1)]
      exact List.getElem_mem _)).1.1.codes k)
    generalize (rows.getD y default).c5.get k = ct at hco HCO
    go_upto_region 17 with fail
    go_still_tail 20, (by kernel_rfl)
    still_call ((rk _).mono fun e w' h => ⟨h.1, h.2.symm⟩)
    repeat still_step
    still_call ((ry _).mono fun e w' h => ⟨h.1, h.2.symm⟩)
    repeat still_step
    still_call ((rk _).mono fun e w' h => ⟨h.1, h.2.symm⟩)
    repeat still_step
    refine wpStill_nil ?_
    replace hv0 : V.drew.cell? ⟨ab, k, none⟩ = some v0 := hv0
    replace xf : V.drew.frozen? ⟨ab, k, none⟩ = false := xf
    replace hJ := hJ.drew
    replace hI := hI.drew
    change wpList _ _ _ _ _ V.drew
    clear q0 q2 t0 rk ry iy hco
    generalize V.drew = VD at *
    go_upto_region 41 with fail
    replace hJ := hJ.put (r' := r.putC k ct) k (by omega) (.string (bs ct)) (putC_cell r k k5 ct _) (putC_ts r k ct)
    replace hI := hI.go (V' := VD.setCell ⟨ab, k, none⟩ (.string (bs ct))) (((Only.refl _ _).set _ _).below hJ.oa)
    have HF : Hid (((r.putC k ct).Fine ∧ (r.putC k ct).TenOk) ∧ (r.putC k ct).ts.length ≤ m + 1) := Lib.hid ⟨⟨putC_fine HFR.out.1.1 k HCO.out, putC_ten HFR.out.1.2 k ct⟩, by have := HFR.out.2; rw [putC_ts]; omega⟩
    clear hv0 xf ik
    generalize VD.setCell ⟨ab, k, none⟩ (.string (bs ct)) = V5 at *
    generalize r.putC k ct = r5 at hJ HF
    have t0 := hI.t0
    obtain ⟨x0, x1, x2, x3, x4, x5, x6, x7, x8, x9, x10, x11⟩ := AtomBox.cells hJ.box
    obtain ⟨y0, y1, y2, y3, y4, y5, y6, y7, y8, y9, y10, y11⟩ := row_cells hJ.grid i (by rw [HN1.out]; exact hi) _ rfl
    have yf := hJ.grid.2.1
    have na1 := hJ.na1
    go_upto_region 42 with fail
    obtain ⟨hI6, hE⟩ := hJ.fin (M := M) (m := m + 1) (i := i) (by rw [HN1.out, HN2.out]; exact hI) (by rw [HN1.out]; exact hi) (by omega) l2 HOK.out.1 HF.out.1 HF.out.2 HOK.out.2
    rw [HN1.out, HN2.out] at hI6 hE
    have HE := Lib.hid hE
    clear hE hI hJ t0 x0 x1 x2 x3 x4 x5 x6 x7 x8 x9 x10 x11 y0 y1 y2 y3 y4 y5 y6 y7 y8 y9 y10 y11 yf na1
    generalize ((((((((((((V5.setCell ⟨b1, i * 12, none⟩ (.string (bs r5.c0))).setCell ⟨b1, i * 12 + 1, none⟩ (.string (bs r5.c1))).setCell ⟨b1, i * 12 + 2, none⟩ (.string (bs r5.c2))).setCell ⟨b1, i * 12 + 3, none⟩ (.string (bs r5.c3))).setCell ⟨b1, i * 12 + 4, none⟩ (.string (bs r5.c4))).setCell ⟨b1, i * 12 + 5, none⟩ (.bool r5.m)).setCell ⟨b1, i * 12 + 6, none⟩ (.int .i64 r5.tag)).setCell ⟨b1, i * 12 + 7, none⟩ (.int .i64 r5.base)).setCell ⟨b1, i * 12 + 8, none⟩ (.int .i64 r5.num)).setCell ⟨b1, i * 12 + 9, none⟩ (.int .i64 r5.den)).setCell ⟨b1, i * 12 + 10, none⟩ (.int .i64 r5.ten)).setCell ⟨b1, i * 12 + 11, none⟩ (.slice (some ⟨b4, 0, none⟩) r.ts.length d4)) = V6 at *
    have t0 := hI6.t0
    have t1 := hI6.t1
    have r0 := hI6.r0
    have r1 := hI6.r1
    have rf0 := hI6.rf 0
    have rf1 := hI6.rf 1
    go_wp2
    refine bodyPost_ret (P := Tryd.prog) (v := .agg #[.slice (some ⟨b1, 0, none⟩) n1 d1, .slice (some ⟨b2, 0, none⟩) n2 d2]) ?_ ?_ HE.out <;> first | rfl | skip
    simp [results, Tryd.results7, go_sem, t0, t1, r0, r1]
  by_cases e11 : h = 11
  · subst e11
    have q1 := hI.q1
    have q3 := hI.q3
    have t1 := hI.t1
    obtain ⟨k, hk⟩ : ∃ k, restN at_ 5 = k := ⟨_, rfl⟩
    have k5 : k < 5 := by rw [← hk]; exact restN_lt at_ 5 (by omega)
    have rk := fun W => rest_any at_ 5 W (by omega) (by omega)
    rw [hk] at rk
    clear hk
    have ik : (k : Int) < 5 := by omega
    have ip : (p : Int) < n2 := by omega
    obtain ⟨v0, hv0⟩ : ∃ v0, V.cell? ⟨b2, p * 6 + k, none⟩ = some v0 := ⟨_, hJ.pgrid.1 p (by rw [HN2.out]; exact hp) k (by omega)⟩
    have hvf := hJ.pgrid.2.1 (p * 6 + k)
    go_upto_region 38 with fail
    go_still_tail 11, (by kernel_rfl)
    still_call ((rk _).mono fun e w' h => ⟨h.1, h.2.symm⟩)
    repeat still_step
    refine wpStill_nil ?_
    replace hv0 : V.drew.cell? ⟨b2, p * 6 + k, none⟩ = some v0 := hv0
    replace hvf : V.drew.frozen? ⟨b2, p * 6 + k, none⟩ = false := hvf
    replace hJ := hJ.drew
    replace hI := hI.drew
    change wpList _ _ _ _ _ V.drew
    clear q0 q1 q2 q3 t1 rk ip
    generalize V.drew = VD at *
    go_upto_region 41 with fail
    replace hJ := hJ.putP p (by rw [HN2.out]; exact hp) k (by omega) (.string (bs tx)) (pr' := (ps.getD p default).putC k tx) (preC_cell _ k k5 tx)
    replace hI := hI.go (V' := VD.setCell ⟨b2, p * 6 + k, none⟩ (.string (bs tx))) (((Only.refl _ _).set _ _).below hJ.o2)
    have HF : Hid ((r.Fine ∧ r.TenOk) ∧ r.ts.length ≤ m + 1) := Lib.hid ⟨HFR.out.1, Nat.le_succ_of_le HFR.out.2⟩
    replace HOK : Hid (RowsOk (m + 1) rows ∧ ∀ x ∈ ps.set p ((ps.getD p default).putC k tx), x.c5.Fine) := Lib.hid ⟨HOK.out.1, set_fine HOK.out.2 p (preC_fine (HOK.out.2 (ps.getD p default) (by
        rw [List.getD_eq_getElem?_getD, List.getElem?_eq_getElem (by rw [HN2.out]; exact hp)]
        exact List.getElem_mem _)) k htx)⟩
    replace HN2 : Hid ((ps.set p ((ps.getD p default).putC k tx)).length = n2) := Lib.hid (by rw [List.length_set]; exact HN2.out)
    replace l2 : (ps.set p ((ps.getD p default).putC k tx)).length ≤ 1000 := by rw [List.length_set]; exact l2
    clear hv0 hvf ik
    generalize VD.setCell ⟨b2, p * 6 + k, none⟩ (.string (bs tx)) = V5 at *
    generalize ps.set p ((ps.getD p default).putC k tx) = ps5 at *
    have t0 := hI.t0
    obtain ⟨x0, x1, x2, x3, x4, x5, x6, x7, x8, x9, x10, x11⟩ := AtomBox.cells hJ.box
    obtain ⟨y0, y1, y2, y3, y4, y5, y6, y7, y8, y9, y10, y11⟩ := row_cells hJ.grid i (by rw [HN1.out]; exact hi) _ rfl
    have yf := hJ.grid.2.1
    have na1 := hJ.na1
    go_upto_region 42 with fail
    obtain ⟨hI6, hE⟩ := hJ.fin (M := M) (m := m + 1) (i := i) (by rw [HN1.out, HN2.out]; exact hI) (by rw [HN1.out]; exact hi) (by omega) l2 HOK.out.1 HF.out.1 HF.out.2 HOK.out.2
    rw [HN1.out, HN2.out] at hI6 hE
    have HE := Lib.hid hE
    clear hE hI hJ t0 x0 x1 x2 x3 x4 x5 x6 x7 x8 x9 x10 x11 y0 y1 y2 y3 y4 y5 y6 y7 y8 y9 y10 y11 yf na1
    generalize ((((((((((((V5.setCell ⟨b1, i * 12, none⟩ (.string (bs r.c0))).setCell ⟨b1, i * 12 + 1, none⟩ (.string (bs r.c1))).setCell ⟨b1, i * 12 + 2, none⟩ (.string (bs r.c2))).setCell ⟨b1, i * 12 + 3, none⟩ (.string (bs r.c3))).setCell ⟨b1, i * 12 + 4, none⟩ (.string (bs r.c4))).setCell ⟨b1, i * 12 + 5, none⟩ (.bool r.m)).setCell ⟨b1, i * 12 + 6, none⟩ (.int .i64 r.tag)).setCell ⟨b1, i * 12 + 7, none⟩ (.int .i64 r.base)).setCell ⟨b1, i * 12 + 8, none⟩ (.int .i64 r.num)).setCell ⟨b1, i * 12 + 9, none⟩ (.int .i64 r.den)).setCell ⟨b1, i * 12 + 10, none⟩ (.int .i64 r.ten)).setCell ⟨b1, i * 12 + 11, none⟩ (.slice (some ⟨b4, 0, none⟩) r.ts.length d4)) = V6 at *
    have t0 := hI6.t0
    have t1 := hI6.t1
    have r0 := hI6.r0
    have r1 := hI6.r1
    have rf0 := hI6.rf 0
    have rf1 := hI6.rf 1
    go_wp2
    refine bodyPost_ret (P := Tryd.prog) (v := .agg #[.slice (some ⟨b1, 0, none⟩) n1 d1, .slice (some ⟨b2, 0, none⟩) n2 d2]) ?_ ?_ HE.out <;> first | rfl | skip
    simp [results, Tryd.results7, go_sem, t0, t1, r0, r1]
  exfalso
  omega

end Go.Proofs.YtpmibcdmaaagjaaDoor.Atoms

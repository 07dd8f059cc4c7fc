/-
  spoilt: its walk.
-/
import Derived.Test.YtpmibcdmaaagjaaDoorC9
import Derived.StillTailTactics
namespace Go.Proofs.YtpmibcdmaaagjaaDoor.Atoms
open Go.RowKit Go.Shelf
set_option linter.unusedVariables false
set_option linter.unusedSimpArgs false

set_option maxRecDepth 100000 in
set_option maxHeartbeats 16000000 in
theorem spoilt_e (how at_ n : Int) (tx : List UInt8) (rows : List Row) (S : Nat → Value) (ps : List Pre) (M m : Nat) (w : World) (o o2 : Option Addr) (c c2 : Nat) (hA : AtomsSl w (.slice o rows.length c) rows S) (hP : PrefsSl w (.slice o2 ps.length c2) ps) (l1 : rows.length ≤ 1000) (l2 : ps.length ≤ 1000) (g1 : 0 < rows.length) (g2 : 0 < ps.length)
    (hM : rows.length + 120 ≤ M) (hM2 : M ≤ 1900) (hm : m ≤ 900) (hok : RowsOk m rows) (hpf : ∀ p ∈ ps, p.c5.Fine) (hn : -9223372036854775808 ≤ n ∧ n ≤ 9223372036854775807) (htx : tx.length ≤ 9223372036854775807) (hw : restN how 14 = 9 ∨ restN how 14 = 13) :
    Calls Tryd.prog 7 #[.agg #[.slice o rows.length c, .slice o2 ps.length c2], .agg #[.int .i64 how, .int .i64 at_, .int .i64 n, .string (bs tx)]] w (SpoiltEnd M (m + 1) w) := by
  have HOK : Hid (RowsOk (m + 1) rows ∧ ∀ p ∈ ps, p.c5.Fine) := Lib.hid ⟨fun r hr => ⟨(hok r hr).1, Nat.le_succ_of_le (hok r hr).2⟩, hpf⟩
  have HO := Lib.hid hok
  clear hok hpf
  obtain ⟨n1, hn1⟩ : ∃ n1, rows.length = n1 := ⟨_, rfl⟩
  obtain ⟨n2, hn2⟩ : ∃ n2, ps.length = n2 := ⟨_, rfl⟩
  rw [hn1, hn2]
  rw [hn1] at g1
  rw [hn2] at g2
  have j1 : ((n1 : Int) == 0) = false := by rw [beq_eq_false_iff_ne]; omega
  have j2 : ((n2 : Int) == 0) = false := by rw [beq_eq_false_iff_ne]; omega
  have HN1 := Lib.hid hn1
  have HN2 := Lib.hid hn2
  clear hn1 hn2
  go_enter Tryd.func7, Tryd.ntmps7
  go_upto_region 3 with fail
  have hI : SpI w (((w.alloc (.cells #[.slice o n1 c, .slice o2 n2 c2] 29)).alloc (.cells #[.int .i64 how, .int .i64 at_, .int .i64 n, .string (bs tx)] 23)).alloc (.cells #[.slice none 0 0, .slice none 0 0] 29)) w.heap.size (.slice o n1 c) (.slice o2 n2 c2) how at_ n (bs tx) := by
    refine ⟨?_, ?_, fun j => ?_, ?_, ?_, ?_, ?_, ?_, ?_, fun j => ?_, ?_, ?_⟩ <;> first | (simp [go_sem]; done) | go_grown | (simp only [World.size_alloc]; omega)
  generalize (((w.alloc (.cells #[.slice o n1 c, .slice o2 n2 c2] 29)).alloc (.cells #[.int .i64 how, .int .i64 at_, .int .i64 n, .string (bs tx)] 23)).alloc (.cells #[.slice none 0 0, .slice none 0 0] 29)) = w0 at *
  obtain ⟨V1, b1, d1, happ, hs1, hb1, hbl⟩ := clone_app elem_atom (SliceAt.go hA.1 hI.below) (cell_one hA.2) (by omega)
  rw [HN1.out] at happ
  have t0 := (hI.go (V' := w0.alloc (.cells #[] 40)) (((Below.refl _ _).alloc (Nat.le_refl _) _).mono hI.size)).t0
  have hJ := hI.go (hbl.mono hI.size)
  have t0' := hJ.t0
  have tf' := hJ.tf 0
  have z0 := hI.size
  go_upto_region 4 with (first | (at_builtin; refine wpList_app rfl _ _ 26 26 rfl happ ?_) | fail)
  clear happ t0 t0' tf'
  replace hJ := hJ.set0 (.slice (some ⟨b1, 0, none⟩) n1 d1)
  have ab1 : Above w0.heap.size (.slice (some ⟨b1, 0, none⟩) rows.length d1) := by intro a m c' e; injection e with e1; injection e1 with e1; rw [← e1]; exact hb1
  have hX : SliceAt (V1.setCell ⟨w.heap.size, 0, none⟩ (.slice (some ⟨b1, 0, none⟩) n1 d1)) (.slice (some ⟨b1, 0, none⟩) rows.length d1) 12 rows.length (cellA rows S) := SliceAt.other hs1 ab1 (by omega) _ _
  clear hs1 hI
  have z1 := hbl.size
  have zz : V1.heap.size ≤ (V1.setCell ⟨w.heap.size, 0, none⟩ (.slice (some ⟨b1, 0, none⟩) n1 d1)).heap.size := Nat.le_of_eq (World.size_setCell _ _ _).symm
  generalize V1.setCell ⟨w.heap.size, 0, none⟩ (.slice (some ⟨b1, 0, none⟩) n1 d1) = w1 at *
  obtain ⟨V2, b2, d2, happ, hs2, hb2, hbl2⟩ := clone_app elem_pre (SliceAt.go hP hJ.below) (pre_one ps) (by omega)
  rw [HN2.out] at happ
  have t1 := (hJ.go (V' := w1.alloc (.cells #[] 49)) (((Below.refl _ _).alloc (Nat.le_refl _) _).mono hJ.size)).t1
  have hI := hJ.go (hbl2.mono hJ.size)
  have t1' := hI.t1
  have tf' := hI.tf 1
  go_upto_region 5 with (first | (at_builtin; refine wpList_app rfl _ _ 27 27 rfl happ ?_) | fail)
  clear happ t1 t1' tf' hJ
  replace hI := hI.set1 (.slice (some ⟨b2, 0, none⟩) n2 d2)
  have hXa : SliceAt (V2.setCell ⟨w.heap.size, 1, none⟩ (.slice (some ⟨b2, 0, none⟩) n2 d2)) (.slice (some ⟨b1, 0, none⟩) rows.length d1) 12 rows.length (cellA rows S) := SliceAt.other (SliceAt.go hX hbl2) ab1 (by omega) _ _
  have ab2 : Above w0.heap.size (.slice (some ⟨b2, 0, none⟩) ps.length d2) := by intro a m c' e; injection e with e1; injection e1 with e1; rw [← e1]; show w0.heap.size ≤ b2; omega
  have hXp : SliceAt (V2.setCell ⟨w.heap.size, 1, none⟩ (.slice (some ⟨b2, 0, none⟩) n2 d2)) (.slice (some ⟨b2, 0, none⟩) ps.length d2) 6 ps.length (cellP ps) := SliceAt.other hs2 ab2 (by omega) _ _
  have n12 : b1 < b2 := by
    rcases hX with ⟨h0, _⟩ | ⟨b', c', he, _, _, hg⟩
    · rw [HN1.out] at h0; omega
    · injection he with e1
      injection e1 with e1
      injection e1 with e1
      have := hg.2.2
      omega
  clear hs2 hX hbl hbl2
  generalize V2.setCell ⟨w.heap.size, 1, none⟩ (.slice (some ⟨b2, 0, none⟩) n2 d2) = w2 at *
  have t0 := hI.t0
  have t1 := hI.t1
  have q1 := hI.q1
  have q2 := hI.q2
  go_wp2_with fail
  refine (rest_any at_ n1 _ (by omega) (by rw [HN1.out] at l1; omega)).mono ?_
  rintro e w' ⟨rfl, rfl⟩
  go_wp2_with fail
  refine (rest_any n n2 _ (by omega) (by rw [HN2.out] at l2; omega)).mono ?_
  rintro e w' ⟨rfl, rfl⟩
  have hi := restN_lt at_ n1 g1
  have hp := restN_lt n n2 g2
  generalize restN at_ n1 = i at hi ⊢
  generalize restN n n2 = p at hp ⊢
  have hii : (i : Int) < n1 := by omega
  obtain ⟨r, hr⟩ : ∃ r, rows.getD i default = r := ⟨_, rfl⟩
  have HR := Lib.hid hr
  clear hr
  have HFR : Hid ((r.Fine ∧ r.TenOk) ∧ r.ts.length ≤ m) := Lib.hid (HO.out r (by
    rw [← HR.out, List.getD_eq_getElem?_getD, List.getElem?_eq_getElem (by rw [HN1.out]; exact hi)]
    exact List.getElem_mem _))
  obtain ⟨oi, ci, hsi⟩ := SliceAt.slice (hA.2 i (by rw [HN1.out]; exact hi))
  rw [HR.out] at hsi
  obtain ⟨b', c', he, hdc, hsp, hg⟩ : ∃ b c, Value.slice (some ⟨b1, 0, none⟩) rows.length d1 = .slice (some ⟨b, 0, none⟩) rows.length c ∧ rows.length ≤ c ∧ Spare w2 b (c * 12) ∧ Grid w2 b 12 rows.length (cellA rows S) := by
    rcases hXa with ⟨h0, _⟩ | h
    · rw [HN1.out] at h0; omega
    · exact h
  injection he with e1 e2 e3
  injection e1 with e1
  injection e1 with e1
  subst e1 e3
  have hrow := row_cells hg i (by rw [HN1.out]; exact hi) r HR.out
  rw [hsi] at hrow
  obtain ⟨x0, x1, x2, x3, x4, x5, x6, x7, x8, x9, x10, x11⟩ := hrow
  have HSI := Lib.hid hsi
  clear hsi
  go_upto_region 8 with fail
  have hu : Below w2.heap.size w2 (w2.alloc (.cells (r.cs (.slice oi r.ts.length ci)) 40)) := (Below.refl _ _).alloc (Nat.le_refl _) _
  have hbox := AtomBox.new w2 r (.slice oi r.ts.length ci)
  have hz3 : w2.heap.size + 1 ≤ (w2.alloc (.cells (r.cs (.slice oi r.ts.length ci)) 40)).heap.size := Nat.le_of_eq (World.size_alloc _ _).symm
  replace hI := hI.go (hu.mono hI.size)
  have hgl := hg.2.2
  replace hg := hg.go hu
  replace hsp : Spare (w2.alloc (.cells (r.cs (.slice oi r.ts.length ci)) 40)) b1 (d1 * 12) := hsp.block (hu.block b1 hgl)
  obtain ⟨n2a, hpg, hpp, hdp⟩ : b2 < w2.heap.size ∧ Grid w2 b2 6 ps.length (cellP ps) ∧ Spare w2 b2 (d2 * 6) ∧ ps.length ≤ d2 := by
    rcases hXp with ⟨h0, _⟩ | ⟨b', c', he, hcc, hss, hgg⟩
    · rw [HN2.out] at h0; omega
    · injection he with e1 e2 e3
      injection e1 with e1
      injection e1 with e1
      subst e1 e3
      exact ⟨hgg.2.2, hgg, hss, hcc⟩
  replace hpp : Spare (w2.alloc (.cells (r.cs (.slice oi r.ts.length ci)) 40)) b2 (d2 * 6) := hpp.block (hu.block b2 n2a)
  replace hpg := hpg.go hu
  clear hXa hXp x0 x1 x2 x3 x4 x5 x6 x7 x8 x9 x10 x11 t0 t1 q1 q2 hu
  simp only [Row.cs] at hI hbox hg hsp hpg hpp hz3
  generalize w2.alloc (.cells #[.string (bs r.c0), .string (bs r.c1), .string (bs r.c2), .string (bs r.c3), .string (bs r.c4), .bool r.m, .int .i64 r.tag, .int .i64 r.base, .int .i64 r.num, .int .i64 r.den, .int .i64 r.ten, .slice oi r.ts.length ci] 40) = w3 at *
  have ht0 := hA.2 i (by rw [HN1.out]; exact hi)
  rw [HR.out, HSI.out] at ht0
  have l3 : r.ts.length ≤ 1000 := Nat.le_trans HFR.out.2 (by omega)
  obtain ⟨V4, b4, d4, happ, hs4, hb4, hbl4⟩ := clone_app elem_term (SliceAt.go ht0 hI.below) (term_one r.ts) (by omega)
  have hu4 : Below w3.heap.size w3 (w3.alloc (.cells #[] 47)) := (Below.refl _ _).alloc (Nat.le_refl _) _
  have x11 := (AtomBox.cells (Grid.go hbox hu4)).2.2.2.2.2.2.2.2.2.2.2
  have hbox' : AtomBox V4 w2.heap.size r (.slice oi r.ts.length ci) := Grid.go hbox hbl4
  have y11 := (AtomBox.cells hbox').2.2.2.2.2.2.2.2.2.2.2
  have yf := hbox'.2.1 11
  go_upto_region 9 with (first | (at_builtin; refine wpList_app rfl _ _ 38 38 rfl happ ?_) | fail)
  clear happ x11 y11 yf hbox
  have hJ := spj_start (d4 := d4) rfl (hI.below.trans (hbl4.mono (by have := hI.size; omega))) hA.2 ht0 (hg.go hbl4) (hsp.block (hbl4.block b1 (by omega))) hdc (hpg.go hbl4) (hpp.block (hbl4.block b2 (by omega))) hdp hbox' hs4 (by omega) n12 n2a (by omega)
  replace hI := (hI.go (hbl4.mono hI.size)).go (V' := V4.setCell ⟨w2.heap.size, 11, none⟩ (.slice (some ⟨b4, 0, none⟩) r.ts.length d4)) (((Only.refl _ _).set _ _).below hJ.oa)
  have HAO : Hid (∀ i, i < rows.length → ∀ a n c, S i = .slice (some a) n c → a.block < w.heap.size) := fun i hi => SliceAt.lt (hA.2 i hi)
  have o4 : w2.heap.size < b4 := by omega
  clear hg hsp hpg hpp hbox' hs4 hbl4 hu4 ht0 ab1 ab2 hA hP
  generalize V4.setCell ⟨w2.heap.size, 11, none⟩ (.slice (some ⟨b4, 0, none⟩) r.ts.length d4) = V at *
  generalize w2.heap.size = ab at *
  have q0 := hI.q0
  go_wp2_with fail
  refine (rest_any how 14 _ (by omega) (by omega)).mono ?_
  rintro e w' ⟨rfl, rfl⟩
  have hh := restN_lt how 14 (by omega)
  generalize restN how 14 = h at hh hw ⊢
  have q2 := hI.q2
  by_cases e9 : h = 9
  · subst e9
    have t0 := hI.t0
    obtain ⟨x0, x1, x2, x3, x4, x5, x6, x7, x8, x9, x10, x11⟩ := AtomBox.cells hJ.box
    have hu : Below V.heap.size V (V.alloc (.cells #[.string (bs r.c0), .string (bs r.c1), .string (bs r.c2), .string (bs r.c3), .string (bs r.c4), .bool r.m, .int .i64 r.tag, .int .i64 r.base, .int .i64 r.num, .int .i64 r.den, .int .i64 r.ten, .slice (some ⟨b4, 0, none⟩) r.ts.length d4] 40)) := (Below.refl _ _).alloc (Nat.le_refl _) _
    obtain ⟨V', s', happ, hjj⟩ := append_any (w := (V.alloc (.cells #[.string (bs r.c0), .string (bs r.c1), .string (bs r.c2), .string (bs r.c3), .string (bs r.c4), .bool r.m, .int .i64 r.tag, .int .i64 r.base, .int .i64 r.num, .int .i64 r.den, .int .i64 r.ten, .slice (some ⟨b4, 0, none⟩) r.ts.length d4] 40))) elem_atom (SliceAt.go (.inr ⟨b1, d1, rfl, hJ.cap, hJ.room, hJ.grid⟩) hu) (cell_one hJ.all) (SliceAt.source elem_atom (one_slice V 40 12 #[.string (bs r.c0), .string (bs r.c1), .string (bs r.c2), .string (bs r.c3), .string (bs r.c4), .bool r.m, .int .i64 r.tag, .int .i64 r.base, .int .i64 r.num, .int .i64 r.den, .int .i64 r.ten, .slice (some ⟨b4, 0, none⟩) r.ts.length d4] (cellA [r] fun _ => (.slice (some ⟨b4, 0, none⟩) r.ts.length d4)) (fun j hj => by match j, hj with | 0, _ => rfl | 1, _ => rfl | 2, _ => rfl | 3, _ => rfl | 4, _ => rfl | 5, _ => rfl | 6, _ => rfl | 7, _ => rfl | 8, _ => rfl | 9, _ => rfl | 10, _ => rfl | 11, _ => rfl) rfl) (cell_one (w := V) (rows := [r]) (S := fun _ => (.slice (some ⟨b4, 0, none⟩) r.ts.length d4)) (fun i hi => by
      have : i = 0 := by simp at hi; omega
      subst this
      exact hJ.terms))) (by omega) (.inl (by omega))
    obtain ⟨b5, d5, hs5, hJ5, hB5⟩ := hJ.grow hJ.terms hJ.offs hjj
    obtain ⟨n5, hn5⟩ : ∃ n5, rows.length + 1 = n5 := ⟨_, rfl⟩
    rw [hn5] at hs5
    subst hs5
    rw [HN1.out] at happ
    have hI5 := hI.go hB5
    have y0 := hI5.t0
    have yf := hI5.tf 0
    clear hjj hu
    go_upto_region 41 with (first | (at_builtin; refine wpList_app rfl _ _ 26 26 rfl happ ?_) | fail)
    have HF : Hid ((r.Fine ∧ r.TenOk) ∧ r.ts.length ≤ m + 1) := Lib.hid ⟨HFR.out.1, Nat.le_succ_of_le HFR.out.2⟩
    replace hI := hI5.set0 (.slice (some ⟨b5, 0, none⟩) n5 d5)
    replace hJ := hJ5.box0 0 (.slice (some ⟨b5, 0, none⟩) n5 d5)
    have hrl : (rows ++ [r]).length = rows.length + 1 := by rw [List.length_append]; rfl
    have hM5 : (rows ++ [r]).length ≤ M := by omega
    have hi5 : i < n5 := by rw [← hn5, HN1.out]; omega
    have hii5 : (i : Int) < n5 := by omega
    replace HOK : Hid (RowsOk (m + 1) (rows ++ [r]) ∧ ∀ p ∈ ps, p.c5.Fine) := Lib.hid ⟨HOK.out.1.snoc HF.out.1 HF.out.2, HOK.out.2⟩
    replace HN1 : Hid ((rows ++ [r]).length = n5) := Lib.hid (hrl.trans hn5)
    clear hJ5 hI5 happ x0 x1 x2 x3 x4 x5 x6 x7 x8 x9 x10 x11 y0 yf q0 q2 hB5 t0 hrl hn5 l1 hM hi hii HO HAO HR HSI
    have hi := hi5
    generalize V'.setCell ⟨w.heap.size, 0, none⟩ (.slice (some ⟨b5, 0, none⟩) n5 d5) = V5 at *
    generalize rows ++ [r] = rows5 at *
    have t0 := hI.t0
    obtain ⟨x0, x1, x2, x3, x4, x5, x6, x7, x8, x9, x10, x11⟩ := AtomBox.cells hJ.box
    obtain ⟨y0, y1, y2, y3, y4, y5, y6, y7, y8, y9, y10, y11⟩ := row_cells hJ.grid i (by rw [HN1.out]; exact hi) _ rfl
    have yf := hJ.grid.2.1
    have na1 := hJ.na1
    go_upto_region 42 with fail
    obtain ⟨hI6, hE⟩ := hJ.fin (M := M) (m := m + 1) (i := i) (by rw [HN1.out, HN2.out]; exact hI) (by rw [HN1.out]; exact hi) (by omega) l2 HOK.out.1 HF.out.1 HF.out.2 HOK.out.2
    rw [HN1.out, HN2.out] at hI6 hE
    have HE := Lib.hid hE
    clear hE hI hJ t0 x0 x1 x2 x3 x4 x5 x6 x7 x8 x9 x10 x11 y0 y1 y2 y3 y4 y5 y6 y7 y8 y9 y10 y11 yf na1
    generalize ((((((((((((V5.setCell ⟨b5, i * 12, none⟩ (.string (bs r.c0))).setCell ⟨b5, i * 12 + 1, none⟩ (.string (bs r.c1))).setCell ⟨b5, i * 12 + 2, none⟩ (.string (bs r.c2))).setCell ⟨b5, i * 12 + 3, none⟩ (.string (bs r.c3))).setCell ⟨b5, i * 12 + 4, none⟩ (.string (bs r.c4))).setCell ⟨b5, i * 12 + 5, none⟩ (.bool r.m)).setCell ⟨b5, i * 12 + 6, none⟩ (.int .i64 r.tag)).setCell ⟨b5, i * 12 + 7, none⟩ (.int .i64 r.base)).setCell ⟨b5, i * 12 + 8, none⟩ (.int .i64 r.num)).setCell ⟨b5, i * 12 + 9, none⟩ (.int .i64 r.den)).setCell ⟨b5, i * 12 + 10, none⟩ (.int .i64 r.ten)).setCell ⟨b5, i * 12 + 11, none⟩ (.slice (some ⟨b4, 0, none⟩) r.ts.length d4)) = V6 at *
    have t0 := hI6.t0
    have t1 := hI6.t1
    have r0 := hI6.r0
    have r1 := hI6.r1
    have rf0 := hI6.rf 0
    have rf1 := hI6.rf 1
    go_wp2
    refine bodyPost_ret (P := Tryd.prog) (v := .agg #[.slice (some ⟨b5, 0, none⟩) n5 d5, .slice (some ⟨b2, 0, none⟩) n2 d2]) ?_ ?_ HE.out <;> first | rfl | skip
    simp [results, Tryd.results7, go_sem, t0, t1, r0, r1]
  by_cases e13 : h = 13
  · subst e13
    obtain ⟨K, hK⟩ : ∃ K, restN n 120 = K := ⟨_, rfl⟩
    have K120 : K < 120 := by rw [← hK]; exact restN_lt n 120 (by omega)
    have rK := fun W => rest_any n 120 W (by omega) (by omega)
    rw [hK] at rK
    clear hK
    have HF : Hid ((r.Fine ∧ r.TenOk) ∧ r.ts.length ≤ m + 1) := Lib.hid ⟨HFR.out.1, Nat.le_succ_of_le HFR.out.2⟩
    have HP := Lib.hid HOK.out.2
    have l1' : n1 ≤ 1000 := by rw [← HN1.out]; exact l1
    have hM' : n1 + 120 ≤ M := by rw [← HN1.out]; exact hM
    have hfz : ((⟨[], [], [], [], [], false, 0, -1, 1, 1, 0, []⟩ : Row) : Row).Fine ∧ ((⟨[], [], [], [], [], false, 0, -1, 1, 1, 0, []⟩ : Row) : Row).TenOk := ⟨⟨fun i => by
      match i with
      | 0 => exact Nat.zero_le _
      | 1 => exact Nat.zero_le _
      | 2 => exact Nat.zero_le _
      | 3 => exact Nat.zero_le _
      | 4 => exact Nat.zero_le _
      | (j + 5) => exact Nat.zero_le _, by decide, by decide, Nat.zero_le _⟩, by unfold Row.TenOk; decide⟩
    have HFZ := Lib.hid hfz
    clear hfz
    have h13 : Sp13 w b2 d2 ab (.slice (some ⟨b4, 0, none⟩) r.ts.length d4) ps r how at_ n (bs tx) n2 (m + 1) (n1 + 0) V := ⟨rows, S, b1, d1, HN1.out, hJ, hI, HOK.out.1⟩
    go_upto_region 11 with fail
    clear hJ hI q0 q2 HO HAO HR HSI HFR HOK HN1 hM l1
    go_loopw [8] (fun x wr => ∃ j : Nat, x = .int .i64 j ∧ j ≤ K ∧ Sp13 w b2 d2 ab (.slice (some ⟨b4, 0, none⟩) r.ts.length d4) ps r how at_ n (bs tx) n2 (m + 1) (n1 + j) wr) (fun x _ => (K - intOf x).toNat)
    case atStart => exact ⟨0, rfl, by omega, h13⟩
    case round =>
      clear h13
      obtain ⟨j, rfl, hj, rows', S', b, d, hk, hJ, hI, hok⟩ := hrel
      have HK := Lib.hid hk
      clear hk
      have q2 := hI.q2
      go_wp2_with fail
      refine (rK _).mono ?_
      rintro e w' ⟨rfl, rfl⟩
      by_cases hjK : j < K
      · have hjk : (j : Int) < K := by omega
        have t0 := hI.t0
        have hu : Below wr.heap.size wr (wr.alloc (.cells #[.string ⟨#[]⟩, .string ⟨#[]⟩, .string ⟨#[]⟩, .string ⟨#[]⟩, .string ⟨#[]⟩, .bool false, .int .i64 0, .int .i64 (-1), .int .i64 1, .int .i64 1, .int .i64 0, .slice none 0 0] 40)) := (Below.refl _ _).alloc (Nat.le_refl _) _
        have hnil : TermsAt wr (.slice none 0 0) ((⟨[], [], [], [], [], false, 0, -1, 1, 1, 0, []⟩ : Row) : Row).ts := .inl ⟨rfl, rfl⟩
        obtain ⟨V', s', happ, hjj⟩ := append_any (w := wr.alloc (.cells #[.string ⟨#[]⟩, .string ⟨#[]⟩, .string ⟨#[]⟩, .string ⟨#[]⟩, .string ⟨#[]⟩, .bool false, .int .i64 0, .int .i64 (-1), .int .i64 1, .int .i64 1, .int .i64 0, .slice none 0 0] 40)) elem_atom (SliceAt.go (.inr ⟨b, d, rfl, hJ.cap, hJ.room, hJ.grid⟩) hu) (cell_one hJ.all) (SliceAt.source elem_atom (one_slice wr 40 12 #[.string ⟨#[]⟩, .string ⟨#[]⟩, .string ⟨#[]⟩, .string ⟨#[]⟩, .string ⟨#[]⟩, .bool false, .int .i64 0, .int .i64 (-1), .int .i64 1, .int .i64 1, .int .i64 0, .slice none 0 0] (cellA [(⟨[], [], [], [], [], false, 0, -1, 1, 1, 0, []⟩ : Row)] fun _ => .slice none 0 0) (fun j hj => by match j, hj with | 0, _ => rfl | 1, _ => rfl | 2, _ => rfl | 3, _ => rfl | 4, _ => rfl | 5, _ => rfl | 6, _ => rfl | 7, _ => rfl | 8, _ => rfl | 9, _ => rfl | 10, _ => rfl | 11, _ => rfl) rfl) (cell_one (w := wr) (rows := [(⟨[], [], [], [], [], false, 0, -1, 1, 1, 0, []⟩ : Row)]) (S := fun _ => .slice none 0 0) (fun i hi => by
          have : i = 0 := by simp at hi; omega
          subst this
          exact hnil))) (by rw [HK.out]; omega) (.inl (by omega))
        obtain ⟨b5, d5, hs5, hJ5, hB5⟩ := hJ.grow (q := (⟨[], [], [], [], [], false, 0, -1, 1, 1, 0, []⟩ : Row)) hnil (fun a n c e => by cases e) hjj
        rw [HK.out] at hs5 happ
        subst hs5
        have hI5 := hI.go hB5
        have y0 := hI5.t0
        have yf := hI5.tf 0
        clear hjj hu
        go_upto_region 12 with (first | (at_builtin; refine wpList_app rfl _ _ 26 26 rfl happ ?_) | fail)
        replace hI := hI5.set0 (.slice (some ⟨b5, 0, none⟩) (n1 + j + 1) d5)
        replace hJ := hJ5.box0 0 (.slice (some ⟨b5, 0, none⟩) (n1 + j + 1) d5)
        have hrl : (rows' ++ [(⟨[], [], [], [], [], false, 0, -1, 1, 1, 0, []⟩ : Row)]).length = n1 + (j + 1) := by rw [List.length_append, HK.out]; rfl
        have h13 : Sp13 w b2 d2 ab (.slice (some ⟨b4, 0, none⟩) r.ts.length d4) ps r how at_ n (bs tx) n2 (m + 1) (n1 + (j + 1)) (V'.setCell ⟨w.heap.size, 0, none⟩ (.slice (some ⟨b5, 0, none⟩) (n1 + j + 1) d5)) := ⟨_, _, b5, d5, hrl, hJ, hI, hok.snoc HFZ.out (Nat.zero_le _)⟩
        clear hJ hI hJ5 hI5 hok HK y0 yf q2 t0 happ hrl hB5 hnil
        generalize V'.setCell ⟨w.heap.size, 0, none⟩ (.slice (some ⟨b5, 0, none⟩) (n1 + j + 1) d5) = W5 at *
        go_wp2
        go_roundw
        case rel => exact ⟨j + 1, rfl, by omega, h13⟩
        case measure => simp only [intOf]; omega
      · have hjk : ¬ (j : Int) < K := by omega
        obtain ⟨n5, hn5⟩ : ∃ n5, n1 + j = n5 := ⟨_, rfl⟩
        rw [hn5] at hI HK
        go_upto_region 41 with fail
        have HN1 := HK
        have hM5 : rows'.length ≤ M := by rw [HN1.out, ← hn5]; omega
        have hi5 : i < n5 := by omega
        have hii5 : (i : Int) < n5 := by omega
        have HOK : Hid (RowsOk (m + 1) rows' ∧ ∀ p ∈ ps, p.c5.Fine) := Lib.hid ⟨hok, HP.out⟩
        clear HK hn5 q2 hii hok
        have hi := hi5
        have t0 := hI.t0
        obtain ⟨x0, x1, x2, x3, x4, x5, x6, x7, x8, x9, x10, x11⟩ := AtomBox.cells hJ.box
        obtain ⟨y0, y1, y2, y3, y4, y5, y6, y7, y8, y9, y10, y11⟩ := row_cells hJ.grid i (by rw [HN1.out]; exact hi) _ rfl
        have yf := hJ.grid.2.1
        have na1 := hJ.na1
        go_upto_region 42 with fail
        obtain ⟨hI6, hE⟩ := hJ.fin (M := M) (m := m + 1) (i := i) (by rw [HN1.out, HN2.out]; exact hI) (by rw [HN1.out]; exact hi) (by omega) l2 HOK.out.1 HF.out.1 HF.out.2 HOK.out.2
        rw [HN1.out, HN2.out] at hI6 hE
        have HE := Lib.hid hE
        clear hE hI hJ t0 x0 x1 x2 x3 x4 x5 x6 x7 x8 x9 x10 x11 y0 y1 y2 y3 y4 y5 y6 y7 y8 y9 y10 y11 yf na1
        generalize ((((((((((((wr.setCell ⟨b, i * 12, none⟩ (.string (bs r.c0))).setCell ⟨b, i * 12 + 1, none⟩ (.string (bs r.c1))).setCell ⟨b, i * 12 + 2, none⟩ (.string (bs r.c2))).setCell ⟨b, i * 12 + 3, none⟩ (.string (bs r.c3))).setCell ⟨b, i * 12 + 4, none⟩ (.string (bs r.c4))).setCell ⟨b, i * 12 + 5, none⟩ (.bool r.m)).setCell ⟨b, i * 12 + 6, none⟩ (.int .i64 r.tag)).setCell ⟨b, i * 12 + 7, none⟩ (.int .i64 r.base)).setCell ⟨b, i * 12 + 8, none⟩ (.int .i64 r.num)).setCell ⟨b, i * 12 + 9, none⟩ (.int .i64 r.den)).setCell ⟨b, i * 12 + 10, none⟩ (.int .i64 r.ten)).setCell ⟨b, i * 12 + 11, none⟩ (.slice (some ⟨b4, 0, none⟩) r.ts.length d4)) = V6 at *
        have t0 := hI6.t0
        have t1 := hI6.t1
        have r0 := hI6.r0
        have r1 := hI6.r1
        have rf0 := hI6.rf 0
        have rf1 := hI6.rf 1
        go_wp2
        refine bodyPost_ret (P := Tryd.prog) (v := .agg #[.slice (some ⟨b, 0, none⟩) n5 d, .slice (some ⟨b2, 0, none⟩) n2 d2]) ?_ ?_ HE.out <;> first | rfl | skip
        simp [results, Tryd.results7, go_sem, t0, t1, r0, r1]
  exfalso
  omega

end Go.Proofs.YtpmibcdmaaagjaaDoor.Atoms

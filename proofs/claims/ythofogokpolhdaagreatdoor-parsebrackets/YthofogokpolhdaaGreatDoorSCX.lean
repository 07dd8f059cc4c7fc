/-
  Contracts of strings.CutPrefix, of package symbol: find, Find. Contracts of package symbol: find, Find.
-/
import Derived.Test.YthofogokpolhdaaGreatDoorSMX
import Derived.Test.YthofogokpolhdaaGreatDoorY1X
namespace Go.Proofs.YthofogokpolhdaaGreatDoor.Syms
open Go.RowKit Go.Shelf
open Go.Proofs.YthofogokpolhdaaGreatDoor.Atoms (Row Pre C5 tableRs tablePs)
open Go.Proofs.YthofogokpolhdaaGreatDoor.Style (bs bs_size bs_extract)
open Go.Proofs.YthofogokpolhdaaGreatDoor.Toks (cell_lt cell_same)
set_option linter.unusedVariables false
set_option linter.unusedSimpArgs false

theorem has_take (s p : List UInt8) (h : p.length ≤ s.length) : (s.take p.length == p) = Lib.hasPrefix s p := by
  rw [Bool.eq_iff_iff, beq_iff_eq]
  unfold Lib.hasPrefix
  rw [List.isPrefixOf_iff_prefix, List.prefix_iff_eq_take]
  exact eq_comm
theorem has_no (s p : List UInt8) (h : ¬ p.length ≤ s.length) : Lib.hasPrefix s p = false := by
  cases e : Lib.hasPrefix s p with
  | false => rfl
  | true =>
    unfold Lib.hasPrefix at e
    rw [List.isPrefixOf_iff_prefix] at e
    exact absurd e.length_le h

set_option maxRecDepth 100000 in
set_option maxHeartbeats 1000000 in
theorem hasp_v (s p : List UInt8) (w : World) (hs : s.length ≤ 1000) (hp : p.length ≤ 1000) :
    Calls Tryz.prog 167 #[.string (bs s), .string (bs p)] w fun e w' => e = .returned (.bool (Lib.hasPrefix s p)) ∧ w = w' := by
  have z1 : ((bs s).size : Int) = s.length := by rw [bs_size]
  have z2 : ((bs p).size : Int) = p.length := by rw [bs_size]
  have hsI : (s.length : Int) ≤ 1000 := by omega
  have hpI : (p.length : Int) ≤ 1000 := by omega
  by_cases h : p.length ≤ s.length
  · have hI : (p.length : Int) ≤ s.length := by omega
    have he := bs_extract s 0 p.length h
    rw [List.drop_zero] at he
    have HT := Lib.hid (has_take s p h)
    have ht : ((bs (s.take p.length)).toList == (bs p).toList) = (s.take p.length == p) := by rw [Trees.bs_list, Trees.bs_list]
    have HU := Lib.hid ht
    generalize bs (s.take p.length) = bt at *
    clear ht
    go_enter Tryz.func167, Tryz.ntmps167
    go_wp2_with fail
    go_ret
    refine ⟨?_, rfl⟩
    rw [← HT.out, ← HU.out]
    rfl
  · have hI : ¬ (p.length : Int) ≤ s.length := by omega
    have HN := Lib.hid (has_no s p h)
    go_enter Tryz.func167, Tryz.ntmps167
    go_wp2_with fail
    go_ret
    refine ⟨?_, rfl⟩
    rw [HN.out]
    rfl

/-- What CutPrefix leaves. -/
def cutZ (s p : List UInt8) : List UInt8 := if Lib.hasPrefix s p = true then s.drop p.length else s

set_option maxRecDepth 100000 in
set_option maxHeartbeats 1000000 in
theorem cut0_v (s p : List UInt8) (w : World) (hs : s.length ≤ 1000) (hp : p.length ≤ 1000) :
    Calls Tryz.prog 158 #[.string (bs s), .string (bs p)] w fun e w' => e = .returned (.tuple #[.string (bs (cutZ s p)), .bool (Lib.hasPrefix s p)]) ∧ w = w' := by
  have z1 : ((bs s).size : Int) = s.length := by rw [bs_size]
  have z2 : ((bs p).size : Int) = p.length := by rw [bs_size]
  have hsI : (s.length : Int) ≤ 1000 := by omega
  have hpI : (p.length : Int) ≤ 1000 := by omega
  have hH := hasp_v s p w hs hp
  cases hc : Lib.hasPrefix s p with
  | false =>
    rw [hc] at hH
    have HE : Hid (cutZ s p = s) := by show _ = _; unfold cutZ; rw [hc]; rfl
    clear hc
    go_enter Tryz.func158, Tryz.ntmps158
    go_wp2_with fail
    refine hH.mono ?_
    rintro e w2 ⟨rfl, rfl⟩
    clear hH
    go_wp2_with fail
    refine bodyPost_ret (v := .tuple #[.string (bs s), .bool false]) (by simp [results, Tryz.results158, go_sem]) rfl ⟨by rw [HE.out], rfl⟩
  | true =>
    rw [hc] at hH
    have hle : p.length ≤ s.length := by
      by_cases h : p.length ≤ s.length
      · exact h
      · rw [has_no s p h] at hc; cases hc
    have hleI : (p.length : Int) ≤ s.length := by omega
    have HE : Hid (cutZ s p = s.drop p.length) := by show _ = _; unfold cutZ; rw [hc]; rfl
    have he := bs_extract s p.length s.length (Nat.le_refl _)
    rw [List.take_length] at he
    have hzn : (bs s).size = s.length := bs_size s
    clear hc
    go_enter Tryz.func158, Tryz.ntmps158
    go_wp2_with fail
    refine hH.mono ?_
    rintro e w2 ⟨rfl, rfl⟩
    clear hH
    go_wp2_with fail
    refine bodyPost_ret (v := .tuple #[.string (bs (s.drop p.length)), .bool true]) (by simp [results, Tryz.results158, go_sem, he, hzn]) rfl ⟨by rw [HE.out], rfl⟩

set_option maxRecDepth 100000 in
theorem cut_v (s p : List UInt8) (w : World) (hs : s.length ≤ 1000) (hp : p.length ≤ 1000) :
    Calls Tryz.prog 139 #[.string (bs s), .string (bs p)] w fun e w' => e = .returned (.tuple #[.string (bs (cutZ s p)), .bool (Lib.hasPrefix s p)]) ∧ w = w' := by
  have hH := cut0_v s p w hs hp
  generalize cutZ s p = c at *
  generalize Lib.hasPrefix s p = b at *
  go_enter Tryz.func139, Tryz.ntmps139
  go_wp2_with fail
  refine hH.mono ?_
  rintro e w2 ⟨rfl, rfl⟩
  clear hH
  go_wp2_with fail
  refine bodyPost_ret (v := .tuple #[.string (bs c), .bool b]) (by simp [results, Tryz.results139, go_sem]) rfl ⟨rfl, rfl⟩

/-- The boxes of find: what the notation has, the atom. -/
structure FnI (w : World) (ba bp ca cp : Nat) (rows : List Row) (ps : List Pre) (n a : Int) (W : World) : Prop where
  c0 : W.cell? ⟨w.heap.size, 0, none⟩ = some (.slice (some ⟨ba, 0, none⟩) rows.length ca)
  c1 : W.cell? ⟨w.heap.size, 1, none⟩ = some (.slice (some ⟨bp, 0, none⟩) ps.length cp)
  c2 : W.cell? ⟨w.heap.size, 2, none⟩ = some (.int .i64 n)
  x : W.cell? ⟨w.heap.size + 1, 0, none⟩ = some (.int .i64 a)
  f : W.frozen? ⟨w.heap.size + 1, 0, none⟩ = false
  ni : NI W ba bp ca cp rows ps
  ha : ba ≠ w.heap.size + 1 ∧ bp ≠ w.heap.size + 1
  below : Below w.heap.size w W
theorem FnI.go {w : World} {ba bp ca cp : Nat} {rows : List Row} {ps : List Pre} {n a : Int} {W W' : World} (h : FnI w ba bp ca cp rows ps n a W) (hb : Below W.heap.size W W') : FnI w ba bp ca cp rows ps n a W' :=
  ⟨(hb.cell (p := ⟨_, 0, none⟩) (cell_lt h.c0)).trans h.c0, (hb.cell (p := ⟨_, 1, none⟩) (cell_lt h.c0)).trans h.c1, (hb.cell (p := ⟨_, 2, none⟩) (cell_lt h.c0)).trans h.c2, (hb.cell (p := ⟨_, 0, none⟩) (cell_lt h.x)).trans h.x, (hb.frozen (p := ⟨_, 0, none⟩) (cell_lt h.x)).trans h.f, h.ni.go hb, h.ha, h.below.trans (hb.mono h.below.size)⟩
theorem FnI.set {w : World} {ba bp ca cp : Nat} {rows : List Row} {ps : List Pre} {n a : Int} {W : World} (h : FnI w ba bp ca cp rows ps n a W) (a' : Int) : FnI w ba bp ca cp rows ps n a' (W.setCell ⟨w.heap.size + 1, 0, none⟩ (.int .i64 a')) :=
  ⟨by rw [World.cell?_setCell_other _ _ _ _ (by intro hh; injection hh with e1 e2; omega)]; exact h.c0, by rw [World.cell?_setCell_other _ _ _ _ (by intro hh; injection hh with e1 e2; omega)]; exact h.c1, by rw [World.cell?_setCell_other _ _ _ _ (by intro hh; injection hh with e1 e2; omega)]; exact h.c2, World.cell?_setCell_same _ _ _ h.x, by rw [World.frozen?_setCell]; exact h.f, h.ni.set h.ha.1 h.ha.2 _ _, h.ha, h.below.setCell (p := ⟨w.heap.size + 1, 0, none⟩) (show w.heap.size ≤ w.heap.size + 1 by omega) _⟩

set_option maxRecDepth 100000 in
set_option maxHeartbeats 2000000 in
theorem metric_v (n : Int) (k : Nat) (c : List UInt8) (hk : n = (k : Int) + 1) (hk5 : k < 5) (ba bp ca cp : Nat) (rows : List Row) (ps : List Pre) (w W : World) (a : Int) (h : FnI w ba bp ca cp rows ps n a W) (hr : rows.length ≤ 1000) :
    Calls Tryz.prog 138 #[.string (bs c), .pointer (some ⟨w.heap.size, 0, none⟩), .pointer (some ⟨w.heap.size + 1, 0, none⟩)] W fun e W' => e = .returned (.bool (metricZ rows k c)) ∧ FnI w ba bp ca cp rows ps n (if metricZ rows k c = true then calledZ rows k c else a) W' := by
  have hC := called_v n k c hk hk5 ba bp ca cp rows ps W h.ni hr
  unfold ntV at hC
  clear hk
  have c0 := h.c0
  have c1 := h.c1
  have c2 := h.c2
  rcases called_cases rows k c with hn | ⟨j, hj, hjl⟩
  · have hM : Hid (metricZ rows k c = false) := by show _ = _; unfold metricZ; rw [hn]; rfl
    rw [hM.out, if_neg (by simp)]
    rw [hn] at hC
    have hG := fun W' hb => h.go (W' := W') hb
    clear h
    go_enter Tryz.func138, Tryz.ntmps138
    go_wp2_with fail
    refine hC.mono ?_
    rintro e w2 ⟨rfl, hb⟩
    have HG := Lib.hid (hG _ hb)
    clear hC hG hb
    go_wp2_with fail
    go_ret
    exact ⟨rfl, HG.out⟩
  · have hjI : (j : Int) < rows.length := by omega
    have hrI : (rows.length : Int) ≤ 1000 := by omega
    have hla := h.ni.la
    have hm := h.ni.m j hjl
    have hM : Hid (metricZ rows k c = (rows.getD j default).m) := by
      show _ = _
      unfold metricZ
      rw [hj, Int.toNat_natCast, decide_eq_true (by omega), Bool.true_and]
    rw [hj] at hC ⊢
    have hne : ((j : Int) == -1) = false := by rw [beq_eq_false_iff_ne]; omega
    rw [hM.out]
    have hG := fun W' hb => h.go (W' := W') hb
    have hgm := fun W' (hb : Below W.heap.size W W') => (hb.cell (p := ⟨ba, j * 12 + 5, none⟩) (cell_lt hm)).trans hm
    cases hmt : (rows.getD j default).m with
    | false =>
      rw [hmt] at hgm
      rw [if_neg (by simp)]
      clear h hm hj hM hmt
      go_enter Tryz.func138, Tryz.ntmps138
      go_wp2_with fail
      refine hC.mono ?_
      rintro e w2 ⟨rfl, hb⟩
      have hF := hG _ hb
      have c0' := hF.c0
      have hm' := hgm _ hb
      have HG := Lib.hid hF
      clear hC hG hb hF c0 c1 c2 hgm
      go_wp2_with fail
      go_ret
      exact ⟨rfl, HG.out⟩
    | true =>
      rw [hmt] at hgm
      rw [if_pos rfl]
      clear h hm hj hM hmt
      go_enter Tryz.func138, Tryz.ntmps138
      go_wp2_with fail
      refine hC.mono ?_
      rintro e w2 ⟨rfl, hb⟩
      have hF := hG _ hb
      have c0' := hF.c0
      have x' := hF.x
      have f' := hF.f
      have hm' := hgm _ hb
      have HG := Lib.hid (hF.set (j : Int))
      clear hC hG hb hF c0 c1 c2 hgm
      go_wp2_with fail
      go_ret
      exact ⟨rfl, HG.out⟩

end Go.Proofs.YthofogokpolhdaaGreatDoor.Syms

namespace Go.Proofs.YthofogokpolhdaaGreatDoor.Syms
open Go.RowKit Go.Shelf
open Go.Proofs.YthofogokpolhdaaGreatDoor.Atoms (Row Pre C5 tableRs tablePs)
open Go.Proofs.YthofogokpolhdaaGreatDoor.Style (bs bs_size bs_extract)
open Go.Proofs.YthofogokpolhdaaGreatDoor.Toks (cell_lt cell_same)
set_option linter.unusedVariables false
set_option linter.unusedSimpArgs false

theorem pref_step (rows : List Row) (ps : List Pre) (k : Nat) (s : List UInt8) (i m : Nat) : prefF rows ps k s i (m + 1) = if Lib.hasPrefix s (codeP ps k i) = true ∧ metricZ rows k (s.drop (codeP ps k i).length) = true then ((i : Int), calledZ rows k (s.drop (codeP ps k i).length)) else prefF rows ps k s (i + 1) m := rfl
theorem metric_some {rows : List Row} {k : Nat} {c : List UInt8} (h : metricZ rows k c = true) : ((calledZ rows k c == -1) = false) ∧ 0 ≤ calledZ rows k c := by
  unfold metricZ at h
  rw [Bool.and_eq_true, decide_eq_true_eq] at h
  rcases called_cases rows k c with hn | ⟨j, hj, _⟩
  · exact absurd hn h.1
  · rw [hj]; exact ⟨by rw [beq_eq_false_iff_ne]; omega, by omega⟩

set_option maxRecDepth 100000 in
set_option maxHeartbeats 8000000 in
theorem find_v (n : Int) (k : Nat) (s : List UInt8) (hk : n = (k : Int) + 1) (hk5 : k < 5) (ba bp ca cp : Nat) (rows : List Row) (ps : List Pre) (w : World) (h : NI w ba bp ca cp rows ps) (hr : rows.length ≤ 1000) (hps : ps.length ≤ 1000) (hs : s.length ≤ 1000)
    (hcl : ∀ i, i < ps.length → (codeP ps k i).length ≤ 1000) (hla : ba < w.heap.size ∧ bp < w.heap.size) :
    Calls Tryz.prog 122 #[ntV ba bp ca cp rows ps n, .string (bs s)] w fun e w' => e = .returned (.tuple #[.int .i64 (findZ rows ps k s).1, .int .i64 (findZ rows ps k s).2, .bool (decide ((findZ rows ps k s).2 ≠ -1))]) ∧ Below w.heap.size w w' := by
  have hu : Below w.heap.size w ((w.alloc (.cells #[.slice (some ⟨ba, 0, none⟩) rows.length ca, .slice (some ⟨bp, 0, none⟩) ps.length cp, .int .i64 n] 183)).alloc (.cells #[.int .i64 0] 3)) := by go_grown
  have hI : FnI w ba bp ca cp rows ps n 0 ((w.alloc (.cells #[.slice (some ⟨ba, 0, none⟩) rows.length ca, .slice (some ⟨bp, 0, none⟩) ps.length cp, .int .i64 n] 183)).alloc (.cells #[.int .i64 0] 3)) :=
    ⟨by simp [go_sem], by simp [go_sem], by simp [go_sem], by simp [go_sem], by simp [go_sem], h.go hu, ⟨by omega, by omega⟩, hu⟩
  have hCs := fun W hW => called_v n k s hk hk5 ba bp ca cp rows ps W hW hr
  have hMt := fun c W a hW => metric_v n k c hk hk5 ba bp ca cp rows ps w W a hW hr
  have hPc := fun i hi W hW => pcode_v n k i hk hk5 ba bp ca cp rows ps W hW hps hi
  have hpI : (ps.length : Int) ≤ 1000 := by omega
  unfold ntV at hCs hPc ⊢
  clear hk h hu hla
  obtain ⟨R, hR⟩ : ∃ R, findZ rows ps k s = R := ⟨_, rfl⟩
  rw [hR]
  have HRR := Lib.hid hR
  clear hR
  have c0 := hI.c0
  have c1 := hI.c1
  have c2 := hI.c2
  go_enter Tryz.func122, Tryz.ntmps122
  go_wp2_with fail
  generalize (w.alloc (.cells #[.slice (some ⟨ba, 0, none⟩) rows.length ca, .slice (some ⟨bp, 0, none⟩) ps.length cp, .int .i64 n] 183)).alloc (.cells #[.int .i64 0] 3) = W0 at *
  clear c0 c1 c2
  have c0 := hI.c0
  have c1 := hI.c1
  have c2 := hI.c2
  have hC := hCs W0 hI.ni
  go_step3
  go_wp2_with fail
  refine hC.mono ?_
  rintro e w2 ⟨rfl, hb2⟩
  have hI2 := hI.go hb2
  clear hC hI hb2 hCs c0 c1 c2
  rcases called_cases rows k s with hn | ⟨j, hj, hjl⟩
  · have HR : Hid (prefF rows ps k s 0 ps.length = R) := by
      show _ = _
      have h1 := HRR.out
      unfold findZ at h1
      rw [if_neg (by rw [hn]; simp)] at h1
      exact h1
    rw [hn]
    clear HRR hn
    have x1 := hI2.x
    have x2 := hI2.f
    have hI3 := hI2.set (-1)
    have c0 := hI3.c0
    have c1 := hI3.c1
    clear hI2
    go_wp2_with fail
    generalize w2.setCell ⟨w.heap.size + 1, 0, none⟩ (.int .i64 (-1)) = w3 at *
    clear x1 x2 c0 c1
    have c0 := hI3.c0
    have c1 := hI3.c1
    go_step3
    go_wp2_with fail
    clear c0 c1
    go_loopw [4, 23] (fun p x wr => ∃ i : Nat, p = .int .i64 (-1) ∧ x = .int .i64 (i : Int) ∧ i ≤ ps.length ∧ Hid (prefF rows ps k s i (ps.length - i) = R) ∧ FnI w ba bp ca cp rows ps n (-1) wr) (fun _ x _ => ((ps.length : Int) - intOf x).toNat)
    case atStart => exact ⟨0, rfl, rfl, by omega, by rw [Nat.sub_zero]; exact HR, hI3⟩
    case round =>
      clear hI3 HR
      obtain ⟨i, rfl, rfl, hil, HR, hI⟩ := hrel
      have c0 := hI.c0
      have c1 := hI.c1
      have c2 := hI.c2
      by_cases hi : i < ps.length
      · have hiI : (i : Int) < ps.length := by omega
        obtain ⟨m, hm⟩ : ∃ m, ps.length - i = m + 1 := ⟨ps.length - i - 1, by omega⟩
        rw [hm] at HR
        have hm2 : ps.length - (i + 1) = m := by omega
        have HST := Lib.hid (pref_step rows ps k s i m)
        have hP := hPc i hi wr hI.ni
        have hcli := hcl i hi
        generalize codeP ps k i = cd at *
        have hCut := fun W => cut_v s cd W hs hcli
        have hMM := fun W a hW => hMt (s.drop cd.length) W a hW
        clear hPc hMt hm
        go_wp2_with fail
        refine hP.mono ?_
        rintro e w4 ⟨rfl, hb4⟩
        have hI4 := hI.go hb4
        clear hP hI hb4 c0 c1 c2
        go_wp2_with fail
        refine (hCut _).mono ?_
        rintro e w5 ⟨rfl, rfl⟩
        clear hCut
        cases hbg : Lib.hasPrefix s cd with
        | false =>
          have HR2 : Hid (prefF rows ps k s (i + 1) m = R) := by
            show _ = _
            have h1 := HR.out
            rw [HST.out, if_neg (fun h => by rw [hbg] at h; exact absurd h.1 (by simp))] at h1
            exact h1
          generalize cutZ s cd = lf
          clear HR HST hbg hMM
          go_wp2_with fail
          go_roundw
          case rel => exact ⟨i + 1, rfl, by simp, by omega, by rw [hm2]; exact HR2, hI4⟩
          case measure => simp only [intOf]; omega
        | true =>
          have hlf : cutZ s cd = s.drop cd.length := by unfold cutZ; rw [hbg]; rfl
          rw [hlf]
          have hM4 := hMM w4 (-1) hI4
          have HST2 := HST
          generalize s.drop cd.length = lf at *
          clear hMM hlf
          go_wp2_with fail
          refine hM4.mono ?_
          rintro e w6 ⟨rfl, hI6⟩
          clear hM4 hI4
          cases hmt : metricZ rows k lf with
          | false =>
            rw [hmt, if_neg (by simp)] at hI6
            have HR2 : Hid (prefF rows ps k s (i + 1) m = R) := by
              show _ = _
              have h1 := HR.out
              rw [HST.out, if_neg (fun h => by rw [hmt] at h; exact absurd h.2 (by simp))] at h1
              exact h1
            clear HR HST HST2 hbg hmt
            go_wp2_with fail
            go_roundw
            case rel => exact ⟨i + 1, rfl, by simp, by omega, by rw [hm2]; exact HR2, hI6⟩
            case measure => simp only [intOf]; omega
          | true =>
            rw [hmt, if_pos rfl] at hI6
            obtain ⟨ms, m0⟩ := metric_some hmt
            have HR2 : Hid (R = ((i : Int), calledZ rows k lf)) := by
              show _ = _
              have h1 := HR.out
              rw [HST.out, if_pos ⟨hbg, hmt⟩] at h1
              exact h1.symm
            generalize calledZ rows k lf = cz at *
            clear HR HST HST2 hbg hmt
            go_wp2_with fail
            have hD := hI6
            have x1 := hD.x
            have x2 := hD.f
            have hS := hD.set cz
            have x3 := hS.x
            have HB := Lib.hid (hS.go (Below.refl _ _).drew).below
            have hcz : (cz != -1) = true := by simp [bne, ms]
            clear hD hS hI6
            go_region
            all_goals go_wp2_with fail
            all_goals try rw [Exit.noGoto_ret]
            all_goals refine bodyPost_ret (v := .tuple #[.int .i64 (i : Int), .int .i64 cz, .bool true]) (by simp [results, Tryz.results122, go_sem, x3]) rfl ⟨?_, HB.out⟩
            all_goals rw [HR2.out]
            all_goals
              have hne' : cz ≠ -1 := by omega
              show Ending.returned (.tuple #[.int .i64 (i : Int), .int .i64 cz, .bool true]) = Ending.returned (.tuple #[.int .i64 (i : Int), .int .i64 cz, .bool (decide (cz ≠ -1))])
              rw [decide_eq_true hne']
      · have hiI : ¬ (i : Int) < ps.length := by omega
        have hie : i = ps.length := by omega
        have HR2 : Hid (R = (-1, -1)) := by
          show _ = _
          have h1 := HR.out
          rw [hie, Nat.sub_self] at h1
          exact h1.symm
        clear HR hPc hMt hie
        go_wp2_with fail
        have hD := hI
        have x1 := hD.x
        have x2 := hD.f
        have hS := hD.set (-1)
        have x3 := hS.x
        have HB := Lib.hid (hS.go (Below.refl _ _).drew).below
        clear hD hS hI
        go_region
        all_goals go_wp2_with fail
        all_goals try rw [Exit.noGoto_ret]
        all_goals refine bodyPost_ret (v := .tuple #[.int .i64 (-1), .int .i64 (-1), .bool false]) (by simp [results, Tryz.results122, go_sem, x3]) rfl ⟨?_, HB.out⟩
        all_goals rw [HR2.out]
        all_goals rfl
  · have HR : Hid (R = (-1, (j : Int))) := by
      show _ = _
      have h1 := HRR.out
      unfold findZ at h1
      rw [if_pos (by rw [hj]; omega), hj] at h1
      exact h1.symm
    rw [hj]
    have hne : ((j : Int) == -1) = false := by rw [beq_eq_false_iff_ne]; omega
    have x1 := hI2.x
    have x2 := hI2.f
    have hI3 := hI2.set (j : Int)
    have x3 := hI3.x
    have HB := Lib.hid hI3.below
    clear hI2 hI3 hj HRR
    go_wp2_with fail
    rw [Exit.noGoto_ret]
    refine bodyPost_ret (v := .tuple #[.int .i64 (-1), .int .i64 (j : Int), .bool true]) (by simp [results, Tryz.results122, go_sem, x3]) rfl ⟨?_, HB.out⟩
    rw [HR.out]
    simp

theorem codes_short : ∀ k, k < 5 → ∀ i, i < tablePs.length → (codeP tablePs k i).length ≤ 1000 := by
  intro k hk i hi
  have h : ∀ j : Fin 5, ∀ p ∈ tablePs, (p.c5.get j.val).length ≤ 1000 := by decide +kernel
  unfold codeP
  refine h ⟨k, hk⟩ _ ?_
  rw [List.getD_eq_getElem?_getD, List.getElem?_eq_getElem hi]
  exact List.getElem_mem _

attribute [local irreducible] tableRs tablePs findZ

set_option maxRecDepth 100000 in
set_option maxHeartbeats 2000000 in
theorem sfind_gen (n : Int) (k : Nat) (s : List UInt8) (rows : List Row) (ps : List Pre) (hk : n = (k : Int) + 1) (hk5 : k < 5) (w : World) (hs : s.length ≤ 1000) (hr : rows.length ≤ 1000) (hps : ps.length ≤ 1000) (hr0 : 0 < rows.length) (hp0 : 0 < ps.length) (hcl : ∀ i, i < ps.length → (codeP ps k i).length ≤ 1000)
    (hOf : Calls Tryz.prog 121 #[.int .i64 n] w fun e w' => ∃ ba bp ca cp, e = .returned (ntV ba bp ca cp rows ps n) ∧ NI w' ba bp ca cp rows ps ∧ Below w.heap.size w w') (a b : Int) (ok : Bool) (hR : findZ rows ps k s = (a, b)) (hok : decide (b ≠ -1) = ok) :
    Calls Tryz.prog 104 #[.int .i64 n, .string (bs s)] w fun e w' => e = .returned (.tuple #[.int .i64 a, .int .i64 b, .bool ok]) ∧ Below w.heap.size w w' := by
  have hF := fun ba bp ca cp W hW hla => find_v n k s hk hk5 ba bp ca cp rows ps W hW hr hps hs hcl hla
  rw [hR, hok] at hF
  unfold ntV at hOf hF
  clear hR hok hk hcl
  go_enter Tryz.func104, Tryz.ntmps104
  go_wp2_with fail
  refine hOf.mono ?_
  rintro e w2 ⟨ba, bp, ca, cp, rfl, hNI, hb⟩
  have hF2 := hF ba bp ca cp w2 hNI ⟨cell_lt (hNI.a 0 hr0 0 (by omega)), cell_lt (hNI.p 0 hp0 0 (by omega))⟩
  clear hOf hF hNI
  go_wp2_with fail
  refine hF2.mono ?_
  rintro e w3 ⟨rfl, hb3⟩
  have HB := Lib.hid (hb.trans (hb3.mono hb.size))
  clear hF2 hb hb3
  go_wp2_with fail
  refine bodyPost_ret (v := .tuple #[.int .i64 a, .int .i64 b, .bool ok]) (by simp [results, Tryz.results104, go_sem]) rfl ⟨rfl, HB.out⟩

/-- What a symbol is, by the table. -/
def symZ (k : Nat) (s : List UInt8) : Int × Int := findZ tableRs tablePs k s
theorem sfind_v (n : Int) (k : Nat) (s : List UInt8) (hk : n = (k : Int) + 1) (hk5 : k < 5) (w : World) (hs : s.length ≤ 1000) (a b : Int) (ok : Bool) (hR : symZ k s = (a, b)) (hok : decide (b ≠ -1) = ok) :
    Calls Tryz.prog 104 #[.int .i64 n, .string (bs s)] w fun e w' => e = .returned (.tuple #[.int .i64 a, .int .i64 b, .bool ok]) ∧ Below w.heap.size w w' :=
  sfind_gen n k s tableRs tablePs hk hk5 w hs (by rw [len_R]; omega) (by rw [len_P]; omega) (by rw [len_R]; omega) (by rw [len_P]; omega) (codes_short k hk5) (of_in n w ⟨by omega, by omega⟩) a b ok hR hok

end Go.Proofs.YthofogokpolhdaaGreatDoor.Syms


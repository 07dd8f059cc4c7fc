/-
  The walk of AtomsChecks.
-/
import Derived.Test.YtpmibcdmaaagjaaDoorJE
import Derived.Test.YtpmibcdmaaagjaaDoorNB
import Derived.StillTailTactics
namespace Go.Proofs.YtpmibcdmaaagjaaDoor.Atoms
open Go.RowKit Go.Shelf
set_option linter.unusedVariables false
set_option linter.unusedSimpArgs false

/-- The table in its box, k times spoilt. -/
structure ChI (w : World) (tb k : Nat) (o1 o2 : Option Addr) (c1 c2 : Nat) (rows : List Row) (S : Nat → Value) (ps : List Pre) (V : World) : Prop where
  t0 : V.cell? ⟨tb, 0, none⟩ = some (.slice o1 rows.length c1)
  t1 : V.cell? ⟨tb, 1, none⟩ = some (.slice o2 ps.length c2)
  tf : ∀ j, V.frozen? ⟨tb, j, none⟩ = false
  atoms : AtomsSl V (.slice o1 rows.length c1) rows S
  prefs : PrefsSl V (.slice o2 ps.length c2) ps
  len : rows.length ≤ 48 + 120 * k
  plen : ps.length ≤ 1000
  ok : RowsOk (9 + k) rows
  pf : ∀ p ∈ ps, p.c5.Fine
theorem ChI.go {w : World} {tb k : Nat} {o1 o2 : Option Addr} {c1 c2 : Nat} {rows : List Row} {S : Nat → Value} {ps : List Pre} {V V' : World} (h : ChI w tb k o1 o2 c1 c2 rows S ps V) (hb : Below V.heap.size V V') : ChI w tb k o1 o2 c1 c2 rows S ps V' :=
  ⟨(hb.cell (p := ⟨tb, 0, none⟩) (cell_lt h.t0)).trans h.t0, (hb.cell (p := ⟨tb, 1, none⟩) (cell_lt h.t0)).trans h.t1, fun j => (hb.frozen (p := ⟨tb, j, none⟩) (cell_lt h.t0)).trans (h.tf j), h.atoms.go hb, SliceAt.go h.prefs hb, h.len, h.plen, h.ok, h.pf⟩
theorem PrefsSl.unlike {V : World} {s : Value} {ps : List Pre} (h : PrefsSl V s ps) {b : Nat} {o : Option Addr} {m c : Nat} (hx : V.cell? ⟨b, 0, none⟩ = some (.slice o m c)) (i : Nat) (u : Value) : PrefsSl (V.setCell ⟨b, i, none⟩ u) s ps :=
  SliceAt.unlike h (by omega) hx (fun _ e => by cases e) i u
/-- Another table is put into the box. -/
theorem ChI.put {w : World} {tb k : Nat} {o1 o2 : Option Addr} {c1 c2 : Nat} {rows rows' : List Row} {S S' : Nat → Value} {ps ps' : List Pre} {V : World} (h : ChI w tb k o1 o2 c1 c2 rows S ps V) {o3 o4 : Option Addr} {c3 c4 : Nat} (hA : AtomsSl V (.slice o3 rows'.length c3) rows' S') (hP : PrefsSl V (.slice o4 ps'.length c4) ps') (hl : rows'.length ≤ 48 + 120 * (k + 1)) (hpl : ps'.length ≤ 1000) (hok : RowsOk (9 + (k + 1)) rows') (hpf : ∀ p ∈ ps', p.c5.Fine) :
    ChI w tb (k + 1) o3 o4 c3 c4 rows' S' ps' ((V.setCell ⟨tb, 0, none⟩ (.slice o3 rows'.length c3)).setCell ⟨tb, 1, none⟩ (.slice o4 ps'.length c4)) := by
  have c0 : (V.setCell ⟨tb, 0, none⟩ (.slice o3 rows'.length c3)).cell? ⟨tb, 0, none⟩ = some (.slice o3 rows'.length c3) := World.cell?_setCell_same _ _ _ h.t0
  exact ⟨cell_off c0 (by omega), World.cell?_setCell_same _ _ _ (cell_off h.t1 (by omega)), fun j => by rw [World.frozen?_setCell, World.frozen?_setCell]; exact h.tf j, (hA.unlike h.t0 0 _).unlike c0 1 _, PrefsSl.unlike (PrefsSl.unlike hP h.t0 0 _) c0 1 _, hl, hpl, hok, hpf⟩
theorem fits_pre {ps : List Pre} (h : ∀ p ∈ ps, p.c5.Fine) (hl : ps.length ≤ 1000) : FitsP ps := by
  refine ⟨by omega, fun i => ?_⟩
  by_cases hi : i < ps.length
  · exact pre_fine h hi
  · rw [List.getD_eq_getElem?_getD, List.getElem?_eq_none (by omega)]
    exact fine5_of _ (Nat.zero_le _) (Nat.zero_le _) (Nat.zero_le _) (Nat.zero_le _) (Nat.zero_le _)
theorem check_none (w : World) (hT : Frac.OfTen w) : Calls Tryd.prog 8 #[.agg #[.slice none 0 0, .slice none 0 0]] w fun e w' => e = .returned (.int .i64 (-1)) ∧ Below w.heap.size w w' :=
  check_any (.slice none 0 0) (.slice none 0 0) [] (fun _ => .slice none 0 0) [] w (fits_rows (M := 0) (m := 0) (Nat.le_refl _) (fun r hr => by cases hr)) (fits_pre (fun p hp => by cases hp) (by simp)) ⟨.inl ⟨rfl, rfl⟩, fun i hi => absurd hi (by simp)⟩ (.inl ⟨rfl, rfl⟩) hT

set_option maxRecDepth 100000 in
set_option maxHeartbeats 30000000 in
theorem checks_walk (h0 a0 n0 : Int) (x0 : List UInt8) (h1 a1 n1 : Int) (x1 : List UInt8) (h2 a2 n2 : Int) (x2 : List UInt8) (w : World) (hT : Frac.OfTen w) (bn0 : -9223372036854775808 ≤ n0 ∧ n0 ≤ 9223372036854775807) (bx0 : x0.length ≤ 9223372036854775807) (bn1 : -9223372036854775808 ≤ n1 ∧ n1 ≤ 9223372036854775807) (bx1 : x1.length ≤ 9223372036854775807) (bn2 : -9223372036854775808 ≤ n2 ∧ n2 ≤ 9223372036854775807) (bx2 : x2.length ≤ 9223372036854775807) :
    Calls Tryd.prog 3 #[.agg #[.int .i64 h0, .int .i64 a0, .int .i64 n0, .string (bs x0), .int .i64 h1, .int .i64 a1, .int .i64 n1, .string (bs x1), .int .i64 h2, .int .i64 a2, .int .i64 n2, .string (bs x2)]] w fun e w' => e = .returned (.bool true) ∧ Below w.heap.size w w' := by
  have hu : Below w.heap.size w (w.alloc (.cells #[.int .i64 h0, .int .i64 a0, .int .i64 n0, .string (bs x0), .int .i64 h1, .int .i64 a1, .int .i64 n1, .string (bs x1), .int .i64 h2, .int .i64 a2, .int .i64 n2, .string (bs x2)] 24)) := by go_grown
  have q0 : (w.alloc (.cells #[.int .i64 h0, .int .i64 a0, .int .i64 n0, .string (bs x0), .int .i64 h1, .int .i64 a1, .int .i64 n1, .string (bs x1), .int .i64 h2, .int .i64 a2, .int .i64 n2, .string (bs x2)] 24)).cell? ⟨w.heap.size, 0, none⟩ = some (.int .i64 h0) := by simp [go_sem]
  have q1 : (w.alloc (.cells #[.int .i64 h0, .int .i64 a0, .int .i64 n0, .string (bs x0), .int .i64 h1, .int .i64 a1, .int .i64 n1, .string (bs x1), .int .i64 h2, .int .i64 a2, .int .i64 n2, .string (bs x2)] 24)).cell? ⟨w.heap.size, 1, none⟩ = some (.int .i64 a0) := by simp [go_sem]
  have q2 : (w.alloc (.cells #[.int .i64 h0, .int .i64 a0, .int .i64 n0, .string (bs x0), .int .i64 h1, .int .i64 a1, .int .i64 n1, .string (bs x1), .int .i64 h2, .int .i64 a2, .int .i64 n2, .string (bs x2)] 24)).cell? ⟨w.heap.size, 2, none⟩ = some (.int .i64 n0) := by simp [go_sem]
  have q3 : (w.alloc (.cells #[.int .i64 h0, .int .i64 a0, .int .i64 n0, .string (bs x0), .int .i64 h1, .int .i64 a1, .int .i64 n1, .string (bs x1), .int .i64 h2, .int .i64 a2, .int .i64 n2, .string (bs x2)] 24)).cell? ⟨w.heap.size, 3, none⟩ = some (.string (bs x0)) := by simp [go_sem]
  have q4 : (w.alloc (.cells #[.int .i64 h0, .int .i64 a0, .int .i64 n0, .string (bs x0), .int .i64 h1, .int .i64 a1, .int .i64 n1, .string (bs x1), .int .i64 h2, .int .i64 a2, .int .i64 n2, .string (bs x2)] 24)).cell? ⟨w.heap.size, 4, none⟩ = some (.int .i64 h1) := by simp [go_sem]
  have q5 : (w.alloc (.cells #[.int .i64 h0, .int .i64 a0, .int .i64 n0, .string (bs x0), .int .i64 h1, .int .i64 a1, .int .i64 n1, .string (bs x1), .int .i64 h2, .int .i64 a2, .int .i64 n2, .string (bs x2)] 24)).cell? ⟨w.heap.size, 5, none⟩ = some (.int .i64 a1) := by simp [go_sem]
  have q6 : (w.alloc (.cells #[.int .i64 h0, .int .i64 a0, .int .i64 n0, .string (bs x0), .int .i64 h1, .int .i64 a1, .int .i64 n1, .string (bs x1), .int .i64 h2, .int .i64 a2, .int .i64 n2, .string (bs x2)] 24)).cell? ⟨w.heap.size, 6, none⟩ = some (.int .i64 n1) := by simp [go_sem]
  have q7 : (w.alloc (.cells #[.int .i64 h0, .int .i64 a0, .int .i64 n0, .string (bs x0), .int .i64 h1, .int .i64 a1, .int .i64 n1, .string (bs x1), .int .i64 h2, .int .i64 a2, .int .i64 n2, .string (bs x2)] 24)).cell? ⟨w.heap.size, 7, none⟩ = some (.string (bs x1)) := by simp [go_sem]
  have q8 : (w.alloc (.cells #[.int .i64 h0, .int .i64 a0, .int .i64 n0, .string (bs x0), .int .i64 h1, .int .i64 a1, .int .i64 n1, .string (bs x1), .int .i64 h2, .int .i64 a2, .int .i64 n2, .string (bs x2)] 24)).cell? ⟨w.heap.size, 8, none⟩ = some (.int .i64 h2) := by simp [go_sem]
  have q9 : (w.alloc (.cells #[.int .i64 h0, .int .i64 a0, .int .i64 n0, .string (bs x0), .int .i64 h1, .int .i64 a1, .int .i64 n1, .string (bs x1), .int .i64 h2, .int .i64 a2, .int .i64 n2, .string (bs x2)] 24)).cell? ⟨w.heap.size, 9, none⟩ = some (.int .i64 a2) := by simp [go_sem]
  have q10 : (w.alloc (.cells #[.int .i64 h0, .int .i64 a0, .int .i64 n0, .string (bs x0), .int .i64 h1, .int .i64 a1, .int .i64 n1, .string (bs x1), .int .i64 h2, .int .i64 a2, .int .i64 n2, .string (bs x2)] 24)).cell? ⟨w.heap.size, 10, none⟩ = some (.int .i64 n2) := by simp [go_sem]
  have q11 : (w.alloc (.cells #[.int .i64 h0, .int .i64 a0, .int .i64 n0, .string (bs x0), .int .i64 h1, .int .i64 a1, .int .i64 n1, .string (bs x1), .int .i64 h2, .int .i64 a2, .int .i64 n2, .string (bs x2)] 24)).cell? ⟨w.heap.size, 11, none⟩ = some (.string (bs x2)) := by simp [go_sem]
  have hzq : w.heap.size < (w.alloc (.cells #[.int .i64 h0, .int .i64 a0, .int .i64 n0, .string (bs x0), .int .i64 h1, .int .i64 a1, .int .i64 n1, .string (bs x1), .int .i64 h2, .int .i64 a2, .int .i64 n2, .string (bs x2)] 24)).heap.size := by rw [World.size_alloc]; omega
  go_enter Tryd.func3, Tryd.ntmps3
  go_wp2_with fail
  generalize (w.alloc (.cells #[.int .i64 h0, .int .i64 a0, .int .i64 n0, .string (bs x0), .int .i64 h1, .int .i64 a1, .int .i64 n1, .string (bs x1), .int .i64 h2, .int .i64 a2, .int .i64 n2, .string (bs x2)] 24)) = w0 at *
  refine (awake_yes w0 (hT.below hu)).mono ?_
  rintro e w1 ⟨rfl, hb1⟩
  replace q0 := (hb1.cell (p := ⟨w.heap.size, 0, none⟩) hzq).trans q0
  replace q1 := (hb1.cell (p := ⟨w.heap.size, 1, none⟩) hzq).trans q1
  replace q2 := (hb1.cell (p := ⟨w.heap.size, 2, none⟩) hzq).trans q2
  replace q3 := (hb1.cell (p := ⟨w.heap.size, 3, none⟩) hzq).trans q3
  replace q4 := (hb1.cell (p := ⟨w.heap.size, 4, none⟩) hzq).trans q4
  replace q5 := (hb1.cell (p := ⟨w.heap.size, 5, none⟩) hzq).trans q5
  replace q6 := (hb1.cell (p := ⟨w.heap.size, 6, none⟩) hzq).trans q6
  replace q7 := (hb1.cell (p := ⟨w.heap.size, 7, none⟩) hzq).trans q7
  replace q8 := (hb1.cell (p := ⟨w.heap.size, 8, none⟩) hzq).trans q8
  replace q9 := (hb1.cell (p := ⟨w.heap.size, 9, none⟩) hzq).trans q9
  replace q10 := (hb1.cell (p := ⟨w.heap.size, 10, none⟩) hzq).trans q10
  replace q11 := (hb1.cell (p := ⟨w.heap.size, 11, none⟩) hzq).trans q11
  have hlw : w.heap.size < w1.heap.size := by have := hb1.size; omega
  have hT1 : Frac.OfTen w1 := (hT.below hu).below hb1
  have hBw := hu.trans (hb1.mono hu.size)
  clear hb1 hu hzq hT
  go_wp2_with fail
  refine (refTable_any w1).mono ?_
  rintro e w2 ⟨sa, sp, S0, rfl, hTab, hb2⟩
  obtain ⟨oa, ca, rfl⟩ := SliceAt.slice hTab.atoms.1
  obtain ⟨op, cp, rfl⟩ := SliceAt.slice hTab.prefs
  have htb : w1.heap.size ≤ w2.heap.size := hb2.size
  have hu3 : Below w2.heap.size w2 (w2.alloc (.cells #[.slice oa tableRs.length ca, .slice op tablePs.length cp] 29)) := by go_grown
  have hI0 : ChI w w2.heap.size 0 oa op ca cp tableRs S0 tablePs (w2.alloc (.cells #[.slice oa tableRs.length ca, .slice op tablePs.length cp] 29)) := ⟨by simp [go_sem], by simp [go_sem], fun j => by simp [go_sem], hTab.atoms.go hu3, SliceAt.go hTab.prefs hu3, by rw [len_T]; omega, by rw [len_P]; omega, table_ok.1, table_ok.2⟩
  have hB0 : Below w1.heap.size w1 (w2.alloc (.cells #[.slice oa tableRs.length ca, .slice op tablePs.length cp] 29)) := hb2.trans (hu3.mono htb)
  go_upto_region 4 with fail
  generalize w2.alloc (.cells #[.slice oa tableRs.length ca, .slice op tablePs.length cp] 29) = w3 at *
  generalize w2.heap.size = tb at *
  clear hTab hb2 hu3
  go_loopw [5] (fun x wr => ∃ k : Nat, x = .int .i64 k ∧ k ≤ 3 ∧ ∃ (o1 o2 : Option Addr) (c1 c2 : Nat) (rows : List Row) (S : Nat → Value) (ps : List Pre), ChI w tb k o1 o2 c1 c2 rows S ps wr ∧ Below w1.heap.size w1 wr) (fun x _ => (3 - intOf x).toNat)
  case atStart => exact ⟨0, rfl, by omega, oa, op, ca, cp, tableRs, S0, tablePs, hI0, hB0⟩
  case round =>
    clear hI0 hB0
    obtain ⟨k, rfl, hk, o1, o2, c1, c2, rows, S, ps, hI, hBQ⟩ := hrel
    by_cases hk3 : k < 3
    · obtain rfl | rfl | rfl : k = 0 ∨ k = 1 ∨ k = 2 := by omega
      · have t0 := hI.t0
        have t1 := hI.t1
        have z0 := (hBQ.cell (p := ⟨w.heap.size, 0, none⟩) hlw).trans q0
        have z1 := (hBQ.cell (p := ⟨w.heap.size, 1, none⟩) hlw).trans q1
        have z2 := (hBQ.cell (p := ⟨w.heap.size, 2, none⟩) hlw).trans q2
        have z3 := (hBQ.cell (p := ⟨w.heap.size, 3, none⟩) hlw).trans q3
        have hsp := fun Y (hY : Below wr.heap.size wr Y) => spoilt_any h0 a0 n0 x0 (.slice o1 rows.length c1) (.slice o2 ps.length c2) rows S ps (48 + 120 * (0 + 1)) (9 + 0) Y (hI.atoms.go hY) (SliceAt.go hI.prefs hY) (by have := hI.len; omega) hI.plen (by have := hI.len; omega) (by omega) (by omega) hI.ok hI.pf bn0 bx0
        have HSP := Lib.hid hsp
        clear hsp
        go_upto_region 6 with fail
        go_still_tail 4, (by kernel_rfl)
        change wpList _ _ _ _ _ wr.drew
        go_wp2_with fail
        refine (HSP.out _ (Below.refl _ _).drew).mono ?_
        rintro e V2 ⟨sa, sp, rows', S', ps', rfl, hA2, hP2, hl2, hpl2, hok2, hpf2, hb2⟩
        obtain ⟨o3, c3, rfl⟩ := SliceAt.slice hA2.1
        obtain ⟨o4, c4, rfl⟩ := SliceAt.slice hP2
        have hbr : Below wr.heap.size wr V2 := below_join (Below.refl _ _).drew hb2
        have hI2 := hI.go hbr
        have y0 := hI2.t0
        have y1 := hI2.t1
        have yf0 := hI2.tf 0
        have yf1 := hI2.tf 1
        clear HSP t0 t1 z0 z1 z2 z3
        go_upto_region 7 with fail
        have hI3 := hI2.put hA2 hP2 hl2 hpl2 hok2 hpf2
        have hB3 : Below w1.heap.size w1 ((V2.setCell ⟨tb, 0, none⟩ (.slice o3 rows'.length c3)).setCell ⟨tb, 1, none⟩ (.slice o4 ps'.length c4)) := ((hBQ.trans (hbr.mono hBQ.size)).setCell (p := ⟨tb, 0, none⟩) htb _).setCell (p := ⟨tb, 1, none⟩) htb _
        clear y0 y1 yf0 yf1 hI hI2 hbr hb2 hA2 hP2
        generalize ((V2.setCell ⟨tb, 0, none⟩ (.slice o3 rows'.length c3)).setCell ⟨tb, 1, none⟩ (.slice o4 ps'.length c4)) = V3 at *
        have hT3 := hT1.below hB3
        have hck := fun Y (hY : Below V3.heap.size V3 Y) => check_any (.slice o3 rows'.length c3) (.slice o4 ps'.length c4) rows' S' ps' Y (fits_rows hl2 hok2) (fits_pre hpf2 hpl2) (hI3.atoms.go hY) (SliceAt.go hI3.prefs hY) (hT3.below hY)
        have hrk := fun Y (hY : Below V3.heap.size V3 Y) => rcheck_any (.slice o3 rows'.length c3) (.slice o4 ps'.length c4) rows' S' ps' _ Y (hI3.atoms.go hY) (SliceAt.go hI3.prefs hY) (by omega) hpl2 hok2 hpf2
        rw [check_same] at hck
        generalize checkR rows' ps' = C at hck hrk
        have HCK := Lib.hid hck
        have HRK := Lib.hid hrk
        clear hck hrk
        have t0 := hI3.t0
        have t1 := hI3.t1
        go_region_with (first
          | (go_at_call 8; refine (HCK.out _ (Below.refl _ _).drew).mono ?_; rintro e V4 ⟨rfl, hb4⟩; have hB4 := below_join (w := V3) (Below.refl _ _).drew hb4; have t0' := (hB4.cell (p := ⟨tb, 0, none⟩) (cell_lt t0)).trans t0; have t1' := (hB4.cell (p := ⟨tb, 1, none⟩) (cell_lt t0)).trans t1)
          | (go_at_call 9; refine (HRK.out _ hB4).mono ?_; rintro e V5 ⟨rfl, hb5⟩))
        all_goals
          have hB5 := below_join hB4 hb5
          clear t0 t1 t0' t1' HCK HRK
          go_wp2
          go_roundw
          case rel => exact ⟨0 + 1, rfl, by omega, o3, o4, c3, c4, rows', S', ps', hI3.go hB5, hB3.trans (hB5.mono hB3.size)⟩
          case measure => simp only [intOf]; omega
      · have t0 := hI.t0
        have t1 := hI.t1
        have z0 := (hBQ.cell (p := ⟨w.heap.size, 4, none⟩) hlw).trans q4
        have z1 := (hBQ.cell (p := ⟨w.heap.size, 5, none⟩) hlw).trans q5
        have z2 := (hBQ.cell (p := ⟨w.heap.size, 6, none⟩) hlw).trans q6
        have z3 := (hBQ.cell (p := ⟨w.heap.size, 7, none⟩) hlw).trans q7
        have hsp := fun Y (hY : Below wr.heap.size wr Y) => spoilt_any h1 a1 n1 x1 (.slice o1 rows.length c1) (.slice o2 ps.length c2) rows S ps (48 + 120 * (1 + 1)) (9 + 1) Y (hI.atoms.go hY) (SliceAt.go hI.prefs hY) (by have := hI.len; omega) hI.plen (by have := hI.len; omega) (by omega) (by omega) hI.ok hI.pf bn1 bx1
        have HSP := Lib.hid hsp
        clear hsp
        go_upto_region 6 with fail
        go_still_tail 4, (by kernel_rfl)
        change wpList _ _ _ _ _ wr.drew
        go_wp2_with fail
        refine (HSP.out _ (Below.refl _ _).drew).mono ?_
        rintro e V2 ⟨sa, sp, rows', S', ps', rfl, hA2, hP2, hl2, hpl2, hok2, hpf2, hb2⟩
        obtain ⟨o3, c3, rfl⟩ := SliceAt.slice hA2.1
        obtain ⟨o4, c4, rfl⟩ := SliceAt.slice hP2
        have hbr : Below wr.heap.size wr V2 := below_join (Below.refl _ _).drew hb2
        have hI2 := hI.go hbr
        have y0 := hI2.t0
        have y1 := hI2.t1
        have yf0 := hI2.tf 0
        have yf1 := hI2.tf 1
        clear HSP t0 t1 z0 z1 z2 z3
        go_upto_region 7 with fail
        have hI3 := hI2.put hA2 hP2 hl2 hpl2 hok2 hpf2
        have hB3 : Below w1.heap.size w1 ((V2.setCell ⟨tb, 0, none⟩ (.slice o3 rows'.length c3)).setCell ⟨tb, 1, none⟩ (.slice o4 ps'.length c4)) := ((hBQ.trans (hbr.mono hBQ.size)).setCell (p := ⟨tb, 0, none⟩) htb _).setCell (p := ⟨tb, 1, none⟩) htb _
        clear y0 y1 yf0 yf1 hI hI2 hbr hb2 hA2 hP2
        generalize ((V2.setCell ⟨tb, 0, none⟩ (.slice o3 rows'.length c3)).setCell ⟨tb, 1, none⟩ (.slice o4 ps'.length c4)) = V3 at *
        have hT3 := hT1.below hB3
        have hck := fun Y (hY : Below V3.heap.size V3 Y) => check_any (.slice o3 rows'.length c3) (.slice o4 ps'.length c4) rows' S' ps' Y (fits_rows hl2 hok2) (fits_pre hpf2 hpl2) (hI3.atoms.go hY) (SliceAt.go hI3.prefs hY) (hT3.below hY)
        have hrk := fun Y (hY : Below V3.heap.size V3 Y) => rcheck_any (.slice o3 rows'.length c3) (.slice o4 ps'.length c4) rows' S' ps' _ Y (hI3.atoms.go hY) (SliceAt.go hI3.prefs hY) (by omega) hpl2 hok2 hpf2
        rw [check_same] at hck
        generalize checkR rows' ps' = C at hck hrk
        have HCK := Lib.hid hck
        have HRK := Lib.hid hrk
        clear hck hrk
        have t0 := hI3.t0
        have t1 := hI3.t1
        go_region_with (first
          | (go_at_call 8; refine (HCK.out _ (Below.refl _ _).drew).mono ?_; rintro e V4 ⟨rfl, hb4⟩; have hB4 := below_join (w := V3) (Below.refl _ _).drew hb4; have t0' := (hB4.cell (p := ⟨tb, 0, none⟩) (cell_lt t0)).trans t0; have t1' := (hB4.cell (p := ⟨tb, 1, none⟩) (cell_lt t0)).trans t1)
          | (go_at_call 9; refine (HRK.out _ hB4).mono ?_; rintro e V5 ⟨rfl, hb5⟩))
        all_goals
          have hB5 := below_join hB4 hb5
          clear t0 t1 t0' t1' HCK HRK
          go_wp2
          go_roundw
          case rel => exact ⟨1 + 1, rfl, by omega, o3, o4, c3, c4, rows', S', ps', hI3.go hB5, hB3.trans (hB5.mono hB3.size)⟩
          case measure => simp only [intOf]; omega
      · have t0 := hI.t0
        have t1 := hI.t1
        have z0 := (hBQ.cell (p := ⟨w.heap.size, 8, none⟩) hlw).trans q8
        have z1 := (hBQ.cell (p := ⟨w.heap.size, 9, none⟩) hlw).trans q9
        have z2 := (hBQ.cell (p := ⟨w.heap.size, 10, none⟩) hlw).trans q10
        have z3 := (hBQ.cell (p := ⟨w.heap.size, 11, none⟩) hlw).trans q11
        have hsp := fun Y (hY : Below wr.heap.size wr Y) => spoilt_any h2 a2 n2 x2 (.slice o1 rows.length c1) (.slice o2 ps.length c2) rows S ps (48 + 120 * (2 + 1)) (9 + 2) Y (hI.atoms.go hY) (SliceAt.go hI.prefs hY) (by have := hI.len; omega) hI.plen (by have := hI.len; omega) (by omega) (by omega) hI.ok hI.pf bn2 bx2
        have HSP := Lib.hid hsp
        clear hsp
        go_upto_region 6 with fail
        go_still_tail 4, (by kernel_rfl)
        change wpList _ _ _ _ _ wr.drew
        go_wp2_with fail
        refine (HSP.out _ (Below.refl _ _).drew).mono ?_
        rintro e V2 ⟨sa, sp, rows', S', ps', rfl, hA2, hP2, hl2, hpl2, hok2, hpf2, hb2⟩
        obtain ⟨o3, c3, rfl⟩ := SliceAt.slice hA2.1
        obtain ⟨o4, c4, rfl⟩ := SliceAt.slice hP2
        have hbr : Below wr.heap.size wr V2 := below_join (Below.refl _ _).drew hb2
        have hI2 := hI.go hbr
        have y0 := hI2.t0
        have y1 := hI2.t1
        have yf0 := hI2.tf 0
        have yf1 := hI2.tf 1
        clear HSP t0 t1 z0 z1 z2 z3
        go_upto_region 7 with fail
        have hI3 := hI2.put hA2 hP2 hl2 hpl2 hok2 hpf2
        have hB3 : Below w1.heap.size w1 ((V2.setCell ⟨tb, 0, none⟩ (.slice o3 rows'.length c3)).setCell ⟨tb, 1, none⟩ (.slice o4 ps'.length c4)) := ((hBQ.trans (hbr.mono hBQ.size)).setCell (p := ⟨tb, 0, none⟩) htb _).setCell (p := ⟨tb, 1, none⟩) htb _
        clear y0 y1 yf0 yf1 hI hI2 hbr hb2 hA2 hP2
        generalize ((V2.setCell ⟨tb, 0, none⟩ (.slice o3 rows'.length c3)).setCell ⟨tb, 1, none⟩ (.slice o4 ps'.length c4)) = V3 at *
        have hT3 := hT1.below hB3
        have hck := fun Y (hY : Below V3.heap.size V3 Y) => check_any (.slice o3 rows'.length c3) (.slice o4 ps'.length c4) rows' S' ps' Y (fits_rows hl2 hok2) (fits_pre hpf2 hpl2) (hI3.atoms.go hY) (SliceAt.go hI3.prefs hY) (hT3.below hY)
        have hrk := fun Y (hY : Below V3.heap.size V3 Y) => rcheck_any (.slice o3 rows'.length c3) (.slice o4 ps'.length c4) rows' S' ps' _ Y (hI3.atoms.go hY) (SliceAt.go hI3.prefs hY) (by omega) hpl2 hok2 hpf2
        rw [check_same] at hck
        generalize checkR rows' ps' = C at hck hrk
        have HCK := Lib.hid hck
        have HRK := Lib.hid hrk
        clear hck hrk
        have t0 := hI3.t0
        have t1 := hI3.t1
        go_region_with (first
          | (go_at_call 8; refine (HCK.out _ (Below.refl _ _).drew).mono ?_; rintro e V4 ⟨rfl, hb4⟩; have hB4 := below_join (w := V3) (Below.refl _ _).drew hb4; have t0' := (hB4.cell (p := ⟨tb, 0, none⟩) (cell_lt t0)).trans t0; have t1' := (hB4.cell (p := ⟨tb, 1, none⟩) (cell_lt t0)).trans t1)
          | (go_at_call 9; refine (HRK.out _ hB4).mono ?_; rintro e V5 ⟨rfl, hb5⟩))
        all_goals
          have hB5 := below_join hB4 hb5
          clear t0 t1 t0' t1' HCK HRK
          go_wp2
          go_roundw
          case rel => exact ⟨2 + 1, rfl, by omega, o3, o4, c3, c4, rows', S', ps', hI3.go hB5, hB3.trans (hB5.mono hB3.size)⟩
          case measure => simp only [intOf]; omega
    · have hke : k = 3 := by omega
      have hki : ¬ (k : Int) < 3 := by omega
      clear hke
      go_wp2_with fail
      refine (check_none wr (hT1.below hBQ)).mono ?_
      rintro e V2 ⟨rfl, hb2⟩
      have hBe := hBw.trans ((hBQ.trans (hb2.mono hBQ.size)).mono hBw.size)
      go_wp2
      go_ret
      exact ⟨rfl, hBe⟩

theorem checks_law (h0 a0 n0 : Int) (y0 : ByteArray) (h1 a1 n1 : Int) (y1 : ByteArray) (h2 a2 n2 : Int) (y2 : ByteArray) (w : World) (hT : Frac.OfTen w) (_ : -9223372036854775808 ≤ h0 ∧ h0 ≤ 9223372036854775807) (_ : -9223372036854775808 ≤ a0 ∧ a0 ≤ 9223372036854775807) (bn0 : -9223372036854775808 ≤ n0 ∧ n0 ≤ 9223372036854775807) (by0 : y0.size ≤ maxLen) (_ : -9223372036854775808 ≤ h1 ∧ h1 ≤ 9223372036854775807) (_ : -9223372036854775808 ≤ a1 ∧ a1 ≤ 9223372036854775807) (bn1 : -9223372036854775808 ≤ n1 ∧ n1 ≤ 9223372036854775807) (by1 : y1.size ≤ maxLen) (_ : -9223372036854775808 ≤ h2 ∧ h2 ≤ 9223372036854775807) (_ : -9223372036854775808 ≤ a2 ∧ a2 ≤ 9223372036854775807) (bn2 : -9223372036854775808 ≤ n2 ∧ n2 ≤ 9223372036854775807) (by2 : y2.size ≤ maxLen) :
    Calls Tryd.prog 3 #[.agg #[.int .i64 h0, .int .i64 a0, .int .i64 n0, .string y0, .int .i64 h1, .int .i64 a1, .int .i64 n1, .string y1, .int .i64 h2, .int .i64 a2, .int .i64 n2, .string y2]] w fun e w' => e = .returned (.bool true) ∧ Below w.heap.size w w' := by
  have hm : maxLen ≤ 9223372036854775807 := by decide
  have := checks_walk h0 a0 n0 y0.data.toList h1 a1 n1 y1.data.toList h2 a2 n2 y2.data.toList w hT bn0 (by rw [← bs_size, bs_of]; omega) bn1 (by rw [← bs_size, bs_of]; omega) bn2 (by rw [← bs_size, bs_of]; omega)
  rw [bs_of, bs_of, bs_of] at this
  exact this

end Go.Proofs.YtpmibcdmaaagjaaDoor.Atoms

/-
  What a symbol is, as plain functions. No program in this text. Contracts of package symbol: what a notation has of the table, its codes, whose code it is. Contracts of package symbol: whose a code is, what a symbol is.
-/
import Derived.Test.YthofogokpolhdaaGreatDoorAS
import Derived.Test.YthofogokpolhdaaGreatDoorA1Z
import Derived.Lib.Strings
import Derived.Test.YthofogokpolhdaaGreatDoorAFX
import Derived.Test.YthofogokpolhdaaGreatDoorY2
import Derived.BigQuiet
import Derived.Test.YthofogokpolhdaaGreatDoorUBX
namespace Go.Proofs.YthofogokpolhdaaGreatDoor.Syms
open Go.Proofs.YthofogokpolhdaaGreatDoor.Atoms (Row Pre C5 tableRs tablePs)
set_option linter.unusedVariables false
set_option linter.unusedSimpArgs false

/-- The code of an atom, and of a prefix, in the notation k + 1. -/
def codeA (rows : List Row) (k i : Nat) : List UInt8 := (rows.getD i default).c5.get k
def codeP (ps : List Pre) (k i : Nat) : List UInt8 := (ps.getD i default).c5.get k
/-- The place of the atom with that code, from i on, of the next m ones; -1: none. -/
def calledF (rows : List Row) (k : Nat) (c : List UInt8) : Nat → Nat → Int
  | _, 0 => -1
  | i, m + 1 => if codeA rows k i = c then (i : Int) else calledF rows k c (i + 1) m
def calledZ (rows : List Row) (k : Nat) (c : List UInt8) : Int := if c = [] then -1 else calledF rows k c 0 rows.length
theorem called_in (rows : List Row) (k : Nat) (c : List UInt8) : ∀ (m i : Nat), calledF rows k c i m = -1 ∨ ∃ j : Nat, calledF rows k c i m = (j : Int) ∧ i ≤ j ∧ j < i + m
  | 0, i => .inl rfl
  | m + 1, i => by
    unfold calledF
    split
    · exact .inr ⟨i, rfl, Nat.le_refl _, by omega⟩
    · rcases called_in rows k c m (i + 1) with h | ⟨j, h1, h2, h3⟩
      · exact .inl h
      · exact .inr ⟨j, h1, by omega, by omega⟩
theorem called_cases (rows : List Row) (k : Nat) (c : List UInt8) : calledZ rows k c = -1 ∨ ∃ j : Nat, calledZ rows k c = (j : Int) ∧ j < rows.length := by
  unfold calledZ
  split
  · exact .inl rfl
  · rcases called_in rows k c rows.length 0 with h | ⟨j, h1, h2, h3⟩
    · exact .inl h
    · exact .inr ⟨j, h1, by omega⟩
/-- Is there an atom of that code, that prefixes may stand ahead of? -/
def metricZ (rows : List Row) (k : Nat) (c : List UInt8) : Bool := decide (calledZ rows k c ≠ -1) && (rows.getD (calledZ rows k c).toNat default).m
/-- The first prefix, of the next m from i on, with which what is left is one. -/
def prefF (rows : List Row) (ps : List Pre) (k : Nat) (s : List UInt8) : Nat → Nat → Int × Int
  | _, 0 => (-1, -1)
  | i, m + 1 => if Lib.hasPrefix s (codeP ps k i) = true ∧ metricZ rows k (s.drop (codeP ps k i).length) = true then ((i : Int), calledZ rows k (s.drop (codeP ps k i).length)) else prefF rows ps k s (i + 1) m
/-- What a symbol is: its prefix, its atom; -1, -1: none. -/
def findZ (rows : List Row) (ps : List Pre) (k : Nat) (s : List UInt8) : Int × Int :=
  if calledZ rows k s ≠ -1 then (-1, calledZ rows k s) else prefF rows ps k s 0 ps.length

end Go.Proofs.YthofogokpolhdaaGreatDoor.Syms

namespace Go.Proofs.YthofogokpolhdaaGreatDoor.Syms
open Go.RowKit Go.Shelf
open Go.Proofs.YthofogokpolhdaaGreatDoor.Atoms (Row Pre C5 tableRs tablePs TableAt table_any cellA cellP)
open Go.Proofs.YthofogokpolhdaaGreatDoor.Style (bs bs_size)
set_option linter.unusedVariables false
set_option linter.unusedSimpArgs false

theorem drewN_b {W : World} (m : Nat) : Below W.heap.size W (W.drewN m) := ⟨rfl, rfl, rfl, Nat.le_refl _, fun _ _ => rfl⟩
/-- What a notation has of the table, as it lies. -/
structure NI (W : World) (ba bp ca cp : Nat) (rows : List Row) (ps : List Pre) : Prop where
  a : ∀ i, i < rows.length → ∀ j, j < 5 → W.cell? ⟨ba, i * 12 + j, none⟩ = some (.string (bs ((rows.getD i default).c5.get j)))
  m : ∀ i, i < rows.length → W.cell? ⟨ba, i * 12 + 5, none⟩ = some (.bool (rows.getD i default).m)
  p : ∀ i, i < ps.length → ∀ j, j < 5 → W.cell? ⟨bp, i * 6 + j, none⟩ = some (.string (bs ((ps.getD i default).c5.get j)))
  la : rows.length ≤ ca
  lp : ps.length ≤ cp
theorem NI.go {W W' : World} {ba bp ca cp : Nat} {rows : List Row} {ps : List Pre} (h : NI W ba bp ca cp rows ps) (hb : Below W.heap.size W W') : NI W' ba bp ca cp rows ps :=
  ⟨fun i hi j hj => (hb.cell (p := ⟨ba, i * 12 + j, none⟩) (World.block_lt_of_cell? _ _ (h.a i hi j hj))).trans (h.a i hi j hj), fun i hi => (hb.cell (p := ⟨ba, i * 12 + 5, none⟩) (World.block_lt_of_cell? _ _ (h.m i hi))).trans (h.m i hi), fun i hi j hj => (hb.cell (p := ⟨bp, i * 6 + j, none⟩) (World.block_lt_of_cell? _ _ (h.p i hi j hj))).trans (h.p i hi j hj), h.la, h.lp⟩
def ntV (ba bp ca cp : Nat) (rows : List Row) (ps : List Pre) (n : Int) : Value := .agg #[.slice (some ⟨ba, 0, none⟩) rows.length ca, .slice (some ⟨bp, 0, none⟩) ps.length cp, .int .i64 n]

theorem NI.set {W : World} {ba bp ca cp : Nat} {rows : List Row} {ps : List Pre} (h : NI W ba bp ca cp rows ps) {b : Nat} (h1 : ba ≠ b) (h2 : bp ≠ b) (k : Nat) (u : Value) : NI (W.setCell ⟨b, k, none⟩ u) ba bp ca cp rows ps :=
  ⟨fun i hi j hj => by rw [World.cell?_setCell_other _ _ _ _ (by intro hh; injection hh with e1 e2; omega)]; exact h.a i hi j hj, fun i hi => by rw [World.cell?_setCell_other _ _ _ _ (by intro hh; injection hh with e1 e2; omega)]; exact h.m i hi, fun i hi j hj => by rw [World.cell?_setCell_other _ _ _ _ (by intro hh; injection hh with e1 e2; omega)]; exact h.p i hi j hj, h.la, h.lp⟩
theorem cell5 (r : Row) (v : Value) (j : Nat) (hj : j < 5) : r.cell v j = .string (bs (r.c5.get j)) := by
  match j, hj with
  | 0, _ => rfl
  | 1, _ => rfl
  | 2, _ => rfl
  | 3, _ => rfl
  | 4, _ => rfl
theorem cell5p (r : Pre) (j : Nat) (hj : j < 5) : r.cell j = .string (bs (r.c5.get j)) := by
  match j, hj with
  | 0, _ => rfl
  | 1, _ => rfl
  | 2, _ => rfl
  | 3, _ => rfl
  | 4, _ => rfl
theorem len_R : tableRs.length = 48 := by decide +kernel
theorem len_P : tablePs.length = 20 := by decide +kernel
/-- What the table's contract says, as a notation has it. -/
theorem ni_of {B : Nat} {W : World} {sa sp : Value} {S : Nat → Value} (h : TableAt B W sa sp tableRs S tablePs) : ∃ ba bp ca cp, sa = .slice (some ⟨ba, 0, none⟩) tableRs.length ca ∧ sp = .slice (some ⟨bp, 0, none⟩) tablePs.length cp ∧ NI W ba bp ca cp tableRs tablePs := by
  rcases h.atoms.1 with ⟨h0, _⟩ | ⟨ba, ca, hs, hc, hm, hg⟩
  · rw [len_R] at h0; cases h0
  · rcases (show Atoms.SliceAt W sp 6 tablePs.length (cellP tablePs) from h.prefs) with ⟨h0, _⟩ | ⟨bp, cp, hs2, hc2, hm2, hg2⟩
    · rw [len_P] at h0; cases h0
    · refine ⟨ba, bp, ca, cp, hs, hs2, ⟨fun i hi j hj => ?_, fun i hi => ?_, fun i hi j hj => ?_, hc, hc2⟩⟩
      · rw [← cell5 _ (S i) j hj]; exact hg.1 i hi j (by omega)
      · exact hg.1 i hi 5 (by omega)
      · rw [← cell5p _ j hj]; exact hg2.1 i hi j (by omega)

set_option maxRecDepth 100000 in
set_option maxHeartbeats 1000000 in
theorem of_in (n : Int) (w : World) (hn : 1 ≤ n ∧ n ≤ 5) :
    Calls Tryz.prog 121 #[.int .i64 n] w fun e w' => ∃ ba bp ca cp, e = .returned (ntV ba bp ca cp tableRs tablePs n) ∧ NI w' ba bp ca cp tableRs tablePs ∧ Below w.heap.size w w' := by
  have hT := fun W => table_any W
  obtain ⟨h1, h5⟩ := hn
  go_enter Tryz.func121, Tryz.ntmps121
  go_wp2_with fail
  refine (hT _).mono ?_
  rintro e W2 ⟨sa, sp, S, rfl, hTab, hb⟩
  obtain ⟨ba, bp, ca, cp, rfl, rfl, hNI⟩ := ni_of hTab
  have ha1 := hTab.aa _ _ _ rfl
  have hp1 := hTab.ap _ _ _ rfl
  dsimp only at ha1 hp1
  have hu : Below w.heap.size w (w.alloc (.cells #[.slice none 0 0, .slice none 0 0, .int .i64 0] 183)) := (Below.refl _ _).alloc (Nat.le_refl _) _
  have hlt : w.heap.size < (w.alloc (.cells #[.slice none 0 0, .slice none 0 0, .int .i64 0] 183)).heap.size := by rw [World.size_alloc]; omega
  have y0 : W2.cell? ⟨w.heap.size, 0, none⟩ = some (.slice none 0 0) := (hb.cell (p := ⟨w.heap.size, 0, none⟩) hlt).trans (by simp [go_sem])
  have y1 : W2.cell? ⟨w.heap.size, 1, none⟩ = some (.slice none 0 0) := (hb.cell (p := ⟨w.heap.size, 1, none⟩) hlt).trans (by simp [go_sem])
  have y2 : W2.cell? ⟨w.heap.size, 2, none⟩ = some (.int .i64 0) := (hb.cell (p := ⟨w.heap.size, 2, none⟩) hlt).trans (by simp [go_sem])
  have f0 : ∀ j, W2.frozen? ⟨w.heap.size, j, none⟩ = false := fun j => (hb.frozen (p := ⟨w.heap.size, j, none⟩) hlt).trans (by simp [go_sem])
  have g0 := f0 0
  have g1 := f0 1
  have g2 := f0 2
  have hEnd : NI (((W2.setCell ⟨w.heap.size, 0, none⟩ (.slice (some ⟨ba, 0, none⟩) tableRs.length ca)).setCell ⟨w.heap.size, 1, none⟩ (.slice (some ⟨bp, 0, none⟩) tablePs.length cp)).setCell ⟨w.heap.size, 2, none⟩ (.int .i64 n)) ba bp ca cp tableRs tablePs ∧ Below w.heap.size w (((W2.setCell ⟨w.heap.size, 0, none⟩ (.slice (some ⟨ba, 0, none⟩) tableRs.length ca)).setCell ⟨w.heap.size, 1, none⟩ (.slice (some ⟨bp, 0, none⟩) tablePs.length cp)).setCell ⟨w.heap.size, 2, none⟩ (.int .i64 n)) :=
    ⟨((hNI.set (by omega) (by omega) _ _).set (by omega) (by omega) _ _).set (by omega) (by omega) _ _, (((hu.trans (hb.mono hu.size)).setCell (p := ⟨w.heap.size, 0, none⟩) (Nat.le_refl _) _).setCell (p := ⟨w.heap.size, 1, none⟩) (Nat.le_refl _) _).setCell (p := ⟨w.heap.size, 2, none⟩) (Nat.le_refl _) _⟩
  have HE := Lib.hid hEnd
  have z0 : (((W2.setCell ⟨w.heap.size, 0, none⟩ (.slice (some ⟨ba, 0, none⟩) tableRs.length ca)).setCell ⟨w.heap.size, 1, none⟩ (.slice (some ⟨bp, 0, none⟩) tablePs.length cp)).setCell ⟨w.heap.size, 2, none⟩ (.int .i64 n)).cell? ⟨w.heap.size, 0, none⟩ = some (.slice (some ⟨ba, 0, none⟩) tableRs.length ca) := by simp [go_sem, y0, y1, y2]
  have z1 : (((W2.setCell ⟨w.heap.size, 0, none⟩ (.slice (some ⟨ba, 0, none⟩) tableRs.length ca)).setCell ⟨w.heap.size, 1, none⟩ (.slice (some ⟨bp, 0, none⟩) tablePs.length cp)).setCell ⟨w.heap.size, 2, none⟩ (.int .i64 n)).cell? ⟨w.heap.size, 1, none⟩ = some (.slice (some ⟨bp, 0, none⟩) tablePs.length cp) := by simp [go_sem, y0, y1, y2]
  have z2 : (((W2.setCell ⟨w.heap.size, 0, none⟩ (.slice (some ⟨ba, 0, none⟩) tableRs.length ca)).setCell ⟨w.heap.size, 1, none⟩ (.slice (some ⟨bp, 0, none⟩) tablePs.length cp)).setCell ⟨w.heap.size, 2, none⟩ (.int .i64 n)).cell? ⟨w.heap.size, 2, none⟩ = some (.int .i64 n) := by simp [go_sem, y0, y1, y2]
  have HZ := Lib.hid (And.intro z0 (And.intro z1 z2))
  clear f0 hEnd hNI hTab hT hb hu z0 z1 z2
  go_wp2_with fail
  obtain ⟨z0, z1, z2⟩ := HZ.out
  refine bodyPost_ret (v := ntV ba bp ca cp tableRs tablePs n) (by simp [results, Tryz.results121, go_sem, z0, z1, z2, ntV]) rfl ⟨ba, bp, ca, cp, rfl, HE.out.1, HE.out.2⟩

set_option maxRecDepth 100000 in
set_option maxHeartbeats 1000000 in
theorem acode_v (n : Int) (k i : Nat) (hk : n = (k : Int) + 1) (hk5 : k < 5) (ba bp ca cp : Nat) (rows : List Row) (ps : List Pre) (w : World) (h : NI w ba bp ca cp rows ps) (hr : rows.length ≤ 1000) (hi : i < rows.length) :
    Calls Tryz.prog 157 #[ntV ba bp ca cp rows ps n, .int .i64 (i : Int)] w fun e w' => e = .returned (.string (bs (codeA rows k i))) ∧ Below w.heap.size w w' := by
  have hu : Below w.heap.size w (w.alloc (.cells #[.slice (some ⟨ba, 0, none⟩) rows.length ca, .slice (some ⟨bp, 0, none⟩) ps.length cp, .int .i64 n] 183)) := (Below.refl _ _).alloc (Nat.le_refl _) _
  have hc := (h.go hu).a i hi k hk5
  have hla := h.la
  have hkn : n - 1 = (k : Int) := by omega
  have hn1 : 1 ≤ n ∧ n ≤ 5 := by omega
  have hiI : (i : Int) < rows.length := by omega
  have hrI : (rows.length : Int) ≤ 1000 := by omega
  have hHC : Hid (codeA rows k i = (rows.getD i default).c5.get k) := rfl
  generalize (rows.getD i default).c5.get k = cd at *
  subst hk
  unfold ntV
  clear h hk5
  go_enter Tryz.func157, Tryz.ntmps157
  go_upto_region 3 with fail
  go_quiet (fail)
  go_wp2_with fail
  go_ret
  refine ⟨by rw [hHC.out]; rfl, hu.trans ((drewN_b nq).mono hu.size)⟩


end Go.Proofs.YthofogokpolhdaaGreatDoor.Syms

namespace Go.Proofs.YthofogokpolhdaaGreatDoor.Syms
open Go.RowKit Go.Shelf
open Go.Proofs.YthofogokpolhdaaGreatDoor.Atoms (Row Pre C5 tableRs tablePs)
open Go.Proofs.YthofogokpolhdaaGreatDoor.Style (bs bs_size)
open Go.Proofs.YthofogokpolhdaaGreatDoor.Toks (cell_lt cell_same)
set_option linter.unusedVariables false
set_option linter.unusedSimpArgs false

set_option maxRecDepth 100000 in
set_option maxHeartbeats 1000000 in
theorem pcode_v (n : Int) (k i : Nat) (hk : n = (k : Int) + 1) (hk5 : k < 5) (ba bp ca cp : Nat) (rows : List Row) (ps : List Pre) (w : World) (h : NI w ba bp ca cp rows ps) (hr : ps.length ≤ 1000) (hi : i < ps.length) :
    Calls Tryz.prog 140 #[ntV ba bp ca cp rows ps n, .int .i64 (i : Int)] w fun e w' => e = .returned (.string (bs (codeP ps k i))) ∧ Below w.heap.size w w' := by
  have hu : Below w.heap.size w (w.alloc (.cells #[.slice (some ⟨ba, 0, none⟩) rows.length ca, .slice (some ⟨bp, 0, none⟩) ps.length cp, .int .i64 n] 183)) := (Below.refl _ _).alloc (Nat.le_refl _) _
  have hc := (h.go hu).p i hi k hk5
  have hlp := h.lp
  have hkn : n - 1 = (k : Int) := by omega
  have hn1 : 1 ≤ n ∧ n ≤ 5 := by omega
  have hiI : (i : Int) < ps.length := by omega
  have hrI : (ps.length : Int) ≤ 1000 := by omega
  have hHC : Hid (codeP ps k i = (ps.getD i default).c5.get k) := rfl
  generalize (ps.getD i default).c5.get k = cd at *
  subst hk
  unfold ntV
  clear h hk5
  go_enter Tryz.func140, Tryz.ntmps140
  go_upto_region 3 with fail
  go_quiet (fail)
  go_wp2_with fail
  go_ret
  refine ⟨by rw [hHC.out]; rfl, hu.trans ((drewN_b nq).mono hu.size)⟩

theorem called_step (rows : List Row) (k : Nat) (c : List UInt8) (i m : Nat) : calledF rows k c i (m + 1) = if codeA rows k i = c then (i : Int) else calledF rows k c (i + 1) m := rfl
theorem called_no {rows : List Row} {k : Nat} {c : List UInt8} : ∀ (m i : Nat), (∀ j, i ≤ j → j < i + m → codeA rows k j ≠ c) → calledF rows k c i m = -1
  | 0, i, _ => rfl
  | m + 1, i, h => by
    unfold calledF
    rw [if_neg (h i (Nat.le_refl _) (by omega))]
    exact called_no m (i + 1) (fun j h1 h2 => h j (by omega) (by omega))

set_option maxRecDepth 100000 in
set_option maxHeartbeats 2000000 in
theorem called_v (n : Int) (k : Nat) (c : List UInt8) (hk : n = (k : Int) + 1) (hk5 : k < 5) (ba bp ca cp : Nat) (rows : List Row) (ps : List Pre) (w : World) (h : NI w ba bp ca cp rows ps) (hr : rows.length ≤ 1000) :
    Calls Tryz.prog 137 #[ntV ba bp ca cp rows ps n, .string (bs c)] w fun e w' => e = .returned (.int .i64 (calledZ rows k c)) ∧ Below w.heap.size w w' := by
  have hu : Below w.heap.size w (w.alloc (.cells #[.slice (some ⟨ba, 0, none⟩) rows.length ca, .slice (some ⟨bp, 0, none⟩) ps.length cp, .int .i64 n] 183)) := (Below.refl _ _).alloc (Nat.le_refl _) _
  have h1 := h.go hu
  have hlt : w.heap.size < (w.alloc (.cells #[.slice (some ⟨ba, 0, none⟩) rows.length ca, .slice (some ⟨bp, 0, none⟩) ps.length cp, .int .i64 n] 183)).heap.size := by rw [World.size_alloc]; omega
  have y0 : (w.alloc (.cells #[.slice (some ⟨ba, 0, none⟩) rows.length ca, .slice (some ⟨bp, 0, none⟩) ps.length cp, .int .i64 n] 183)).cell? ⟨w.heap.size, 0, none⟩ = some (.slice (some ⟨ba, 0, none⟩) rows.length ca) := by simp [go_sem]
  have y1 : (w.alloc (.cells #[.slice (some ⟨ba, 0, none⟩) rows.length ca, .slice (some ⟨bp, 0, none⟩) ps.length cp, .int .i64 n] 183)).cell? ⟨w.heap.size, 1, none⟩ = some (.slice (some ⟨bp, 0, none⟩) ps.length cp) := by simp [go_sem]
  have y2 : (w.alloc (.cells #[.slice (some ⟨ba, 0, none⟩) rows.length ca, .slice (some ⟨bp, 0, none⟩) ps.length cp, .int .i64 n] 183)).cell? ⟨w.heap.size, 2, none⟩ = some (.int .i64 n) := by simp [go_sem]
  have hrI : (rows.length : Int) ≤ 1000 := by omega
  have hAc := fun i hi W hW => acode_v n k i hk hk5 ba bp ca cp rows ps W hW hr hi
  clear hk
  unfold ntV at hAc ⊢
  by_cases hc0 : c = []
  · subst hc0
    have hE : Hid (calledZ rows k [] = -1) := by show _ = _; unfold calledZ; rw [if_pos rfl]
    have hce : ((bs []).toList == []) = true := by rw [Trees.bs_list]; rfl
    rw [hE.out]
    clear h h1 hAc
    go_enter Tryz.func137, Tryz.ntmps137
    go_wp2_with fail
    go_ret
    exact ⟨rfl, hu⟩
  · have hce : ((bs c).toList == []) = false := by
      rw [Trees.bs_list]
      simpa using hc0
    have hZ : Hid (calledZ rows k c = calledF rows k c 0 rows.length) := by show _ = _; unfold calledZ; rw [if_neg hc0]
    obtain ⟨R, hR⟩ : ∃ R, calledZ rows k c = R := ⟨_, rfl⟩
    rw [hR]
    have HR : Hid (calledF rows k c 0 rows.length = R) := hZ.out.symm.trans hR
    clear hZ hR hc0 h
    go_enter Tryz.func137, Tryz.ntmps137
    go_wp2_with fail
    generalize w.alloc (.cells #[.slice (some ⟨ba, 0, none⟩) rows.length ca, .slice (some ⟨bp, 0, none⟩) ps.length cp, .int .i64 n] 183) = W0 at *
    go_loopw [12] (fun x wr => ∃ i : Nat, x = .int .i64 (i : Int) ∧ i ≤ rows.length ∧ Hid (calledF rows k c i (rows.length - i) = R) ∧ Below W0.heap.size W0 wr) (fun x _ => ((rows.length : Int) - intOf x).toNat)
    case atStart => exact ⟨0, rfl, by omega, by rw [Nat.sub_zero]; exact HR, Below.refl _ _⟩
    case round =>
      clear HR
      obtain ⟨i, rfl, hir, HI, hB⟩ := hrel
      have z0 := (hB.cell (p := ⟨w.heap.size, 0, none⟩) hlt).trans y0
      have z1 := (hB.cell (p := ⟨w.heap.size, 1, none⟩) hlt).trans y1
      have z2 := (hB.cell (p := ⟨w.heap.size, 2, none⟩) hlt).trans y2
      by_cases hi : i < rows.length
      · have hiI : (i : Int) < rows.length := by omega
        have hA := hAc i hi wr (h1.go hB)
        obtain ⟨m, hm⟩ : ∃ m, rows.length - i = m + 1 := ⟨rows.length - i - 1, by omega⟩
        rw [hm] at HI
        have hm2 : rows.length - (i + 1) = m := by omega
        have HST := Lib.hid (called_step rows k c i m)
        generalize codeA rows k i = ci at *
        clear hAc
        by_cases e : ci = c
        · have eb : ((bs ci).toList == (bs c).toList) = true := by rw [e]; exact beq_self_eq_true _
          have HE : Hid (R = (i : Int)) := by
            show _ = _
            have h2 := HI.out
            rw [HST.out, if_pos e] at h2
            exact h2.symm
          clear e HI HST
          go_wp2_with fail
          refine hA.mono ?_
          rintro e w2 ⟨rfl, hb2⟩
          clear hA
          go_wp2_with fail
          go_ret
          exact ⟨by rw [HE.out]; rfl, (hu.trans (hB.mono hu.size)).trans (hb2.mono (by have := hu.size; have := hB.size; omega))⟩
        · have eb : ((bs ci).toList == (bs c).toList) = false := by
            rw [Trees.bs_list, Trees.bs_list]
            simpa using e
          have HE : Hid (calledF rows k c (i + 1) m = R) := by
            show _ = _
            have h2 := HI.out
            rw [HST.out, if_neg e] at h2
            exact h2
          clear e HI HST
          go_wp2_with fail
          refine hA.mono ?_
          rintro e w2 ⟨rfl, hb2⟩
          clear hA
          go_wp2_with fail
          go_roundw
          case rel => exact ⟨i + 1, by simp, by omega, by rw [hm2]; exact HE, hB.trans (hb2.mono hB.size)⟩
          case measure => simp only [intOf]; omega
      · have hiI : ¬ (i : Int) < rows.length := by omega
        have hie : i = rows.length := by omega
        have HE : Hid (R = -1) := by
          show _ = _
          have h2 := HI.out
          rw [hie, Nat.sub_self] at h2
          exact h2.symm
        clear hie
        go_wp2_with fail
        go_ret
        exact ⟨by rw [HE.out]; rfl, hu.trans (hB.mono hu.size)⟩

end Go.Proofs.YthofogokpolhdaaGreatDoor.Syms


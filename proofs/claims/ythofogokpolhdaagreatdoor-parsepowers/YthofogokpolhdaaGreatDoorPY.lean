/-
  Contracts of drachmlaw11's rest, awake.
-/
import Derived.Test.YthofogokpolhdaaGreatDoorPZ
namespace Go.Proofs.YthofogokpolhdaaGreatDoor.Parses
open Go.RowKit Go.Shelf
open Go.Proofs.YthofogokpolhdaaGreatDoor.Trees (Stp StepsAt cellS But)
open Go.Proofs.YthofogokpolhdaaGreatDoor.Toks (Tok ToksAt cell_lt cell_same SliceAt Above Grid Env)
open Go.Proofs.YthofogokpolhdaaGreatDoor.Style (bs bs_size isN Styles)
set_option linter.unusedVariables false
set_option linter.unusedSimpArgs false

def restN (x : Int) (n : Nat) : Nat := (x % (n : Int)).toNat
theorem restN_lt (x : Int) (n : Nat) (h : 0 < n) : restN x n < n := by
  have h1 := Int.emod_lt_of_pos x (show (0 : Int) < n by omega)
  have h2 := Int.emod_nonneg x (show (n : Int) ≠ 0 by omega)
  unfold restN; omega
theorem rest_eq (x n : Int) : (x.tmod n + n) % n = x % n := by
  have h := Int.mul_tdiv_add_tmod x n
  rw [Int.add_emod_right]
  calc x.tmod n % n = (x.tmod n + n * x.tdiv n) % n := by rw [Int.add_mul_emod_self_left]
    _ = x % n := by rw [Int.add_comm, h]

theorem rest_any (x : Int) (n : Nat) (w : World) (h : 1 ≤ n) (hn : n ≤ 1000000) :
    Calls Tryz.prog 11 #[.int .i64 x, .int .i64 n] w fun e w' => e = .returned (.int .i64 (restN x n)) ∧ w = w' := by
  have hn0 : (0 : Int) < n := by omega
  have hnn : ¬ (n : Int) = 0 := by omega
  have hle : (n : Int) ≤ 1000000 := by omega
  have hl : -(n : Int) < x.tmod n := Int.lt_tmod_of_pos x hn0
  have hr : x.tmod n < n := Int.tmod_lt_of_pos x hn0
  have HE := Lib.hid (rest_eq x n)
  have HN : Hid (((restN x n : Nat) : Int) = x % (n : Int)) := by
    show _ = _
    have := Int.emod_nonneg x hnn
    unfold restN; omega
  go_enter Tryz.func11, Tryz.ntmps11
  go_wp2
  go_ret
  exact ⟨by rw [HE.out, HN.out]; rfl, rfl⟩

/-! ### The examples -/

def txA : List UInt8 := [47, 109, 46, 115, 45, 50]
def txB : List UInt8 := [109, 41]
def txC : List UInt8 := [109, 103, 47, 120, 121, 122]
def okA : Bool := match treeAll 0 (pToks 1 txA) 6 with
  | .ok T => T.length == 4 && ((T.getD 1 default).op == 5 && (T.getD 2 default).n == -2)
  | .error _ => false
theorem exA : okA = true := by kernel_rfl
theorem exA' : ∃ T, treeAll 0 (pToks 1 txA) 6 = .ok T ∧ T.length = 4 ∧ (T.getD 1 default).op = 5 ∧ (T.getD 2 default).n = -2 := by
  have h := exA
  unfold okA at h
  split at h
  · rename_i T hT
    rw [Bool.and_eq_true, Bool.and_eq_true, beq_iff_eq, beq_iff_eq, beq_iff_eq] at h
    exact ⟨T, hT, h.1, h.2.1, h.2.2⟩
  · cases h
def errZ (r : Except (Int × Int × Int) (List Stp)) (a b c : Int) : Bool := match r with
  | .error (x, y, z) => x == a && (y == b && z == c)
  | .ok _ => false
theorem err_of {r : Except (Int × Int × Int) (List Stp)} {a b c : Int} (h : errZ r a b c = true) : r = .error (a, b, c) := by
  unfold errZ at h
  split at h
  · rw [Bool.and_eq_true, Bool.and_eq_true, beq_iff_eq, beq_iff_eq, beq_iff_eq] at h
    obtain ⟨rfl, rfl, rfl⟩ := h
    rfl
  · cases h
theorem exB : errZ (treeAll 0 (pToks 1 txB) 2) 14 1 0 = true := by kernel_rfl
theorem exC : errZ (treeAll 0 (pToks 1 txC) 6) 15 3 3 = true := by kernel_rfl

/-- What Parse hands back, where there is a tree; where there is none. -/
theorem end_ok {k : Nat} {L : List Tok} {size : Int} {w w' : World} {e : Ending} (h : TreeEnd k L size w e w') {T : List Stp} (hT : treeAll k L size = .ok T) : ∃ o c, e = .returned (.agg #[.slice o T.length c, .int .i64 0, .int .i64 size, .int .i64 0]) ∧ StepsAt w' (.slice o T.length c) T ∧ Above w.heap.size (.slice o T.length c) ∧ Below w.heap.size w w' := by
  obtain ⟨hb, h⟩ := h
  rw [hT] at h
  obtain ⟨v, rfl, hs, ha⟩ := h
  obtain ⟨ov, cv, rfl⟩ := SliceAt.slice hs
  exact ⟨ov, cv, rfl, hs, ha, hb⟩
theorem end_err {k : Nat} {L : List Tok} {size : Int} {w w' : World} {e : Ending} (h : TreeEnd k L size w e w') {a b c : Int} (hT : treeAll k L size = .error (a, b, c)) : e = .returned (.agg #[.slice none 0 0, .int .i64 a, .int .i64 b, .int .i64 c]) ∧ Below w.heap.size w w' := by
  obtain ⟨hb, h⟩ := h
  rw [hT] at h
  exact ⟨h, hb⟩
/-- The cells of a row of steps. -/
theorem steps_in {w : World} {o : Option Addr} {c : Nat} {T : List Stp} (h : StepsAt w (.slice o T.length c) T) (h0 : 0 < T.length) : ∃ b, o = some ⟨b, 0, none⟩ ∧ Grid w b 6 T.length (cellS T) := by
  rcases h with ⟨h1, _⟩ | ⟨b, c', hs, _, _, hg⟩
  · omega
  · injection hs with e1 e2 e3
    exact ⟨b, e1, hg⟩

set_option maxRecDepth 100000 in
set_option maxHeartbeats 4000000 in
theorem awake_yes (w : World) (hE : Env w) : Calls Tryz.prog 10 #[] w fun e w' => e = .returned (.bool true) ∧ Below w.heap.size w w' := by
  obtain ⟨T, hT, hl4, hop, hn⟩ := exA'
  have hB := err_of exB
  have hC := err_of exC
  have h1 : Calls Tryz.prog 17 #[.int .i64 1, .string (bs txA)] w (TreeEnd 0 (pToks 1 txA) 6 w) := parse_any 0 txA w hE (by omega) (by decide)
  have h2 : ∀ W, Env W → Calls Tryz.prog 17 #[.int .i64 1, .string (bs txB)] W (TreeEnd 0 (pToks 1 txB) 2 W) := fun W (h : Env W) => parse_any 0 txB W h (by omega) (by decide)
  have h3 : ∀ W, Env W → Calls Tryz.prog 17 #[.int .i64 1, .string (bs txC)] W (TreeEnd 0 (pToks 1 txC) 6 W) := fun W (h : Env W) => parse_any 0 txC W h (by omega) (by decide)
  go_enter Tryz.func10, Tryz.ntmps10
  go_wp2_with fail
  refine h1.mono ?_
  rintro e w1 he
  obtain ⟨o, c, rfl, hS, hA, hb1⟩ := end_ok he hT
  obtain ⟨b, rfl, hg⟩ := steps_in hS (by omega)
  rw [hl4] at hg ⊢
  clear he h1 hT hS hA
  have hu1 := alloc_own w1 (.cells #[.slice (some ⟨b, 0, none⟩) 4 c, .int .i64 0, .int .i64 6, .int .i64 0] 37)
  have hE1 := (hE.go hb1).go hu1
  have hg1 := hg.go hu1
  have hB1 := hb1.trans (hu1.mono hb1.size)
  have y0 : (w1.alloc (.cells #[.slice (some ⟨b, 0, none⟩) 4 c, .int .i64 0, .int .i64 6, .int .i64 0] 37)).cell? ⟨w1.heap.size, 0, none⟩ = some (.slice (some ⟨b, 0, none⟩) 4 c) := by simp [go_sem]
  have y1 : (w1.alloc (.cells #[.slice (some ⟨b, 0, none⟩) 4 c, .int .i64 0, .int .i64 6, .int .i64 0] 37)).cell? ⟨w1.heap.size, 1, none⟩ = some (.int .i64 0) := by simp [go_sem]
  go_wp2_with fail
  generalize w1.alloc (.cells #[.slice (some ⟨b, 0, none⟩) 4 c, .int .i64 0, .int .i64 6, .int .i64 0] 37) = W1 at *
  refine (h2 W1 hE1).mono ?_
  rintro e w2 he
  obtain ⟨rfl, hb2⟩ := end_err he hB
  have hu2 := alloc_own w2 (.cells #[.slice none 0 0, .int .i64 14, .int .i64 1, .int .i64 0] 37)
  have hb2' := hb2.trans (hu2.mono hb2.size)
  have hE2 := hE1.go hb2'
  have hg2 := hg1.go hb2'
  have hB2 := hB1.trans (hb2'.mono hB1.size)
  have y0' := (hb2'.cell (p := ⟨w1.heap.size, 0, none⟩) (cell_lt y0)).trans y0
  have y1' := (hb2'.cell (p := ⟨w1.heap.size, 1, none⟩) (cell_lt y1)).trans y1
  have v1 : (w2.alloc (.cells #[.slice none 0 0, .int .i64 14, .int .i64 1, .int .i64 0] 37)).cell? ⟨w2.heap.size, 1, none⟩ = some (.int .i64 14) := by simp [go_sem]
  have v2 : (w2.alloc (.cells #[.slice none 0 0, .int .i64 14, .int .i64 1, .int .i64 0] 37)).cell? ⟨w2.heap.size, 2, none⟩ = some (.int .i64 1) := by simp [go_sem]
  clear he h2 hB hE1 hg1 hB1 hb2 hu2 y0 y1
  go_wp2_with fail
  generalize w2.alloc (.cells #[.slice none 0 0, .int .i64 14, .int .i64 1, .int .i64 0] 37) = W2 at *
  refine (h3 W2 hE2).mono ?_
  rintro e w3 he
  obtain ⟨rfl, hb3⟩ := end_err he hC
  have hu3 := alloc_own w3 (.cells #[.slice none 0 0, .int .i64 15, .int .i64 3, .int .i64 3] 37)
  have hb3' := hb3.trans (hu3.mono hb3.size)
  have hg3 := hg2.go hb3'
  have hB3 := hB2.trans (hb3'.mono hB2.size)
  have y0 := (hb3'.cell (p := ⟨w1.heap.size, 0, none⟩) (cell_lt y0')).trans y0'
  have y1 := (hb3'.cell (p := ⟨w1.heap.size, 1, none⟩) (cell_lt y1')).trans y1'
  have v1' := (hb3'.cell (p := ⟨w2.heap.size, 1, none⟩) (cell_lt v1)).trans v1
  have v2' := (hb3'.cell (p := ⟨w2.heap.size, 2, none⟩) (cell_lt v2)).trans v2
  have u1 : (w3.alloc (.cells #[.slice none 0 0, .int .i64 15, .int .i64 3, .int .i64 3] 37)).cell? ⟨w3.heap.size, 1, none⟩ = some (.int .i64 15) := by simp [go_sem]
  have u2 : (w3.alloc (.cells #[.slice none 0 0, .int .i64 15, .int .i64 3, .int .i64 3] 37)).cell? ⟨w3.heap.size, 2, none⟩ = some (.int .i64 3) := by simp [go_sem]
  have u3 : (w3.alloc (.cells #[.slice none 0 0, .int .i64 15, .int .i64 3, .int .i64 3] 37)).cell? ⟨w3.heap.size, 3, none⟩ = some (.int .i64 3) := by simp [go_sem]
  have z1 := hg3.1 1 (by omega) 0 (by omega)
  have z2 := hg3.1 2 (by omega) 3 (by omega)
  have e1 : cellS T 1 0 = .int .i64 5 := by unfold cellS Stp.cs; rw [← hop]; rfl
  have e2 : cellS T 2 3 = .int .i64 (-2) := by unfold cellS Stp.cs; rw [← hn]; rfl
  rw [e1] at z1
  rw [e2] at z2
  simp only [Nat.reduceMul, Nat.reduceAdd] at z1 z2
  have HB := Lib.hid hB3
  clear he h3 hC hg hg2 hg3 hE hE2 e1 e2 hb1 hb2' hb3 hb3' hu3 hl4 hop hn y0' y1' v1 v2 hB2 hB3
  go_wp2_with fail
  generalize w3.alloc (.cells #[.slice none 0 0, .int .i64 15, .int .i64 3, .int .i64 3] 37) = W3 at *
  go_wp2
  go_ret
  exact ⟨rfl, HB.out⟩

end Go.Proofs.YthofogokpolhdaaGreatDoor.Parses

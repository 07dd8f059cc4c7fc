/-
  The contract of the function that atoms.Each hands back: all atoms, by rising places, each with its own copy of its terms; or a beginning of them, where a round has said that no more is wanted. Contract of atoms.wrongAtom: the first atom that is not right. Contracts of atoms.wrongPrefix, Check.
-/
import Derived.Test.YthofogokpolhdaaGreatDoorA1Z
import Derived.Test.YthofogokpolhdaaGreatDoorARX
import Derived.RangeFuncBound
import Derived.RangeFuncFrom
import Derived.RangeFuncBox
import Derived.OwnWalkIn
import Derived.TacticsInMore
import Derived.LoopNIn
import Derived.LoopIn
import Derived.Stop.RegionWithIn
import Derived.Shelf.Abstract
namespace Go.Proofs.YthofogokpolhdaaGreatDoor.Atoms
open Go.RowKit Go.Proofs.YthofogokpolhdaaGreatDoor.Ranges
attribute [local go_sem] Oper.semAt_some
set_option linter.unusedVariables false
set_option linter.unusedSimpArgs false

/-- The blocks from lo to hi are as they were. -/
structure Kept (lo hi : Nat) (V V' : World) : Prop where
  size : V.heap.size ≤ V'.heap.size
  block : ∀ k, lo ≤ k → k < hi → V'.heap[k]? = V.heap[k]?
theorem Kept.refl (lo hi : Nat) (V : World) : Kept lo hi V V := ⟨Nat.le_refl _, fun _ _ _ => rfl⟩
theorem Kept.trans {lo hi : Nat} {A B C : World} (h : Kept lo hi A B) (k : Kept lo hi B C) : Kept lo hi A C := ⟨Nat.le_trans h.size k.size, fun i h1 h2 => (k.block i h1 h2).trans (h.block i h1 h2)⟩
theorem Kept.of {lo hi : Nat} {V V' : World} (h : Below V.heap.size V V') (hh : hi ≤ V.heap.size) : Kept lo hi V V' := ⟨h.size, fun k _ h2 => h.block k (by omega)⟩
theorem Kept.put {lo hi : Nat} (V : World) (l : Nat) (o : Obj) (h : hi ≤ l) : Kept lo hi V (V.putObj l o) := ⟨by simp [World.putObj], fun k _ h2 => World.putObj_heap_other (by omega)⟩
theorem Grid.kept {V V' : World} {b k n : Nat} {f : Nat → Nat → Value} (h : Grid V b k n f) {lo : Nat} (hl : lo ≤ b) (hk : Kept lo V.heap.size V V') : Grid V' b k n f := h.block hk.size (hk.block b hl h.2.2)
theorem SliceAt.kept {V V' : World} {s : Value} {k n : Nat} {f : Nat → Nat → Value} (h : SliceAt V s k n f) {lo : Nat} (hl : Above lo s) (hk : Kept lo V.heap.size V V') : SliceAt V' s k n f := by
  rcases h with h | ⟨b, c, hs, hc, hm, hg⟩
  · exact .inl h
  · have hb : lo ≤ b := hl _ _ _ hs
    exact .inr ⟨b, c, hs, hc, hm.block (hk.block b hb hg.2.2), hg.kept hb hk⟩

/-- What a round is handed: a place, and its atom with a slice of terms. -/
def encA (rows : List Row) (x : Nat × Value) : Array Value := #[.int .i64 (x.1 : Int), .agg ((rows.getD x.1 default).cs x.2)]
def GuardA (rows : List Row) (pre : List (Nat × Value)) (x : Nat × Value) (V : World) : Prop := x.1 = pre.length ∧ x.1 < rows.length ∧ TermsAt V x.2 (rows.getD x.1 default).ts

theorem row_cells {V : World} {b n : Nat} {rows : List Row} {S : Nat → Value} (hg : Grid V b 12 n (cellA rows S)) (k : Nat) (hk : k < n) (r : Row) (hr : rows.getD k default = r) :
    V.cell? ⟨b, k * 12, none⟩ = some (.string (bs r.c0)) ∧ V.cell? ⟨b, k * 12 + 1, none⟩ = some (.string (bs r.c1)) ∧ V.cell? ⟨b, k * 12 + 2, none⟩ = some (.string (bs r.c2)) ∧ V.cell? ⟨b, k * 12 + 3, none⟩ = some (.string (bs r.c3))
    ∧ V.cell? ⟨b, k * 12 + 4, none⟩ = some (.string (bs r.c4)) ∧ V.cell? ⟨b, k * 12 + 5, none⟩ = some (.bool r.m) ∧ V.cell? ⟨b, k * 12 + 6, none⟩ = some (.int .i64 r.tag) ∧ V.cell? ⟨b, k * 12 + 7, none⟩ = some (.int .i64 r.base)
    ∧ V.cell? ⟨b, k * 12 + 8, none⟩ = some (.int .i64 r.num) ∧ V.cell? ⟨b, k * 12 + 9, none⟩ = some (.int .i64 r.den) ∧ V.cell? ⟨b, k * 12 + 10, none⟩ = some (.int .i64 r.ten) ∧ V.cell? ⟨b, k * 12 + 11, none⟩ = some (S k) := by
  subst hr
  exact ⟨hg.1 k hk 0 (by omega), hg.1 k hk 1 (by omega), hg.1 k hk 2 (by omega), hg.1 k hk 3 (by omega), hg.1 k hk 4 (by omega), hg.1 k hk 5 (by omega), hg.1 k hk 6 (by omega), hg.1 k hk 7 (by omega), hg.1 k hk 8 (by omega), hg.1 k hk 9 (by omega), hg.1 k hk 10 (by omega), hg.1 k hk 11 (by omega)⟩
/-- The block b holds an atom alone. -/
def AtomBox (V : World) (b : Nat) (r : Row) (s : Value) : Prop := Grid V b 12 1 (fun _ j => r.cell s j)
theorem AtomBox.new (V : World) (r : Row) (s : Value) : AtomBox (V.alloc (.cells (r.cs s) 134)) V.heap.size r s := by
  refine Grid.new V _ 12 1 _ _ fun i hi j hj => ?_
  have : i = 0 := by omega
  subst this
  rw [Nat.zero_mul, Nat.zero_add]
  unfold Row.cell
  rw [Array.getElem?_eq_getElem (by exact hj)]
  rfl
theorem AtomBox.cells {V : World} {b : Nat} {r : Row} {s : Value} (h : AtomBox V b r s) :
    V.cell? ⟨b, 0, none⟩ = some (.string (bs r.c0)) ∧ V.cell? ⟨b, 1, none⟩ = some (.string (bs r.c1)) ∧ V.cell? ⟨b, 2, none⟩ = some (.string (bs r.c2)) ∧ V.cell? ⟨b, 3, none⟩ = some (.string (bs r.c3))
    ∧ V.cell? ⟨b, 4, none⟩ = some (.string (bs r.c4)) ∧ V.cell? ⟨b, 5, none⟩ = some (.bool r.m) ∧ V.cell? ⟨b, 6, none⟩ = some (.int .i64 r.tag) ∧ V.cell? ⟨b, 7, none⟩ = some (.int .i64 r.base)
    ∧ V.cell? ⟨b, 8, none⟩ = some (.int .i64 r.num) ∧ V.cell? ⟨b, 9, none⟩ = some (.int .i64 r.den) ∧ V.cell? ⟨b, 10, none⟩ = some (.int .i64 r.ten) ∧ V.cell? ⟨b, 11, none⟩ = some s := by
  have h' : ∀ j, j < 12 → V.cell? ⟨b, 0 * 12 + j, none⟩ = some (r.cell s j) := fun j hj => (show Grid V b 12 1 (fun _ j => r.cell s j) from h).1 0 (by omega) j hj
  simp only [Nat.zero_mul, Nat.zero_add] at h'
  exact ⟨h' 0 (by omega), h' 1 (by omega), h' 2 (by omega), h' 3 (by omega), h' 4 (by omega), h' 5 (by omega), h' 6 (by omega), h' 7 (by omega), h' 8 (by omega), h' 9 (by omega), h' 10 (by omega), h' 11 (by omega)⟩

end Go.Proofs.YthofogokpolhdaaGreatDoor.Atoms

namespace Go.Proofs.YthofogokpolhdaaGreatDoor.Atoms
open Go.RowKit Go.Shelf Go.Proofs.YthofogokpolhdaaGreatDoor.Ranges
attribute [local go_sem] Oper.semAt_some
set_option linter.unusedVariables false
set_option linter.unusedSimpArgs false

theorem cell_same {W W' : World} {b j : Nat} {v : Value} (hc : W.cell? ⟨b, j, none⟩ = some v) (h : W'.heap[b]? = W.heap[b]?) : W'.cell? ⟨b, j, none⟩ = some v := (World.cell?_of_block (a := ⟨b, j, none⟩) h).trans hc
theorem cell_lt {W : World} {b j : Nat} {v : Value} (hc : W.cell? ⟨b, j, none⟩ = some v) : b < W.heap.size := World.block_lt_of_cell? _ _ hc

end Go.Proofs.YthofogokpolhdaaGreatDoor.Atoms

namespace Go.Proofs.YthofogokpolhdaaGreatDoor.Atoms
open Go.RowKit
set_option linter.unusedVariables false
set_option linter.unusedSimpArgs false

/-- The slice s holds these prefixes. -/
def PrefsSl (w : World) (s : Value) (ps : List Pre) : Prop := SliceAt w s 6 ps.length (cellP ps)
structure FitsP (ps : List Pre) : Prop where
  len : ps.length ≤ 1000000
  fine : ∀ i, (ps.getD i default).c5.Fine
theorem pre_cells {V : World} {b n : Nat} {ps : List Pre} (hg : Grid V b 6 n (cellP ps)) (k : Nat) (hk : k < n) (r : Pre) (hr : ps.getD k default = r) :
    V.cell? ⟨b, k * 6, none⟩ = some (.string (bs r.c0)) ∧ V.cell? ⟨b, k * 6 + 1, none⟩ = some (.string (bs r.c1)) ∧ V.cell? ⟨b, k * 6 + 2, none⟩ = some (.string (bs r.c2)) ∧ V.cell? ⟨b, k * 6 + 3, none⟩ = some (.string (bs r.c3))
    ∧ V.cell? ⟨b, k * 6 + 4, none⟩ = some (.string (bs r.c4)) ∧ V.cell? ⟨b, k * 6 + 5, none⟩ = some (.int .i64 r.ten) := by
  subst hr
  exact ⟨hg.1 k hk 0 (by omega), hg.1 k hk 1 (by omega), hg.1 k hk 2 (by omega), hg.1 k hk 3 (by omega), hg.1 k hk 4 (by omega), hg.1 k hk 5 (by omega)⟩
theorem wrongP_none {ps : List Pre} {m k : Nat} {K : List (List Int)} (h : addP K (ps.getD k default).codes = none) : wrongP ps (m + 1) k K = k := by
  show (match addP K (ps.getD k default).codes with | none => (k : Int) | some K' => _) = _
  rw [h]
theorem wrongP_row {ps : List Pre} {m k : Nat} {K K' : List (List Int)} (h : addP K (ps.getD k default).codes = some K') (hr : decide (-30 ≤ (ps.getD k default).ten ∧ (ps.getD k default).ten ≤ 30) = false) : wrongP ps (m + 1) k K = k := by
  show (match addP K (ps.getD k default).codes with | none => (k : Int) | some K' => if -30 ≤ (ps.getD k default).ten ∧ (ps.getD k default).ten ≤ 30 then wrongP ps m (k + 1) K' else k) = _
  rw [h]
  simp only []
  rw [if_neg (by simpa using hr)]
theorem wrongP_next {ps : List Pre} {m k : Nat} {K K' : List (List Int)} (h : addP K (ps.getD k default).codes = some K') (hr : decide (-30 ≤ (ps.getD k default).ten ∧ (ps.getD k default).ten ≤ 30) = true) : wrongP ps (m + 1) k K = wrongP ps m (k + 1) K' := by
  show (match addP K (ps.getD k default).codes with | none => (k : Int) | some K' => if -30 ≤ (ps.getD k default).ten ∧ (ps.getD k default).ten ≤ 30 then wrongP ps m (k + 1) K' else k) = _
  rw [h]
  simp only []
  rw [if_pos (by simpa using hr)]

theorem wrongP_in (ps : List Pre) : ∀ (m i : Nat) (K : List (List Int)), -1 ≤ wrongP ps m i K ∧ wrongP ps m i K ≤ (i + m : Nat)
  | 0, i, K => by show -1 ≤ (-1 : Int) ∧ (-1 : Int) ≤ _; omega
  | m + 1, i, K => by
    cases h : addP K (ps.getD i default).codes with
    | none => rw [wrongP_none h]; omega
    | some K' =>
      by_cases hd : decide (-30 ≤ (ps.getD i default).ten ∧ (ps.getD i default).ten ≤ 30) = true
      · rw [wrongP_next h hd]
        have := wrongP_in ps m (i + 1) K'
        omega
      · rw [wrongP_row h (by simpa using hd)]; omega

end Go.Proofs.YthofogokpolhdaaGreatDoor.Atoms


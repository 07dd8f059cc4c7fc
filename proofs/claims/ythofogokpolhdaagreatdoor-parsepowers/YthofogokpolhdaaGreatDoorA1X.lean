/-
  Contracts of atoms.within, letter, codeOf. Contract of atoms.codeOf: a text as a key, and whether it is a code. Maps whose keys are codes: looked up, filled, cleared. Contract of (atoms.seen).add. Contract of (atoms.seen).add: the codes of one more row; all but the map stays as it was.
-/
import Derived.Test.YthofogokpolhdaaGreatDoorAEX
import Derived.Deep.Cut
import Derived.RangeFuncWrites
namespace Go.Proofs.YthofogokpolhdaaGreatDoor.Atoms
open Go.RowKit
set_option linter.unusedVariables false
set_option linter.unusedSimpArgs false

end Go.Proofs.YthofogokpolhdaaGreatDoor.Atoms

namespace Go.Proofs.YthofogokpolhdaaGreatDoor.Atoms
open Go.RowKit
set_option linter.unusedVariables false
set_option linter.unusedSimpArgs false

/-- A key as far as it is made. -/
def keyPart (n : Int) (s : List UInt8) (k i : Nat) : Int := if i = 0 then n else upto s k (i - 1)
def KeyAt (w : World) (b : Nat) (n : Int) (s : List UInt8) (k : Nat) : Prop := Grid w b 1 9 (fun i _ => .int .u8 (keyPart n s k i))
theorem KeyAt.cells {w : World} {b : Nat} {n : Int} {s : List UInt8} {k : Nat} (h : KeyAt w b n s k) :
    w.cell? ⟨b, 0, none⟩ = some (.int .u8 n) ∧ w.cell? ⟨b, 1, none⟩ = some (.int .u8 (upto s k 0)) ∧ w.cell? ⟨b, 2, none⟩ = some (.int .u8 (upto s k 1)) ∧ w.cell? ⟨b, 3, none⟩ = some (.int .u8 (upto s k 2))
    ∧ w.cell? ⟨b, 4, none⟩ = some (.int .u8 (upto s k 3)) ∧ w.cell? ⟨b, 5, none⟩ = some (.int .u8 (upto s k 4)) ∧ w.cell? ⟨b, 6, none⟩ = some (.int .u8 (upto s k 5)) ∧ w.cell? ⟨b, 7, none⟩ = some (.int .u8 (upto s k 6)) ∧ w.cell? ⟨b, 8, none⟩ = some (.int .u8 (upto s k 7)) :=
  ⟨h.1 0 (by omega) 0 (by omega), h.1 1 (by omega) 0 (by omega), h.1 2 (by omega) 0 (by omega), h.1 3 (by omega) 0 (by omega), h.1 4 (by omega) 0 (by omega), h.1 5 (by omega) 0 (by omega), h.1 6 (by omega) 0 (by omega), h.1 7 (by omega) 0 (by omega), h.1 8 (by omega) 0 (by omega)⟩
theorem KeyAt.set {w : World} {b : Nat} {n : Int} {s : List UInt8} {k : Nat} (h : KeyAt w b n s k) (hk : k < 8) : KeyAt (w.setCell ⟨b, 1 + k, none⟩ (.int .u8 (at0 s k))) b n s (k + 1) := by
  have := Grid.set h (1 + k) 0 (by omega) (by omega) (.int .u8 (at0 s k))
  rw [Nat.mul_one, Nat.add_zero] at this
  refine Grid.ext this fun i hi j hj => ?_
  unfold upd keyPart upto
  by_cases e : i = 1 + k ∧ j = 0
  · rw [if_pos e, if_neg (by omega), if_pos (by omega)]
    congr 2; omega
  · rw [if_neg e]
    show Value.int .u8 (if i = 0 then n else if i - 1 < k then at0 s (i - 1) else 0) = _
    by_cases h0 : i = 0
    · rw [if_pos h0, if_pos h0]
    · rw [if_neg h0, if_neg h0]
      by_cases h1 : i - 1 < k
      · rw [if_pos h1, if_pos (by omega)]
      · rw [if_neg h1, if_neg (by omega)]
theorem upto_end (s : List UInt8) (i : Nat) : upto s s.length i = at0 s i := by
  unfold upto
  split
  · rfl
  · unfold at0
    rw [List.getD_eq_getElem?_getD, List.getElem?_eq_none (by omega)]
    rfl
theorem upto_zero (s : List UInt8) (i : Nat) : upto s 0 i = 0 := by unfold upto; rw [if_neg (by omega)]
theorem at0_in (s : List UInt8) (i : Nat) : 0 ≤ at0 s i ∧ at0 s i ≤ 255 := by
  have : (s.getD i 0).toNat < 256 := UInt8.toNat_lt _
  unfold at0; omega
theorem letters_succ (n : Int) (s : List UInt8) (k : Nat) (hk : k < s.length) : lettersB n (s.take (k + 1)) = (lettersB n (s.take k) && letterZ n (at0 s k)) := by
  unfold lettersB at0
  rw [List.take_succ_eq_append_getElem hk, List.all_append]
  simp [List.getElem?_eq_getElem hk]
theorem letters_stop (n : Int) (s : List UInt8) (k : Nat) (hk : k < s.length) (h : letterZ n (at0 s k) = false) : lettersB n s = false := by
  unfold lettersB
  rw [List.all_eq_false]
  refine ⟨s[k], List.getElem_mem hk, ?_⟩
  unfold at0 at h
  rw [List.getD_eq_getElem?_getD, List.getElem?_eq_getElem hk] at h
  simpa using h
theorem str_at (s : List UInt8) (k : Nat) (hk : k < s.length) (w : World) : (Instr.index 9 (.string (bs s)) (.int .i64 (k : Nat))).run Tryz.prog w = .ok (.int .u8 (at0 s k)) w := by
  have h2 : k < (bs s).size := by rw [bs_size]; exact hk
  rw [run_index_string w _ (bs s) .i64 k Tryz.underlying9, dif_pos (by omega)]
  simp only [Int.toNat_natCast]
  unfold at0
  rw [List.getD_eq_getElem?_getD, List.getElem?_eq_getElem hk]
  rfl
/-- What codeOf answers. -/
def codeV (n : Int) (s : List UInt8) : Value := .tuple #[keyV (if codeB n s then keyOf n s else noKey), .bool (codeB n s)]

theorem key_end (n : Int) (s : List UInt8) : keyV (keyOf n s) = .agg #[.int .u8 n, .int .u8 (upto s s.length 0), .int .u8 (upto s s.length 1), .int .u8 (upto s s.length 2), .int .u8 (upto s s.length 3), .int .u8 (upto s s.length 4), .int .u8 (upto s s.length 5), .int .u8 (upto s s.length 6), .int .u8 (upto s s.length 7)] := by
  simp only [upto_end]
  rfl

end Go.Proofs.YthofogokpolhdaaGreatDoor.Atoms

namespace Go.Proofs.YthofogokpolhdaaGreatDoor.Atoms
open Go.RowKit
set_option linter.unusedVariables false
set_option linter.unusedSimpArgs false

end Go.Proofs.YthofogokpolhdaaGreatDoor.Atoms

namespace Go.Proofs.YthofogokpolhdaaGreatDoor.Atoms
open Go.RowKit
set_option linter.unusedVariables false
set_option linter.unusedSimpArgs false

/-- All but the block M is as it was. -/
structure But (M : Nat) (w w' : World) : Prop where
  os : w'.os = w.os
  tape : w'.tape = w.tape
  output : w'.output = w.output
  size : w.heap.size ≤ w'.heap.size
  block : ∀ k, k < w.heap.size → k ≠ M → w'.heap[k]? = w.heap[k]?
theorem But.refl (M : Nat) (w : World) : But M w w := ⟨rfl, rfl, rfl, Nat.le_refl _, fun _ _ _ => rfl⟩
theorem But.trans {M : Nat} {a b c : World} (h : But M a b) (k : But M b c) : But M a c :=
  ⟨k.os.trans h.os, k.tape.trans h.tape, k.output.trans h.output, Nat.le_trans h.size k.size, fun i hi hM => (k.block i (by have := h.size; omega) hM).trans (h.block i hi hM)⟩
theorem But.of {M : Nat} {w w' : World} (h : Below w.heap.size w w') : But M w w' := ⟨h.os, h.tape, h.output, h.size, fun k hk _ => h.block k hk⟩
theorem But.put (M : Nat) (w : World) (o : Obj) : But M w (w.putObj M o) := ⟨rfl, rfl, rfl, by simp [World.putObj], fun k _ hM => World.putObj_heap_other hM⟩
theorem But.alloc {M : Nat} {w w' : World} (h : But M w w') (o : Obj) : But M w (w'.alloc o) := h.trans (But.of ((Below.refl _ _).alloc (Nat.le_refl _) o))
theorem But.below {M B : Nat} {w w' : World} (h : But M w w') (hB : B ≤ w.heap.size) (hM : B ≤ M) : Below B w w' := ⟨h.os, h.tape, h.output, h.size, fun k hk => h.block k (by omega) (by omega)⟩
theorem But.grid {M : Nat} {w w' : World} (h : But M w w') {b k n : Nat} {f : Nat → Nat → Value} (hg : Grid w b k n f) (hb : b ≠ M) : Grid w' b k n f := hg.block h.size (h.block b hg.2.2 hb)

/-- The five codes. -/
structure C5 where
  c0 : List UInt8
  c1 : List UInt8
  c2 : List UInt8
  c3 : List UInt8
  c4 : List UInt8
def C5.l (c : C5) : List (List UInt8) := [c.c0, c.c1, c.c2, c.c3, c.c4]
def C5.get (c : C5) (i : Nat) : List UInt8 := c.l.getD i []
def C5.cs (c : C5) : Array Value := #[.string (bs c.c0), .string (bs c.c1), .string (bs c.c2), .string (bs c.c3), .string (bs c.c4)]
/-- No text is longer than may be. -/
def C5.Fine (c : C5) : Prop := ∀ i, (c.get i).length ≤ 9223372036854775807
theorem five {p : Nat → Prop} (h0 : p 0) (h1 : p 1) (h2 : p 2) (h3 : p 3) (h4 : p 4) : ∀ i, i < 5 → p i := by
  intro i hi
  match i, hi with
  | 0, _ => exact h0
  | 1, _ => exact h1
  | 2, _ => exact h2
  | 3, _ => exact h3
  | 4, _ => exact h4
theorem s0 (a b c d e : Value) (w : World) : (Instr.index 131 (.agg #[a, b, c, d, e]) (.int .i64 0)).run Tryz.prog w = .ok a w := by kernel_rfl
theorem s1 (a b c d e : Value) (w : World) : (Instr.index 131 (.agg #[a, b, c, d, e]) (.int .i64 1)).run Tryz.prog w = .ok b w := by kernel_rfl
theorem s2 (a b c d e : Value) (w : World) : (Instr.index 131 (.agg #[a, b, c, d, e]) (.int .i64 2)).run Tryz.prog w = .ok c w := by kernel_rfl
theorem s3 (a b c d e : Value) (w : World) : (Instr.index 131 (.agg #[a, b, c, d, e]) (.int .i64 3)).run Tryz.prog w = .ok d w := by kernel_rfl
theorem s4 (a b c d e : Value) (w : World) : (Instr.index 131 (.agg #[a, b, c, d, e]) (.int .i64 4)).run Tryz.prog w = .ok e w := by kernel_rfl
theorem code_at (c : C5) (w : World) : ∀ i, i < 5 → (Instr.index 131 (.agg #[.string (bs c.c0), .string (bs c.c1), .string (bs c.c2), .string (bs c.c3), .string (bs c.c4)]) (.int .i64 (i : Nat))).run Tryz.prog w = .ok (.string (bs (c.get i))) w :=
  five (s0 _ _ _ _ _ _) (s1 _ _ _ _ _ _) (s2 _ _ _ _ _ _) (s3 _ _ _ _ _ _) (s4 _ _ _ _ _ _)
theorem drop5 (c : C5) : ∀ i, i < 5 → c.l.drop i = c.get i :: c.l.drop (i + 1) := five rfl rfl rfl rfl rfl
theorem add_skip (K : List (List Int)) (c : C5) (i : Nat) (hi : i < 5) (h : c.get i = []) : addFrom K ((i : Int) + 1) (c.l.drop i) = addFrom K (((i + 1 : Nat) : Int) + 1) (c.l.drop (i + 1)) := by
  rw [drop5 c i hi]
  show (if c.get i = [] then _ else _) = _
  rw [if_pos h]
  congr 1
theorem add_one (K : List (List Int)) (c : C5) (i : Nat) (hi : i < 5) (h : c.get i ≠ []) (hc : codeB ((i : Int) + 1) (c.get i) = true) (hm : keyOf ((i : Int) + 1) (c.get i) ∉ K) :
    addFrom K ((i : Int) + 1) (c.l.drop i) = addFrom (K ++ [keyOf ((i : Int) + 1) (c.get i)]) (((i + 1 : Nat) : Int) + 1) (c.l.drop (i + 1)) := by
  rw [drop5 c i hi]
  show (if c.get i = [] then _ else _) = _
  rw [if_neg h, if_pos ⟨hc, hm⟩]
  congr 1
theorem add_none (K : List (List Int)) (c : C5) (i : Nat) (hi : i < 5) (h : c.get i ≠ []) (hc : codeB ((i : Int) + 1) (c.get i) = false ∨ keyOf ((i : Int) + 1) (c.get i) ∈ K) : addFrom K ((i : Int) + 1) (c.l.drop i) = none := by
  rw [drop5 c i hi]
  show (if c.get i = [] then _ else _) = _
  rw [if_neg h, if_neg]
  rintro ⟨h1, h2⟩
  rcases hc with hc | hc
  · rw [hc] at h1; cases h1
  · exact h2 hc
theorem key_len (n : Int) (s : List UInt8) : (keyOf n s).length = 9 := rfl

theorem bs_toList (l : List UInt8) : (bs l).toList = l := by rw [ByteArray.toList_eq]; rfl
theorem bs_none : (bs []).toList.isEmpty = true := by rw [bs_toList]; rfl
theorem bs_some {l : List UInt8} (h : l ≠ []) : (bs l).toList.isEmpty = false := by
  rw [bs_toList]
  cases l with
  | nil => exact absurd rfl h
  | cons a l => rfl

end Go.Proofs.YthofogokpolhdaaGreatDoor.Atoms


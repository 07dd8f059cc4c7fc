/-
  Contract of (atoms.seen).add: the codes of one more row; all but the map stays as it was.
-/
import Derived.Test.YteakgagjacjhiaaA3
namespace Go.Proofs.Yteakgagjacjhiaa.Atoms
open Go.RowKit
set_option linter.unusedVariables false
set_option linter.unusedSimpArgs false

/-- All but the block M is as it was. -/
structure But (M : Nat) (w w' : World) : Prop where
  os : w'.os = w.os
  tape : w'.tape = w.tape
  output : w'.output = w.output
  size : w.heap.size ≤ w'.heap.size
  block : ∀ k, k < w.heap.size → k ≠ M → w'.heap[k]? = w.heap[k]?
theorem But.refl (M : Nat) (w : World) : But M w w := ⟨rfl, rfl, rfl, Nat.le_refl _, fun _ _ _ => rfl⟩
theorem But.trans {M : Nat} {a b c : World} (h : But M a b) (k : But M b c) : But M a c :=
  ⟨k.os.trans h.os, k.tape.trans h.tape, k.output.trans h.output, Nat.le_trans h.size k.size, fun i hi hM => (k.block i (by have := h.size; omega) hM).trans (h.block i hi hM)⟩
theorem But.of {M : Nat} {w w' : World} (h : Below w.heap.size w w') : But M w w' := ⟨h.os, h.tape, h.output, h.size, fun k hk _ => h.block k hk⟩
theorem But.put (M : Nat) (w : World) (o : Obj) : But M w (w.putObj M o) := ⟨rfl, rfl, rfl, by simp [World.putObj], fun k _ hM => World.putObj_heap_other hM⟩
theorem But.alloc {M : Nat} {w w' : World} (h : But M w w') (o : Obj) : But M w (w'.alloc o) := h.trans (But.of ((Below.refl _ _).alloc (Nat.le_refl _) o))
theorem But.below {M B : Nat} {w w' : World} (h : But M w w') (hB : B ≤ w.heap.size) (hM : B ≤ M) : Below B w w' := ⟨h.os, h.tape, h.output, h.size, fun k hk => h.block k (by omega) (by omega)⟩
theorem But.grid {M : Nat} {w w' : World} (h : But M w w') {b k n : Nat} {f : Nat → Nat → Value} (hg : Grid w b k n f) (hb : b ≠ M) : Grid w' b k n f := hg.block h.size (h.block b hg.2.2 hb)

/-- The five codes. -/
structure C5 where
  c0 : List UInt8
  c1 : List UInt8
  c2 : List UInt8
  c3 : List UInt8
  c4 : List UInt8
def C5.l (c : C5) : List (List UInt8) := [c.c0, c.c1, c.c2, c.c3, c.c4]
def C5.get (c : C5) (i : Nat) : List UInt8 := c.l.getD i []
def C5.cs (c : C5) : Array Value := #[.string (bs c.c0), .string (bs c.c1), .string (bs c.c2), .string (bs c.c3), .string (bs c.c4)]
/-- No text is longer than may be. -/
def C5.Fine (c : C5) : Prop := ∀ i, (c.get i).length ≤ 9223372036854775807
theorem five {p : Nat → Prop} (h0 : p 0) (h1 : p 1) (h2 : p 2) (h3 : p 3) (h4 : p 4) : ∀ i, i < 5 → p i := by
  intro i hi
  match i, hi with
  | 0, _ => exact h0
  | 1, _ => exact h1
  | 2, _ => exact h2
  | 3, _ => exact h3
  | 4, _ => exact h4
theorem s0 (a b c d e : Value) (w : World) : (Instr.index 77 (.agg #[a, b, c, d, e]) (.int .i64 0)).run Try.prog w = .ok a w := by kernel_rfl
theorem s1 (a b c d e : Value) (w : World) : (Instr.index 77 (.agg #[a, b, c, d, e]) (.int .i64 1)).run Try.prog w = .ok b w := by kernel_rfl
theorem s2 (a b c d e : Value) (w : World) : (Instr.index 77 (.agg #[a, b, c, d, e]) (.int .i64 2)).run Try.prog w = .ok c w := by kernel_rfl
theorem s3 (a b c d e : Value) (w : World) : (Instr.index 77 (.agg #[a, b, c, d, e]) (.int .i64 3)).run Try.prog w = .ok d w := by kernel_rfl
theorem s4 (a b c d e : Value) (w : World) : (Instr.index 77 (.agg #[a, b, c, d, e]) (.int .i64 4)).run Try.prog w = .ok e w := by kernel_rfl
theorem code_at (c : C5) (w : World) : ∀ i, i < 5 → (Instr.index 77 (.agg #[.string (bs c.c0), .string (bs c.c1), .string (bs c.c2), .string (bs c.c3), .string (bs c.c4)]) (.int .i64 (i : Nat))).run Try.prog w = .ok (.string (bs (c.get i))) w :=
  five (s0 _ _ _ _ _ _) (s1 _ _ _ _ _ _) (s2 _ _ _ _ _ _) (s3 _ _ _ _ _ _) (s4 _ _ _ _ _ _)
theorem drop5 (c : C5) : ∀ i, i < 5 → c.l.drop i = c.get i :: c.l.drop (i + 1) := five rfl rfl rfl rfl rfl
theorem add_skip (K : List (List Int)) (c : C5) (i : Nat) (hi : i < 5) (h : c.get i = []) : addFrom K ((i : Int) + 1) (c.l.drop i) = addFrom K (((i + 1 : Nat) : Int) + 1) (c.l.drop (i + 1)) := by
  rw [drop5 c i hi]
  show (if c.get i = [] then _ else _) = _
  rw [if_pos h]
  congr 1
theorem add_one (K : List (List Int)) (c : C5) (i : Nat) (hi : i < 5) (h : c.get i ≠ []) (hc : codeB ((i : Int) + 1) (c.get i) = true) (hm : keyOf ((i : Int) + 1) (c.get i) ∉ K) :
    addFrom K ((i : Int) + 1) (c.l.drop i) = addFrom (K ++ [keyOf ((i : Int) + 1) (c.get i)]) (((i + 1 : Nat) : Int) + 1) (c.l.drop (i + 1)) := by
  rw [drop5 c i hi]
  show (if c.get i = [] then _ else _) = _
  rw [if_neg h, if_pos ⟨hc, hm⟩]
  congr 1
theorem add_none (K : List (List Int)) (c : C5) (i : Nat) (hi : i < 5) (h : c.get i ≠ []) (hc : codeB ((i : Int) + 1) (c.get i) = false ∨ keyOf ((i : Int) + 1) (c.get i) ∈ K) : addFrom K ((i : Int) + 1) (c.l.drop i) = none := by
  rw [drop5 c i hi]
  show (if c.get i = [] then _ else _) = _
  rw [if_neg h, if_neg]
  rintro ⟨h1, h2⟩
  rcases hc with hc | hc
  · rw [hc] at h1; cases h1
  · exact h2 hc
theorem key_len (n : Int) (s : List UInt8) : (keyOf n s).length = 9 := rfl

theorem bs_toList (l : List UInt8) : (bs l).toList = l := by rw [ByteArray.toList_eq]; rfl
theorem bs_none : (bs []).toList.isEmpty = true := by rw [bs_toList]; rfl
theorem bs_some {l : List UInt8} (h : l ≠ []) : (bs l).toList.isEmpty = false := by
  rw [bs_toList]
  cases l with
  | nil => exact absurd rfl h
  | cons a l => rfl

end Go.Proofs.Yteakgagjacjhiaa.Atoms

/-
  Contract of atoms.codeOf: a text as a key, and whether it is a code.
-/
import Derived.Test.YteakgagjacjhiaaA1
namespace Go.Proofs.Yteakgagjacjhiaa.Atoms
open Go.RowKit
set_option linter.unusedVariables false
set_option linter.unusedSimpArgs false

/-- A key as far as it is made. -/
def keyPart (n : Int) (s : List UInt8) (k i : Nat) : Int := if i = 0 then n else upto s k (i - 1)
def KeyAt (w : World) (b : Nat) (n : Int) (s : List UInt8) (k : Nat) : Prop := Grid w b 1 9 (fun i _ => .int .u8 (keyPart n s k i))
theorem KeyAt.cells {w : World} {b : Nat} {n : Int} {s : List UInt8} {k : Nat} (h : KeyAt w b n s k) :
    w.cell? ⟨b, 0, none⟩ = some (.int .u8 n) ∧ w.cell? ⟨b, 1, none⟩ = some (.int .u8 (upto s k 0)) ∧ w.cell? ⟨b, 2, none⟩ = some (.int .u8 (upto s k 1)) ∧ w.cell? ⟨b, 3, none⟩ = some (.int .u8 (upto s k 2))
    ∧ w.cell? ⟨b, 4, none⟩ = some (.int .u8 (upto s k 3)) ∧ w.cell? ⟨b, 5, none⟩ = some (.int .u8 (upto s k 4)) ∧ w.cell? ⟨b, 6, none⟩ = some (.int .u8 (upto s k 5)) ∧ w.cell? ⟨b, 7, none⟩ = some (.int .u8 (upto s k 6)) ∧ w.cell? ⟨b, 8, none⟩ = some (.int .u8 (upto s k 7)) :=
  ⟨h.1 0 (by omega) 0 (by omega), h.1 1 (by omega) 0 (by omega), h.1 2 (by omega) 0 (by omega), h.1 3 (by omega) 0 (by omega), h.1 4 (by omega) 0 (by omega), h.1 5 (by omega) 0 (by omega), h.1 6 (by omega) 0 (by omega), h.1 7 (by omega) 0 (by omega), h.1 8 (by omega) 0 (by omega)⟩
theorem KeyAt.set {w : World} {b : Nat} {n : Int} {s : List UInt8} {k : Nat} (h : KeyAt w b n s k) (hk : k < 8) : KeyAt (w.setCell ⟨b, 1 + k, none⟩ (.int .u8 (at0 s k))) b n s (k + 1) := by
  have := Grid.set h (1 + k) 0 (by omega) (by omega) (.int .u8 (at0 s k))
  rw [Nat.mul_one, Nat.add_zero] at this
  refine Grid.ext this fun i hi j hj => ?_
  unfold upd keyPart upto
  by_cases e : i = 1 + k ∧ j = 0
  · rw [if_pos e, if_neg (by omega), if_pos (by omega)]
    congr 2; omega
  · rw [if_neg e]
    show Value.int .u8 (if i = 0 then n else if i - 1 < k then at0 s (i - 1) else 0) = _
    by_cases h0 : i = 0
    · rw [if_pos h0, if_pos h0]
    · rw [if_neg h0, if_neg h0]
      by_cases h1 : i - 1 < k
      · rw [if_pos h1, if_pos (by omega)]
      · rw [if_neg h1, if_neg (by omega)]
theorem upto_end (s : List UInt8) (i : Nat) : upto s s.length i = at0 s i := by
  unfold upto
  split
  · rfl
  · unfold at0
    rw [List.getD_eq_getElem?_getD, List.getElem?_eq_none (by omega)]
    rfl
theorem upto_zero (s : List UInt8) (i : Nat) : upto s 0 i = 0 := by unfold upto; rw [if_neg (by omega)]
theorem at0_in (s : List UInt8) (i : Nat) : 0 ≤ at0 s i ∧ at0 s i ≤ 255 := by
  have : (s.getD i 0).toNat < 256 := UInt8.toNat_lt _
  unfold at0; omega
theorem letters_succ (n : Int) (s : List UInt8) (k : Nat) (hk : k < s.length) : lettersB n (s.take (k + 1)) = (lettersB n (s.take k) && letterZ n (at0 s k)) := by
  unfold lettersB at0
  rw [List.take_succ_eq_append_getElem hk, List.all_append]
  simp [List.getElem?_eq_getElem hk]
theorem letters_stop (n : Int) (s : List UInt8) (k : Nat) (hk : k < s.length) (h : letterZ n (at0 s k) = false) : lettersB n s = false := by
  unfold lettersB
  rw [List.all_eq_false]
  refine ⟨s[k], List.getElem_mem hk, ?_⟩
  unfold at0 at h
  rw [List.getD_eq_getElem?_getD, List.getElem?_eq_getElem hk] at h
  simpa using h
theorem str_at (s : List UInt8) (k : Nat) (hk : k < s.length) (w : World) : (Instr.index 9 (.string (bs s)) (.int .i64 (k : Nat))).run Try.prog w = .ok (.int .u8 (at0 s k)) w := by
  have h2 : k < (bs s).size := by rw [bs_size]; exact hk
  rw [run_index_string w _ (bs s) .i64 k Try.underlying9, dif_pos (by omega)]
  simp only [Int.toNat_natCast]
  unfold at0
  rw [List.getD_eq_getElem?_getD, List.getElem?_eq_getElem hk]
  rfl
/-- What codeOf answers. -/
def codeV (n : Int) (s : List UInt8) : Value := .tuple #[keyV (if codeB n s then keyOf n s else noKey), .bool (codeB n s)]

theorem key_end (n : Int) (s : List UInt8) : keyV (keyOf n s) = .agg #[.int .u8 n, .int .u8 (upto s s.length 0), .int .u8 (upto s s.length 1), .int .u8 (upto s s.length 2), .int .u8 (upto s s.length 3), .int .u8 (upto s s.length 4), .int .u8 (upto s s.length 5), .int .u8 (upto s s.length 6), .int .u8 (upto s s.length 7)] := by
  simp only [upto_end]
  rfl

end Go.Proofs.Yteakgagjacjhiaa.Atoms

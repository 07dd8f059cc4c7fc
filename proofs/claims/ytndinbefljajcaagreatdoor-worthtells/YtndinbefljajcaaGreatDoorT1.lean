/-
  Contracts of the document's digits and signed: a number's numeral; the world below stays as it was.
-/
import Derived.Test.YtndinbefljajcaaGreatDoorTM
import Derived.Test.YtndinbefljajcaaGreatDoorFA
import Derived.Laws.BytesArg
import Derived.Lib.ItoaLen
namespace Go.Proofs.YtndinbefljajcaaGreatDoor.Texts
open Go.RowKit
open Go.Proofs.YtndinbefljajcaaGreatDoor.Whole
open Go.Proofs.YtndinbefljajcaaGreatDoor.Frac
set_option linter.unusedVariables false
set_option linter.unusedSimpArgs false

/-- Bytes as the model's string. -/
def bs (l : List UInt8) : ByteArray := ⟨l.toArray⟩

theorem bs_app (a b : List UInt8) : bs a ++ bs b = bs (a ++ b) := by
  apply ByteArray.ext
  simp [bs]

/-- A string of one byte, of a slice that was just made. -/
theorem one_byte (w : World) (x : Int) : (convert 88 9 (.slice (some ⟨w.heap.size, 0, none⟩) 1 1)).run Tryz.prog (w.alloc (.cells #[.int .u8 x] 5)) = .ok (.string (bs [UInt8.ofNat x.toNat])) (w.alloc (.cells #[.int .u8 x] 5)) := by
  refine run_convert_bytes_arg _ 88 5 (by kernel_rfl) (by kernel_rfl) w.heap.size 0 1 1 [x] rfl ?_ 9 (by kernel_rfl)
  intro i hi
  have h0 : i = 0 := by omega
  subst h0
  simp [go_sem]

theorem dec_len (n : Nat) (h : n ≤ 9223372036854775807) : (Lib.decDigits n).length ≤ 21 := by
  have := Lib.itoa_length_le (n : Int) (by omega) (by omega)
  rwa [Lib.itoa_nonneg] at this

theorem dec_step (m : Nat) (h : ¬ m < 10) : Lib.decDigits m = Lib.decDigits (m / 10) ++ [UInt8.ofNat (48 + m % 10)] := by
  rw [Lib.decDigits, dif_neg h]

set_option maxRecDepth 100000 in
set_option maxHeartbeats 1000000 in
theorem digits_any (n : Nat) (w : World) (h : n ≤ 9223372036854775807) :
    Calls Tryz.prog 83 #[.int .i64 n] w fun e w' => e = .returned (.string (bs (Lib.decDigits n))) ∧ Below w.heap.size w w' := by
  have ob := one_byte
  go_enter Tryz.func83, Tryz.ntmps83
  go_wp2
  go_loopw [0, 3] (fun a b v => ∃ (m : Nat) (s : List UInt8), a = .int .i64 m ∧ b = .string (bs s) ∧ m ≤ 9223372036854775807 ∧ Hid (Lib.decDigits m ++ s = Lib.decDigits n) ∧ Below w.heap.size w v) (fun a _ _ => (intOf a).toNat)
  case atStart => exact ⟨n, [], rfl, rfl, h, by show _ ++ [] = _; rw [List.append_nil], Below.refl _ _⟩
  case round =>
    obtain ⟨m, s, rfl, rfl, hm, hg, hB⟩ := hrel
    have hs := hB.size
    have z2 : (bs s).size ≤ 40 := by
      have h1 := congrArg List.length hg.out
      have h2 := dec_len n h
      rw [List.length_append] at h1
      show s.toArray.size ≤ 40
      rw [List.size_toArray]; omega
    by_cases hz : m < 10
    · have z1 : (bs [48 + UInt8.ofNat m]).size = 1 := rfl
      go_wp2
      refine bodyPost_ret (v := .string (bs [48 + UInt8.ofNat m] ++ bs s)) (by simp [results, Tryz.results83, go_sem]) rfl ⟨?_, by go_grown⟩
      rw [bs_app, ← hg.out, Lib.decDigits_one hz, UInt8.ofNat_add]
      rfl
    · have hb : ¬ ((m : Int) < 10) := by omega
      have z1 : (bs [48 + UInt8.ofNat (m % 10)]).size = 1 := rfl
      go_wp2
      refine ⟨⟨m / 10, UInt8.ofNat (48 + m % 10) :: s, rfl, ?_, by omega, ?_, by go_grown⟩, ?_⟩
      · rw [bs_app, UInt8.ofNat_add]; rfl
      · show Lib.decDigits (m / 10) ++ _ = _
        rw [← hg.out, dec_step m hz]; simp
      · simp only [intOf]; omega

set_option maxRecDepth 100000 in
set_option maxHeartbeats 1000000 in
theorem signed_any (n : Int) (w : World) (h0 : -9223372036854775807 ≤ n) (h : n ≤ 9223372036854775807) :
    Calls Tryz.prog 82 #[.int .i64 n] w fun e w' => e = .returned (.string (bs (Lib.itoa n))) ∧ Below w.heap.size w w' := by
  by_cases hn : n < 0
  · have hl : Lib.itoa n = 45 :: Lib.decDigits n.natAbs := by unfold Lib.itoa; rw [if_pos hn]
    have z2 : (bs (Lib.decDigits n.natAbs)).size ≤ 40 := by
      have h2 := dec_len n.natAbs (by omega)
      show (Lib.decDigits n.natAbs).toArray.size ≤ 40
      rw [List.size_toArray]; omega
    have z1 : (ByteArray.mk #[45]).size = 1 := rfl
    have hc : (0 : Int) - n = (n.natAbs : Int) := by omega
    have hc' : -n = (n.natAbs : Int) := by omega
    go_enter Tryz.func82, Tryz.ntmps82
    go_wp2_with fail
    refine (digits_any n.natAbs w (by omega)).mono ?_
    rintro e w1 ⟨rfl, hb⟩
    go_wp2
    refine bodyPost_ret (v := .string (bs [45] ++ bs (Lib.decDigits n.natAbs))) (by simp [results, Tryz.results82, go_sem, bs]) rfl ⟨?_, hb⟩
    rw [bs_app, hl]; rfl
  · have hl : Lib.itoa n = Lib.decDigits n.natAbs := by
      unfold Lib.itoa; rw [if_neg hn]; congr 1; omega
    have hc : n = (n.natAbs : Int) := by omega
    generalize n.natAbs = m at *
    subst hc
    go_enter Tryz.func82, Tryz.ntmps82
    go_wp2_with fail
    refine (digits_any m w (by omega)).mono ?_
    rintro e w1 ⟨rfl, hb⟩
    go_wp2
    refine bodyPost_ret (v := .string (bs (Lib.decDigits m))) (by simp [results, Tryz.results82, go_sem]) rfl ⟨?_, hb⟩
    rw [hl]

end Go.Proofs.YtndinbefljajcaaGreatDoor.Texts

/-
  Contract of the document's digits, at numbers from -99 to 99; the world below stays as it was.
-/
import Derived.Test.YtndinbefljajcaaGreatDoorQ1
import Derived.Laws.BytesArg
import Derived.Deep.RegionWith
namespace Go.Proofs.YtndinbefljajcaaGreatDoor.Dims
open Go.RowKit Go.Shelf
set_option linter.unusedVariables false
set_option linter.unusedSimpArgs false

/-- A string of one byte, of a slice whose cell holds it. -/
theorem byte_of (u : World) (b : Nat) (x : Int) (h : u.cell? ⟨b, 0, none⟩ = some (.int .u8 x)) : (convert 88 9 (.slice (some ⟨b, 0, none⟩) 1 1)).run Tryz.prog u = .ok (.string (bs [UInt8.ofNat x.toNat])) u := by
  refine run_convert_bytes_arg _ 88 5 (by kernel_rfl) (by kernel_rfl) b 0 1 1 [x] rfl ?_ 9 (by kernel_rfl)
  intro i hi
  have h0 : i = 0 := by omega
  subst h0
  exact h

set_option maxRecDepth 100000 in
set_option maxHeartbeats 1000000 in
theorem dig_one (n : Nat) (w : World) (h : n < 10) :
    Calls Tryz.prog 84 #[.int .i64 n] w fun e w' => e = .returned (.string (bs (Lib.itoa n))) ∧ w.alloc (.cells #[.int .u8 (48 + n)] 5) = w' := by
  have ob := byte_of (w.alloc (.cells #[.int .u8 (48 + n)] 5)) w.heap.size (48 + n) (by simp [go_sem])
  have hi : (n : Int) < 10 := by omega
  have HI : Hid (bs [UInt8.ofNat ((48 + n : Int)).toNat] = bs (Lib.itoa n)) := by
    show _ = _
    rw [Lib.itoa_nonneg, Lib.decDigits_one h]
    congr 3
  go_enter Tryz.func84, Tryz.ntmps84
  go_wp2
  go_ret
  exact ⟨by rw [← HI.out]; rfl, rfl⟩

theorem dec_step (m : Nat) (h : ¬ m < 10) : Lib.decDigits m = Lib.decDigits (m / 10) ++ [UInt8.ofNat (48 + m % 10)] := by
  rw [Lib.decDigits, dif_neg h]

set_option maxRecDepth 100000 in
set_option maxHeartbeats 400000 in
theorem dig_two (n m r : Nat) (w : World) (h0 : 10 ≤ n) (h1 : n ≤ 99) (hm : n / 10 = m) (hr : n % 10 = r) :
    Calls Tryz.prog 84 #[.int .i64 n] w fun e w' => e = .returned (.string (bs (Lib.itoa n))) ∧ Below w.heap.size w w' := by
  have dm : (n : Int) / 10 = (m : Int) := by omega
  have dr : (n : Int) % 10 = (r : Int) := by omega
  have dr2 : (n : Int).tmod 10 = (r : Int) := by rw [Int.tmod_eq_emod_of_nonneg (by omega)]; omega
  have hm9 : m < 10 := by omega
  have hr9 : r < 10 := by omega
  have mb0 : -9223372036854775808 ≤ (m : Int) := by omega
  have mb1 : (m : Int) ≤ 9223372036854775807 := by omega
  have mb2 : (m : Int) < 10 := by omega
  have rb0 : 0 ≤ (r : Int) := by omega
  have rb1 : (r : Int) < 10 := by omega
  have wm : IntKind.i64.wrap (m : Int) = (m : Int) := by simp [IntKind.wrap, IntKind.bits, IntKind.signed]; omega
  have wr : IntKind.i64.wrap (48 + (r : Int)) = 48 + (r : Int) := by simp [IntKind.wrap, IntKind.bits, IntKind.signed]; omega
  have wu : IntKind.u8.wrap (48 + (r : Int)) = 48 + (r : Int) := by simp [IntKind.wrap, IntKind.bits, IntKind.signed]; omega
  have hi : ¬ (n : Int) < 0 := by omega
  have hi2 : (10 : Int) ≤ (n : Int) := by omega
  have o1 := byte_of ((w.alloc (.cells #[.int .u8 (48 + m)] 5)).alloc (.cells #[.int .u8 (48 + r)] 5)).drew (w.heap.size + 1) (48 + r) (by simp [go_sem])
  have o2 := byte_of (w.alloc (.cells #[.int .u8 (48 + r)] 5)).drew w.heap.size (48 + r) (by simp [go_sem])
  have o3 := byte_of ((w.alloc (.cells #[.int .u8 (48 + r)] 5)).alloc (.cells #[.int .u8 (48 + m)] 5)).drew w.heap.size (48 + r) (by simp [go_sem])
  have HI : Hid (bs (Lib.itoa m) ++ bs [UInt8.ofNat (48 + r : Int).toNat] = bs (Lib.itoa n)) := by
    show _ = _
    rw [bs_app, Lib.itoa_nonneg, Lib.itoa_nonneg]
    rw [dec_step n (by omega), hm, hr, show ((48 + r : Int)).toNat = 48 + r by omega]
  have z1 : (bs (Lib.itoa m)).size ≤ 21 := by rw [bs_size]; exact Lib.itoa_length_le _ (by omega) (by omega)
  have z2 : ∀ x, (bs [x]).size = 1 := fun x => rfl
  go_enter Tryz.func84, Tryz.ntmps84
  go_wp2
  go_region_with
    (first | (go_at_call 84; refine (dig_one m _ hm9).mono ?_; rintro e u ⟨rfl, rfl⟩))
  all_goals
    have e8 : (48 + UInt8.ofNat r : UInt8) = UInt8.ofNat (48 + r : Int).toNat := by
      rw [show ((48 + r : Int)).toNat = 48 + r by omega, UInt8.ofNat_add]; rfl
    go_wp2
    refine bodyPost_ret (v := .string (bs (Lib.itoa m) ++ bs [48 + UInt8.ofNat r])) (by simp [results, Tryz.results84, go_sem]) rfl ⟨by rw [e8, HI.out], ?_⟩
    go_grown

/-- At numbers from 0 to 99. -/
theorem dig_pos (n : Nat) (w : World) (h : n ≤ 99) :
    Calls Tryz.prog 84 #[.int .i64 n] w fun e w' => e = .returned (.string (bs (Lib.itoa n))) ∧ Below w.heap.size w w' := by
  by_cases h0 : n < 10
  · refine (dig_one n w h0).mono ?_
    rintro e w' ⟨rfl, rfl⟩
    exact ⟨rfl, by go_grown⟩
  · exact dig_two n _ _ w (by omega) h rfl rfl

set_option maxRecDepth 100000 in
set_option maxHeartbeats 1000000 in
theorem dig_any (x : Int) (w : World) (h0 : -99 ≤ x) (h1 : x ≤ 99) :
    Calls Tryz.prog 84 #[.int .i64 x] w fun e w' => e = .returned (.string (bs (Lib.itoa x))) ∧ Below w.heap.size w w' := by
  by_cases hx : x < 0
  · obtain ⟨n, hn⟩ : ∃ n : Nat, x = -(n : Int) := ⟨x.natAbs, by omega⟩
    have hl : Lib.itoa x = 45 :: Lib.itoa n := by
      rw [Lib.itoa_nonneg]
      unfold Lib.itoa
      rw [if_pos hx, show x.natAbs = n by omega]
    have z2 : (bs (Lib.itoa n)).size ≤ 40 := by
      have := Lib.itoa_length_le (n : Int) (by omega) (by omega)
      rw [bs_size]; omega
    have z1 : (ByteArray.mk #[45]).size = 1 := rfl
    have hc : (0 : Int) - x = (n : Int) := by omega
    have hc2 : -x = (n : Int) := by omega
    have HL := Lib.hid hl
    clear hl hn
    go_enter Tryz.func84, Tryz.ntmps84
    go_wp2_with fail
    refine (dig_pos n w (by omega)).mono ?_
    rintro e w1 ⟨rfl, hb⟩
    go_wp2
    refine bodyPost_ret (v := .string (bs [45] ++ bs (Lib.itoa n))) (by simp [results, Tryz.results84, go_sem, bs]) rfl ⟨?_, hb⟩
    rw [bs_app, HL.out]; rfl
  · obtain ⟨n, rfl⟩ := Int.eq_ofNat_of_zero_le (show 0 ≤ x by omega)
    exact dig_pos n w (by omega)

end Go.Proofs.YtndinbefljajcaaGreatDoor.Dims

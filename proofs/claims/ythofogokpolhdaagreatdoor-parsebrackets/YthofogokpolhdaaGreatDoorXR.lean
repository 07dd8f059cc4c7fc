/-
  Contracts of the document's goes, number, note, Next.
-/
import Derived.Test.YthofogokpolhdaaGreatDoorX8
import Derived.Test.YthofogokpolhdaaGreatDoorY7
import Derived.Test.YthofogokpolhdaaGreatDoorY6X
namespace Go.Proofs.YthofogokpolhdaaGreatDoor.Toks
open Go.RowKit
open Go.Proofs.YthofogokpolhdaaGreatDoor.Style
open Go.Proofs.YthofogokpolhdaaGreatDoor.Texts (val isDig val_nil val_cons val_le val_app)
set_option linter.unusedVariables false
set_option linter.unusedSimpArgs false

set_option maxRecDepth 100000 in
set_option maxHeartbeats 2000000 in
theorem goes_any (n : Int) (s : List UInt8) (p : Nat) (k : Int) (w : World) (hp : p ≤ s.length) (hl : s.length ≤ 1000) :
    Calls Tryz.prog 67 #[.int .i64 n, .string (bs s), .int .i64 (p : Int), .int .i64 k] w fun e w' => e = .returned (.int .i64 (goL n k (s.drop p) : Int)) ∧ Below w.heap.size w w' := by
  have hzi : ((bs s).size : Int) = (s.length : Int) := by rw [bs_size]
  have hli : (s.length : Int) ≤ 1000 := by omega
  have hpi : (p : Int) ≤ s.length := by omega
  have hK := rkind_any n
  have hrl : p + goL n k (s.drop p) ≤ s.length := by
    have := run_le (isK n k) (s.drop p)
    rw [List.length_drop] at this
    show p + runL _ _ ≤ _
    omega
  have hR : Hid (∀ i, i ≤ goL n k (s.drop p) → p + i < s.length → ((kindZ n ((s.getD (p + i) 0).toNat : Int) == k) = true ↔ i < goL n k (s.drop p))) := by
    intro i hi hi2
    have := run_succ (isK n k) (s.drop p) i hi (by rw [List.length_drop]; omega)
    rw [show (s.drop p).getD i 0 = s.getD (p + i) 0 by rw [List.getD_eq_getElem?_getD, List.getElem?_drop, List.getD_eq_getElem?_getD]] at this
    exact this
  generalize goL n k (s.drop p) = m at *
  go_enter Tryz.func67, Tryz.ntmps67
  go_wp2_with fail
  go_loopw [9] (fun x wr => ∃ i : Nat, x = .int .i64 i ∧ i ≤ m ∧ Below w.heap.size w wr) (fun x _ => (s.length - p - intOf x).toNat)
  case atStart => exact ⟨0, rfl, by omega, Below.refl _ _⟩
  case round =>
    obtain ⟨i, rfl, hi, hB⟩ := hrel
    by_cases hil : p + i < s.length
    · have hr := hR.out i hi hil
      have hii : (p : Int) + (i : Int) < s.length := by omega
      have hib : p + i < (bs s).size := by rw [bs_size]; exact hil
      obtain ⟨c, hc⟩ : ∃ c, s.getD (p + i) 0 = c := ⟨_, rfl⟩
      have hcb : (bs s)[p + i] = c := (bs_at s (p + i) hib).trans hc
      rw [hc] at hr
      have HR := Lib.hid hr
      clear hr hc
      have hc1 : (c.toNat : Int) ≤ 255 := by have := c.toNat_lt; omega
      go_wp2_with fail
      refine (hK (c.toNat : Int) wr (by omega) hc1).mono ?_
      rintro e w2 ⟨rfl, hb2⟩
      generalize kindZ n (c.toNat : Int) = z at *
      cases e : (z == k) with
      | true =>
        have HI := HR.out.1 e
        clear HR
        go_wp2
        go_roundw
        case rel => exact ⟨i + 1, rfl, by omega, hB.trans (hb2.mono hB.size)⟩
        case measure => simp only [intOf]; omega
      | false =>
        have HI : Hid (i = m) := by
          show _ = _
          rcases Nat.lt_or_ge i m with h | h
          · rw [HR.out.2 h] at e; cases e
          · omega
        clear HR
        go_wp2
        go_ret
        exact ⟨by rw [HI.out]; rfl, hB.trans (hb2.mono hB.size)⟩
    · have hii : ¬ (p : Int) + (i : Int) < s.length := by omega
      have him : i = m := by omega
      subst him
      go_wp2
      go_ret
      exact ⟨rfl, hB⟩

/-- The number of digits, from a place on; over: it is too great. -/
theorem val_step (l : List UInt8) (c : UInt8) (acc : Nat) : val acc (l ++ [c]) = val acc l * 10 + (c.toNat - 48) := by rw [val_app, val_cons, val_nil]
theorem val_mono (l : List UInt8) (k : Nat) : val 0 (l.take k) ≤ val 0 l := by
  have h : val 0 l = val (val 0 (l.take k)) (l.drop k) := by rw [← val_app, List.take_append_drop]
  rw [h]; exact val_le _ _

set_option maxRecDepth 100000 in
set_option maxHeartbeats 2000000 in
theorem number_any (l : List UInt8) (w : World) (hd : ∀ c ∈ l, isDig c) (hl : l.length ≤ 1000) :
    Calls Tryz.prog 69 #[.string (bs l)] w fun e w' => e = .returned (if val 0 l ≤ 9223372036854775807 then .agg #[.int .i64 (val 0 l : Int), .bool true] else .agg #[.int .i64 0, .bool false]) ∧ Below w.heap.size w w' := by
  have hzi : ((bs l).size : Int) = (l.length : Int) := by rw [bs_size]
  have hli : (l.length : Int) ≤ 1000 := by omega
  have HD : Hid (∀ i, i < l.length → isDig (l.getD i 0)) := fun i hi => hd _ (by rw [getD_at l i hi]; exact List.getElem_mem _)
  have HV : Hid (∀ i, i < l.length → val 0 (l.take (i + 1)) = val 0 (l.take i) * 10 + ((l.getD i 0).toNat - 48)) := fun i hi => by
    rw [List.take_succ_eq_append_getElem hi, val_step, getD_at l i hi]
  have HM : Hid (∀ i, val 0 (l.take i) ≤ val 0 l) := fun i => val_mono l i
  clear hd
  obtain ⟨R, hR⟩ : ∃ R : Value, (if val 0 l ≤ 9223372036854775807 then Value.agg #[.int .i64 (val 0 l : Int), .bool true] else Value.agg #[.int .i64 0, .bool false]) = R := ⟨_, rfl⟩
  rw [hR]
  have HR := Lib.hid hR
  clear hR
  have hu : Below w.heap.size w (w.alloc (.cells #[.int .i64 0, .bool false] 123)) := by go_grown
  go_enter Tryz.func69, Tryz.ntmps69
  go_wp2_with fail
  go_loopw [3, 4] (fun a b wr => ∃ i : Nat, a = .int .i64 (val 0 (l.take i) : Int) ∧ b = .int .i64 i ∧ i ≤ l.length ∧ val 0 (l.take i) ≤ 9223372036854775807 ∧ w.alloc (.cells #[.int .i64 0, .bool false] 123) = wr) (fun _ b _ => (l.length - intOf b).toNat)
  case atStart => exact ⟨0, by rw [List.take_zero, val_nil]; rfl, rfl, by omega, by rw [List.take_zero, val_nil]; omega, rfl⟩
  case round =>
    obtain ⟨i, rfl, rfl, hi, hv, rfl⟩ := hrel
    by_cases hil : i < l.length
    · have hii : (i : Int) < l.length := by omega
      have hib : i < (bs l).size := by rw [bs_size]; exact hil
      have hdg := HD.out i hil
      have hvs := HV.out i hil
      have hm := HM.out (i + 1)
      obtain ⟨c, hc⟩ : ∃ c, l.getD i 0 = c := ⟨_, rfl⟩
      have hcb : (bs l)[i] = c := (bs_at l i hib).trans hc
      rw [hc] at hdg hvs
      unfold isDig at hdg
      obtain ⟨dn, hdn⟩ : ∃ dn, c.toNat - 48 = dn := ⟨_, rfl⟩
      have hci : (c.toNat : Int) = (dn : Int) + 48 := by omega
      have hd9 : dn ≤ 9 := by omega
      have hd9i : (dn : Int) ≤ 9 := by omega
      rw [hdn] at hvs
      generalize val 0 (l.take i) = V at *
      have hVi : (V : Int) ≤ 9223372036854775807 := by omega
      have hwd : IntKind.u8.wrap ((dn : Int) + 48 - 48) = (dn : Int) := by unfold IntKind.wrap; simp [IntKind.bits, IntKind.signed]; omega
      have hq : (9223372036854775807 - (dn : Int)).tdiv 10 = (9223372036854775807 - (dn : Int)) / 10 := Int.tdiv_eq_ediv_of_nonneg (by omega)
      have HVS := Lib.hid hvs
      have HM1 := Lib.hid hm
      clear hc hdn hdg hvs hm
      by_cases hov : V * 10 + dn ≤ 9223372036854775807
      · have hle : ¬ ((9223372036854775807 - (dn : Int)) / 10 < (V : Int)) := by omega
        go_wp2
        refine ⟨⟨i + 1, ?_, rfl, by omega, by rw [HVS.out]; exact hov, trivial⟩, by simp only [intOf]; omega⟩
        rw [HVS.out]; first | rfl | simp
      · have hlt : (9223372036854775807 - (dn : Int)) / 10 < (V : Int) := by omega
        have HE : Hid (¬ val 0 l ≤ 9223372036854775807) := by
          have h1 := HVS.out
          have h2 := HM1.out
          show ¬ _
          omega
        go_wp2
        refine bodyPost_ret (v := .agg #[.int .i64 0, .bool false]) (by simp [results, Tryz.results69, go_sem]) rfl ⟨by rw [← HR.out, if_neg HE.out], ?_⟩
        go_grown
    · have hii : ¬ (i : Int) < l.length := by omega
      have HE : Hid (l.take i = l) := by show _ = _; exact List.take_of_length_le (by omega)
      rw [HE.out] at hv
      rw [HE.out]
      generalize val 0 l = V at *
      go_wp2
      refine bodyPost_ret (v := .agg #[.int .i64 (V : Int), .bool true]) (by simp [results, Tryz.results69, go_sem]) rfl ⟨by rw [← HR.out, if_pos hv], ?_⟩
      go_grown

end Go.Proofs.YthofogokpolhdaaGreatDoor.Toks

/-
  Contracts of tree.takes, bracketed, isPlain, isSymbol, and of the document's Takes.
-/
import Derived.Test.YteakgagjacjhiaaXG
import Derived.Test.YteakgagjacjhiaaUA
import Derived.Test.YteakgagjacjhiaaAX
import Derived.BigQuiet
import Derived.Deep.QuietTactic
import Derived.Deep.RegionHeld3
namespace Go.Proofs.Yteakgagjacjhiaa.Trees
open Go.RowKit Go.Shelf
open Go.Proofs.Yteakgagjacjhiaa.Style (bs bs_size bs_at getD_at bs_of)
open Go.Proofs.Yteakgagjacjhiaa.Toks (Grid SliceAt Spare Above cell_lt cell_same)
set_option linter.unusedVariables false
set_option linter.unusedSimpArgs false

theorem takes_any (op : Int) (w : World) : Calls Try.prog 27 #[.int .i64 op] w fun e w' => e = .returned (.int .i64 (takesZ op : Int)) ∧ w = w' := by
  unfold takesZ
  by_cases h3 : op = 3
  · subst h3; go_enter Try.func27, Try.ntmps27; go_wp2; go_ret; exact ⟨rfl, rfl⟩
  by_cases h4 : op = 4
  · subst h4; go_enter Try.func27, Try.ntmps27; go_wp2; go_ret; exact ⟨rfl, rfl⟩
  by_cases h5 : op = 5
  · subst h5; go_enter Try.func27, Try.ntmps27; go_wp2; go_ret; exact ⟨rfl, rfl⟩
  by_cases h6 : op = 6
  · subst h6; go_enter Try.func27, Try.ntmps27; go_wp2; go_ret; exact ⟨rfl, rfl⟩
  rw [if_neg (by omega), if_neg (by omega)]
  go_enter Try.func27, Try.ntmps27
  go_wp2
  go_ret
  exact ⟨rfl, rfl⟩

theorem rtakes_any (op : Int) (w : World) : Calls Try.prog 38 #[.int .i64 op] w fun e w' => e = .returned (.int .i64 (takesZ op : Int)) ∧ w = w' := by
  unfold takesZ
  by_cases h3 : op = 3
  · subst h3; go_enter Try.func38, Try.ntmps38; go_wp2; go_ret; exact ⟨rfl, rfl⟩
  by_cases h4 : op = 4
  · subst h4; go_enter Try.func38, Try.ntmps38; go_wp2; go_ret; exact ⟨rfl, rfl⟩
  by_cases h5 : op = 5
  · subst h5; go_enter Try.func38, Try.ntmps38; go_wp2; go_ret; exact ⟨rfl, rfl⟩
  by_cases h6 : op = 6
  · subst h6; go_enter Try.func38, Try.ntmps38; go_wp2; go_ret; exact ⟨rfl, rfl⟩
  rw [if_neg (by omega), if_neg (by omega)]
  go_enter Try.func38, Try.ntmps38
  go_wp2
  go_ret
  exact ⟨rfl, rfl⟩

theorem brk_any (over op : Int) (w : World) : Calls Try.prog 49 #[.int .i64 over, .int .i64 op] w fun e w' => e = .returned (.bool (brkZ over op)) ∧ w = w' := by
  unfold brkZ
  by_cases h3 : op = 3
  · subst h3; go_enter Try.func49, Try.ntmps49; go_wp2; go_ret; exact ⟨by simp, rfl⟩
  by_cases h4 : op = 4
  · subst h4; go_enter Try.func49, Try.ntmps49; go_wp2; go_ret; exact ⟨by simp, rfl⟩
  by_cases h5 : op = 5
  · subst h5; go_enter Try.func49, Try.ntmps49; go_wp2; go_ret; exact ⟨by simp, rfl⟩
  have e0 : decide (op = 3 ∨ op = 4 ∨ op = 5) = false := decide_eq_false (by omega)
  rw [e0, Bool.false_or]
  by_cases h6 : op = 6
  · subst h6; go_enter Try.func49, Try.ntmps49; go_wp2; go_ret; refine ⟨?_, rfl⟩; congr 2; by_cases h : over = 6 <;> simp [h]
  by_cases h7 : op = 7
  · subst h7; go_enter Try.func49, Try.ntmps49; go_wp2; go_ret; refine ⟨?_, rfl⟩; congr 2; by_cases h : over = 6 <;> simp [h]
  have e1 : decide (op = 6 ∨ op = 7) = false := decide_eq_false (by omega)
  rw [e1, Bool.and_false]
  go_enter Try.func49, Try.ntmps49
  go_wp2
  go_ret
  exact ⟨rfl, rfl⟩

theorem fine_at (t : List UInt8) (k : Nat) (hk : k < t.length) (h : fineT (t.take k) = true) : fineT (t.take (k + 1)) = decide (32 ≤ ((t.getD k 0).toNat : Int) ∧ ((t.getD k 0).toNat : Int) ≤ 126) := by
  unfold fineT at h ⊢
  rw [getD_at t k hk, List.take_succ_eq_append_getElem hk, List.all_append, h]
  simp
theorem fine_no (t : List UInt8) (k : Nat) (hk : k < t.length) (h : ¬ (32 ≤ ((t.getD k 0).toNat : Int) ∧ ((t.getD k 0).toNat : Int) ≤ 126)) : fineT t = false := by
  unfold fineT
  rw [getD_at t k hk] at h
  cases e : t.all fun c => decide (32 ≤ (c.toNat : Int) ∧ (c.toNat : Int) ≤ 126) with
  | false => rfl
  | true =>
    have := List.all_eq_true.1 e t[k] (List.getElem_mem _)
    exact absurd (of_decide_eq_true this) h

set_option maxRecDepth 100000 in
set_option maxHeartbeats 2000000 in
theorem plain_any (t : List UInt8) (w : World) (hl : t.length ≤ 9223372036854775807) : Calls Try.prog 48 #[.string (bs t)] w fun e w' => e = .returned (.bool (fineT t)) ∧ w = w' := by
  have hzi : ((bs t).size : Int) = (t.length : Int) := by rw [bs_size]
  have hli : (t.length : Int) ≤ 9223372036854775807 := by omega
  go_enter Try.func48, Try.ntmps48
  go_wp2_with fail
  go_loopw [3, 6] (fun x y wr => ∃ i : Nat, y = .int .i64 (i : Int) ∧ i ≤ t.length ∧ Hid (fineT (t.take i) = true) ∧ w = wr) (fun _ y _ => (t.length - intOf y).toNat)
  case atStart => exact ⟨0, rfl, by omega, by show _ = _; simp [fineT], rfl⟩
  case round =>
    obtain ⟨i, rfl, hi, HJ, rfl⟩ := hrel
    by_cases hil : i < t.length
    · have hii : (i : Int) < t.length := by omega
      have hib : i < (bs t).size := by rw [bs_size]; exact hil
      have h1 := fine_at t i hil HJ.out
      have h2 := fine_no t i hil
      obtain ⟨c, hc⟩ : ∃ c, t.getD i 0 = c := ⟨_, rfl⟩
      have hcb : (bs t)[i] = c := (bs_at t i hib).trans hc
      rw [hc] at h1 h2
      have H1 := Lib.hid h1
      have H2 := Lib.hid h2
      clear h1 h2 hc
      by_cases a1 : (c.toNat : Int) < 32
      · have HE : Hid (fineT t = false) := H2.out (by omega)
        go_wp2
        go_ret
        exact ⟨by rw [HE.out]; rfl, rfl⟩
      by_cases a2 : 126 < (c.toNat : Int)
      · have HE : Hid (fineT t = false) := H2.out (by omega)
        go_wp2
        go_ret
        exact ⟨by rw [HE.out]; rfl, rfl⟩
      have HE : Hid (fineT (t.take (i + 1)) = true) := H1.out.trans (decide_eq_true (by omega))
      go_wp2
      exact ⟨⟨i + 1, by simp, by omega, HE, trivial⟩, by simp only [intOf]; omega⟩
    · have hii : ¬ (i : Int) < t.length := by omega
      have HE : Hid (fineT t = true) := by
        have := HJ.out
        rw [List.take_of_length_le (by omega)] at this
        exact this
      go_wp2
      go_ret
      exact ⟨by rw [HE.out]; rfl, rfl⟩

end Go.Proofs.Yteakgagjacjhiaa.Trees

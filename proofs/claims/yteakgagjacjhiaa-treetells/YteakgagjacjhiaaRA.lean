/-
  Contract of the document's May.
-/
import Derived.Test.YteakgagjacjhiaaUVX
namespace Go.Proofs.Yteakgagjacjhiaa.Trees
open Go.RowKit Go.Shelf
open Go.Proofs.Yteakgagjacjhiaa.Style (bs bs_size bs_at getD_at bs_of)
open Go.Proofs.Yteakgagjacjhiaa.Toks (cell_lt cell_same)
open Go.Proofs.Yteakgagjacjhiaa.Atoms (Row Pre tableRs tablePs TableAt TableEnd refTable_any)
set_option linter.unusedVariables false
set_option linter.unusedSimpArgs false
attribute [local irreducible] tableRs tablePs

theorem may_bad (x : Stp) (h2 : x.op ≠ 2) (h : x.pf ≠ -1 ∨ x.atom ≠ 0 ∨ x.n ≠ 0) (ok : Int → Int → Bool) : mayZ ok x = false := by
  cases e : mayZ ok x with
  | false => rfl
  | true =>
    exfalso
    unfold mayZ at e
    rw [if_neg h2] at e
    repeat' split at e
    all_goals first | (cases e; done) | (simp only [Bool.and_eq_true, decide_eq_true_eq] at e; omega)
theorem may_badn (x : Stp) (h1 : x.op ≠ 1) (h : x.num ≠ 0) (ok : Int → Int → Bool) : mayZ ok x = false := by
  cases e : mayZ ok x with
  | false => rfl
  | true =>
    exfalso
    unfold mayZ at e
    rw [if_neg h1] at e
    repeat' split at e
    all_goals first | (cases e; done) | (simp only [Bool.and_eq_true, decide_eq_true_eq] at e; omega)
theorem may_badt (x : Stp) (h6 : x.op ≠ 6) (h7 : x.op ≠ 7) (h : x.text ≠ []) (ok : Int → Int → Bool) : mayZ ok x = false := by
  cases e : mayZ ok x with
  | false => rfl
  | true =>
    exfalso
    unfold mayZ at e
    rw [if_neg (c := x.op = 6 ∨ x.op = 7) (by omega)] at e
    repeat' split at e
    all_goals first | (cases e; done) | (simp only [Bool.and_eq_true, decide_eq_true_eq] at e; exact h (by simp only [e]))
theorem ne_empty (t : List UInt8) (h : t ≠ []) : (bs t).toList.isEmpty = false := by
  rw [empty_iff, decide_eq_false h]

set_option maxRecDepth 100000 in
set_option maxHeartbeats 8000000 in
theorem rmay_fine (o : Int) (t : List UInt8) (ho : o = 6 ∨ o = 7) (w : World) (hl : t.length ≤ 9223372036854775807) :
    Calls Try.prog 40 #[Stp.v ⟨o, -1, 0, 0, 0, t⟩] w fun e w' => e = .returned (.bool (fineT t)) ∧ Below w.heap.size w w' := by
  have hzi : ((bs t).size : Int) = (t.length : Int) := by rw [bs_size]
  have hli : (t.length : Int) ≤ 9223372036854775807 := by omega
  have hu : Below w.heap.size w (w.alloc (.cells #[.int .i64 o, .int .i64 (-1), .int .i64 0, .int .i64 0, .int .i64 0, .string (bs t)] 35)) := by go_grown
  have hx := StAt.new w ⟨o, -1, 0, 0, 0, t⟩
  simp only [Stp.cs] at hx
  simp only [Stp.v]
  rcases ho with rfl | rfl
  all_goals
    obtain ⟨c0, c1, c2, c3, c4, c5⟩ := hx
    simp only at c0 c1 c2 c3 c4 c5
    go_enter Try.func40, Try.ntmps40
    go_upto_region 1 with fail
    generalize w.alloc (.cells #[.int .i64 _, .int .i64 (-1), .int .i64 0, .int .i64 0, .int .i64 0, .string (bs t)] 35) = W at *
    go_wp2_with fail
    go_loopw [4] (fun y wr => ∃ i : Nat, y = .int .i64 (i : Int) ∧ i ≤ t.length ∧ Hid (fineT (t.take i) = true) ∧ W = wr) (fun y _ => (t.length - intOf y).toNat)
    case atStart => exact ⟨0, rfl, by omega, by show _ = _; simp [fineT], rfl⟩
    case round =>
      obtain ⟨i, rfl, hi, HJ, rfl⟩ := hrel
      by_cases hil : i < t.length
      · have hii : (i : Int) < t.length := by omega
        have hib : i < (bs t).size := by rw [bs_size]; exact hil
        have h1 := fine_at t i hil HJ.out
        have h2 := fine_no t i hil
        obtain ⟨c, hc⟩ : ∃ c, t.getD i 0 = c := ⟨_, rfl⟩
        have hcb : (bs t)[i] = c := (bs_at t i hib).trans hc
        rw [hc] at h1 h2
        have H1 := Lib.hid h1
        have H2 := Lib.hid h2
        clear h1 h2 hc
        by_cases a1 : (c.toNat : Int) < 32
        · have HE : Hid (fineT t = false) := H2.out (by omega)
          go_wp2
          go_ret
          exact ⟨by rw [HE.out]; rfl, hu⟩
        by_cases a2 : 126 < (c.toNat : Int)
        · have HE : Hid (fineT t = false) := H2.out (by omega)
          go_wp2
          go_ret
          exact ⟨by rw [HE.out]; rfl, hu⟩
        have HE : Hid (fineT (t.take (i + 1)) = true) := H1.out.trans (decide_eq_true (by omega))
        go_wp2
        exact ⟨⟨i + 1, by simp, by omega, HE, trivial⟩, by simp only [intOf]; omega⟩
      · have hii : ¬ (i : Int) < t.length := by omega
        have HE : Hid (fineT t = true) := by
          have := HJ.out
          rw [List.take_of_length_le (by omega)] at this
          exact this
        go_wp2
        go_ret
        exact ⟨by rw [HE.out]; rfl, hu⟩

set_option maxRecDepth 100000 in
set_option maxHeartbeats 8000000 in
theorem rmay_sym (pf at0 n : Int) (w : World) :
    Calls Try.prog 40 #[Stp.v ⟨2, pf, at0, n, 0, []⟩] w fun e w' => e = .returned (.bool (symT pf at0 && (decide (-99 ≤ n) && decide (n ≤ 99)))) ∧ Below w.heap.size w w' := by
  have hem : (bs []).toList.isEmpty = true := by rw [empty_iff]; rfl
  have hTb := fun W => refTable_any W
  have hu : Below w.heap.size w (w.alloc (.cells #[.int .i64 2, .int .i64 pf, .int .i64 at0, .int .i64 n, .int .i64 0, .string (bs [])] 35)) := by go_grown
  have hx := StAt.new w ⟨2, pf, at0, n, 0, []⟩
  simp only [Stp.cs] at hx
  simp only [Stp.v]
  have q0 := hx.c0
  have q4 := hx.c4
  have q5 := hx.c5
  simp only at q0 q4 q5
  obtain ⟨R, hR⟩ : ∃ R, (symT pf at0 && (decide (-99 ≤ n) && decide (n ≤ 99))) = R := ⟨_, rfl⟩
  rw [hR]
  have HR := Lib.hid hR
  clear hR
  go_enter Try.func40, Try.ntmps40
  go_upto_region 1 with fail
  generalize w.alloc (.cells #[.int .i64 2, .int .i64 pf, .int .i64 at0, .int .i64 n, .int .i64 0, .string (bs [])] 35) = W at *
  go_wp2_with fail
  refine (hTb _).mono ?_
  rintro e w1 ⟨sa, sp, S, rfl, hTA, hb1⟩
  obtain ⟨oa, na, ca, rfl⟩ : ∃ o n c, sa = Value.slice o n c := by
    rcases hTA.atoms.1 with ⟨_, e⟩ | ⟨b, c, e, _⟩
    · exact ⟨_, _, _, e⟩
    · exact ⟨_, _, _, e⟩
  obtain ⟨rfl, hca, hTab, ⟨op, cp, rfl⟩, hab⟩ := tab_of hTA
  have hu1 : Below w1.heap.size w1 (w1.alloc (.cells #[.slice oa tableRs.length ca, .slice op tablePs.length cp] 63)) := (Below.refl _ _).alloc (Nat.le_refl _) _
  have hx1 := (hx.go hb1).go hu1
  have hT1 := hTab.go hu1
  have hB : Below w.heap.size w (w1.alloc (.cells #[.slice oa tableRs.length ca, .slice op tablePs.length cp] 63)) := (hu.trans (hb1.mono hu.size)).trans (hu1.mono (by have := hu.size; have := hb1.size; omega))
  have t0 : (w1.alloc (.cells #[.slice oa tableRs.length ca, .slice op tablePs.length cp] 63)).cell? ⟨w1.heap.size, 0, none⟩ = some (.slice oa tableRs.length ca) := by simp [go_sem]
  have t1 : (w1.alloc (.cells #[.slice oa tableRs.length ca, .slice op tablePs.length cp] 63)).cell? ⟨w1.heap.size, 1, none⟩ = some (.slice op tablePs.length cp) := by simp [go_sem]
  have HL := Lib.hid table_len
  clear hTA hTab hab hb1 hu hu1 hTb q0 q4 q5
  go_upto_region 10 with fail
  generalize w1.alloc (.cells #[.slice oa tableRs.length ca, .slice op tablePs.length cp] 63) = W1 at *
  generalize w1.heap.size = tb at *
  obtain ⟨c0, c1, c2, c3, c4, c5⟩ := hx1
  simp only at c0 c1 c2 c3 c4 c5
  clear hx
  have hsym : symT pf at0 = (decide (0 ≤ at0 ∧ at0 < tableRs.length) && (decide (pf = -1) || (decide (0 ≤ pf ∧ pf < tablePs.length) && (tableRs.getD at0.toNat default).m))) := rfl
  have HS := Lib.hid (And.intro hsym HL.out)
  clear hsym HL
  have no : ∀ W' : World, Below w.heap.size w W' → (symT pf at0 && (decide (-99 ≤ n) && decide (n ≤ 99))) = false → (Ending.returned (.bool false) = Ending.returned (.bool R) ∧ Below w.heap.size w W') := fun W' hW h => ⟨by rw [← HR.out, h], hW⟩
  have HNO := Lib.hid no
  clear no
  by_cases h1 : at0 < 0
  · have d1 : decide (at0 < 0) = true := decide_eq_true h1
    have HF := Lib.hid (show (symT pf at0 && (decide (-99 ≤ n) && decide (n ≤ 99))) = false by rw [HS.out.1, decide_eq_false (show ¬ (0 ≤ at0 ∧ at0 < (tableRs.length : Int)) by omega)]; simp)
    go_wp2_with fail
    go_ret
    exact HNO.out _ hB HF.out
  have d1 : decide (at0 < 0) = false := decide_eq_false h1
  by_cases h2 : (tableRs.length : Int) ≤ at0
  · have d2 : decide ((tableRs.length : Int) ≤ at0) = true := decide_eq_true h2
    have HF := Lib.hid (show (symT pf at0 && (decide (-99 ≤ n) && decide (n ≤ 99))) = false by rw [HS.out.1, decide_eq_false (show ¬ (0 ≤ at0 ∧ at0 < (tableRs.length : Int)) by omega)]; simp)
    go_wp2_with fail
    go_ret
    exact HNO.out _ hB HF.out
  have d2 : decide ((tableRs.length : Int) ≤ at0) = false := decide_eq_false h2
  by_cases h3 : pf < -1
  · have d3 : decide (pf < -1) = true := decide_eq_true h3
    have HF := Lib.hid (show (symT pf at0 && (decide (-99 ≤ n) && decide (n ≤ 99))) = false by rw [HS.out.1, decide_eq_false (show ¬ pf = -1 by omega), decide_eq_false (show ¬ (0 ≤ pf ∧ pf < (tablePs.length : Int)) by omega)]; simp)
    go_wp2_with fail
    go_ret
    exact HNO.out _ hB HF.out
  have d3 : decide (pf < -1) = false := decide_eq_false h3
  by_cases h4 : (tablePs.length : Int) ≤ pf
  · have d4 : decide ((tablePs.length : Int) ≤ pf) = true := decide_eq_true h4
    have HF := Lib.hid (show (symT pf at0 && (decide (-99 ≤ n) && decide (n ≤ 99))) = false by rw [HS.out.1, decide_eq_false (show ¬ pf = -1 by omega), decide_eq_false (show ¬ (0 ≤ pf ∧ pf < (tablePs.length : Int)) by omega)]; simp)
    go_wp2_with fail
    go_ret
    exact HNO.out _ hB HF.out
  have d4 : decide ((tablePs.length : Int) ≤ pf) = false := decide_eq_false h4
  by_cases h5 : n < -99
  · have d5 : decide (n < -99) = true := decide_eq_true h5
    have HF := Lib.hid (show (symT pf at0 && (decide (-99 ≤ n) && decide (n ≤ 99))) = false by rw [decide_eq_false (show ¬ -99 ≤ n by omega)]; simp)
    go_wp2_with fail
    go_ret
    exact HNO.out _ hB HF.out
  have d5 : decide (n < -99) = false := decide_eq_false h5
  by_cases h6 : 99 < n
  · have d6 : decide (99 < n) = true := decide_eq_true h6
    have HF := Lib.hid (show (symT pf at0 && (decide (-99 ≤ n) && decide (n ≤ 99))) = false by rw [decide_eq_false (show ¬ n ≤ 99 by omega)]; simp)
    go_wp2_with fail
    go_ret
    exact HNO.out _ hB HF.out
  have d6 : decide (99 < n) = false := decide_eq_false h6
  have HV : Hid (R = (decide (pf = -1) || (tableRs.getD at0.toNat default).m)) := by
    show _ = _
    rw [← HR.out, HS.out.1, decide_eq_true (show 0 ≤ at0 ∧ at0 < (tableRs.length : Int) by omega), decide_eq_true (show -99 ≤ n by omega), decide_eq_true (show n ≤ 99 by omega)]
    by_cases hp : pf = -1
    · rw [decide_eq_true hp]; simp
    · rw [decide_eq_false hp, decide_eq_true (show 0 ≤ pf ∧ pf < (tablePs.length : Int) by omega)]; simp
  clear HNO HR
  by_cases hp : pf = -1
  · subst hp
    go_wp2_with fail
    go_ret
    exact ⟨by rw [HV.out]; rfl, hB⟩
  · have d7 : (pf == -1) = false := by simpa using hp
    obtain ⟨a, rfl⟩ : ∃ a : Nat, at0 = (a : Int) := ⟨at0.toNat, by omega⟩
    obtain ⟨ab, rfl, hmc⟩ := hT1 a (by omega)
    rw [Int.toNat_natCast, decide_eq_false hp, Bool.false_or] at HV
    have hai : (a : Int) < (tableRs.length : Int) := by omega
    have hcai : (tableRs.length : Int) ≤ (ca : Int) := by omega
    generalize (tableRs.getD a default).m = m at *
    go_wp2_with fail
    go_ret
    exact ⟨by rw [HV.out]; rfl, hB⟩

set_option maxRecDepth 100000 in
set_option maxHeartbeats 8000000 in
theorem rmay_any (x : Stp) (w : World) (hl : x.text.length ≤ 9223372036854775807) :
    Calls Try.prog 40 #[x.v] w fun e w' => e = .returned (.bool (mayZ symT x)) ∧ Below w.heap.size w w' := by
  have hem : (bs []).toList.isEmpty = true := by rw [empty_iff]; rfl
  have hB1 := may_bad x
  have hB2 := may_badn x
  have hB3 := may_badt x
  obtain ⟨o, pf, at0, n, num, t⟩ := x
  simp only at hl hB1 hB2 hB3
  have hu : Below w.heap.size w (w.alloc (.cells #[.int .i64 o, .int .i64 pf, .int .i64 at0, .int .i64 n, .int .i64 num, .string (bs t)] 35)) := by go_grown
  by_cases h2 : o = 2
  · subst h2
    by_cases hn : num = 0
    · subst hn
      by_cases ht : t = []
      · subst ht
        rw [may_2, empty_iff]
        refine (rmay_sym pf at0 n w).mono ?_
        rintro e w' ⟨rfl, hb⟩
        exact ⟨by simp, hb⟩
      · rw [hB3 (by omega) (by omega) ht]
        have ht2 := ne_empty t ht
        simp only [Stp.v]
        clear hB1 hB2 hB3
        go_enter Try.func40, Try.ntmps40
        go_wp2_with fail
        go_ret
        exact ⟨rfl, hu⟩
    · rw [hB2 (by omega) hn]
      have hn2 : (num != 0) = true := by simpa using hn
      simp only [Stp.v]
      clear hB1 hB2 hB3
      go_enter Try.func40, Try.ntmps40
      go_wp2_with fail
      go_ret
      exact ⟨rfl, hu⟩
  have h2' : (o != 2) = true := by simpa using h2
  have h2b : (o == 2) = false := by simpa using h2
  by_cases hp : pf = -1
  rotate_left
  · rw [hB1 h2 (.inl hp)]
    have hp2 : (pf != -1) = true := by simpa using hp
    simp only [Stp.v]
    clear hB1 hB2 hB3
    go_enter Try.func40, Try.ntmps40
    go_wp2_with fail
    go_ret
    exact ⟨rfl, hu⟩
  subst hp
  by_cases ha : at0 = 0
  rotate_left
  · rw [hB1 h2 (.inr (.inl ha))]
    have ha2 : (at0 != 0) = true := by simpa using ha
    simp only [Stp.v]
    clear hB1 hB2 hB3
    go_enter Try.func40, Try.ntmps40
    go_wp2_with fail
    go_ret
    exact ⟨rfl, hu⟩
  subst ha
  by_cases hn : n = 0
  rotate_left
  · rw [hB1 h2 (.inr (.inr hn))]
    have hn2 : (n != 0) = true := by simpa using hn
    simp only [Stp.v]
    clear hB1 hB2 hB3
    go_enter Try.func40, Try.ntmps40
    go_wp2_with fail
    go_ret
    exact ⟨rfl, hu⟩
  subst hn
  by_cases h1 : o = 1
  · subst h1
    by_cases ht : t = []
    · subst ht
      rw [may_1, empty_iff]
      simp only [Stp.v]
      clear hB1 hB2 hB3
      go_enter Try.func40, Try.ntmps40
      go_wp2_with fail
      go_ret
      exact ⟨by first | rfl | simp, hu⟩
    · rw [hB3 (by omega) (by omega) ht]
      have ht2 := ne_empty t ht
      simp only [Stp.v]
      clear hB1 hB2 hB3
      go_enter Try.func40, Try.ntmps40
      go_wp2_with fail
      go_ret
      exact ⟨rfl, hu⟩
  have h1' : (o != 1) = true := by simpa using h1
  have h1b : (o == 1) = false := by simpa using h1
  by_cases hm : num = 0
  rotate_left
  · rw [hB2 h1 hm]
    have hm2 : (num != 0) = true := by simpa using hm
    simp only [Stp.v]
    clear hB1 hB2 hB3
    go_enter Try.func40, Try.ntmps40
    go_wp2_with fail
    go_ret
    exact ⟨rfl, hu⟩
  subst hm
  by_cases h6 : o = 6 ∨ o = 7
  · rw [may_67 _ _ _ _ _ _ _ h6]
    refine (rmay_fine o t h6 w hl).mono ?_
    rintro e w' ⟨rfl, hb⟩
    exact ⟨by simp, hb⟩
  have h6' : (o != 6) = true := by simp; omega
  have h6b : (o == 6) = false := by simp; omega
  have h7' : (o != 7) = true := by simp; omega
  have h7b : (o == 7) = false := by simp; omega
  by_cases ht : t = []
  rotate_left
  · rw [hB3 (by omega) (by omega) ht]
    have ht2 := ne_empty t ht
    simp only [Stp.v]
    clear hB1 hB2 hB3
    go_enter Try.func40, Try.ntmps40
    go_wp2_with fail
    go_ret
    exact ⟨rfl, hu⟩
  subst ht
  by_cases h3 : o = 3 ∨ o = 4 ∨ o = 5
  · rw [may_345 _ _ _ _ _ _ _ h3, empty_iff]
    simp only [Stp.v]
    clear hB1 hB2 hB3
    rcases h3 with rfl | rfl | rfl
    all_goals
      go_enter Try.func40, Try.ntmps40
      go_wp2_with fail
      go_ret
      exact ⟨by first | rfl | simp, hu⟩
  rw [may_no _ _ _ _ _ _ _ (by omega)]
  have h3b : (o == 3) = false := by simp; omega
  have h4b : (o == 4) = false := by simp; omega
  have h5b : (o == 5) = false := by simp; omega
  simp only [Stp.v]
  clear hB1 hB2 hB3 h1 h2 h3 h6
  go_enter Try.func40, Try.ntmps40
  go_wp2_with fail
  go_ret
  exact ⟨rfl, hu⟩

end Go.Proofs.Yteakgagjacjhiaa.Trees

/-
  Contract of the document's May. Contracts of the document's Sound, Parts, In, nest, Nest. Contracts of the document's Parts and In. Contracts of the document's nest and Nest.
-/
import Derived.Test.YthofogokpolhdaaGreatDoorULZ
import Derived.Test.YthofogokpolhdaaGreatDoorC1X
import Derived.StillTailTactics
namespace Go.Proofs.YthofogokpolhdaaGreatDoor.Trees
open Go.RowKit Go.Shelf
open Go.Proofs.YthofogokpolhdaaGreatDoor.Style (bs bs_size bs_at getD_at bs_of)
open Go.Proofs.YthofogokpolhdaaGreatDoor.Toks (cell_lt cell_same)
open Go.Proofs.YthofogokpolhdaaGreatDoor.Atoms (Row Pre tableRs tablePs TableAt TableEnd refTable_any)
set_option linter.unusedVariables false
set_option linter.unusedSimpArgs false
attribute [local irreducible] tableRs tablePs

theorem may_bad (x : Stp) (h2 : x.op ≠ 2) (h : x.pf ≠ -1 ∨ x.atom ≠ 0 ∨ x.n ≠ 0) (ok : Int → Int → Bool) : mayZ ok x = false := by
  cases e : mayZ ok x with
  | false => rfl
  | true =>
    exfalso
    unfold mayZ at e
    rw [if_neg h2] at e
    repeat' split at e
    all_goals first | (cases e; done) | (simp only [Bool.and_eq_true, decide_eq_true_eq] at e; omega)
theorem may_badn (x : Stp) (h1 : x.op ≠ 1) (h : x.num ≠ 0) (ok : Int → Int → Bool) : mayZ ok x = false := by
  cases e : mayZ ok x with
  | false => rfl
  | true =>
    exfalso
    unfold mayZ at e
    rw [if_neg h1] at e
    repeat' split at e
    all_goals first | (cases e; done) | (simp only [Bool.and_eq_true, decide_eq_true_eq] at e; omega)
theorem may_badt (x : Stp) (h6 : x.op ≠ 6) (h7 : x.op ≠ 7) (h : x.text ≠ []) (ok : Int → Int → Bool) : mayZ ok x = false := by
  cases e : mayZ ok x with
  | false => rfl
  | true =>
    exfalso
    unfold mayZ at e
    rw [if_neg (c := x.op = 6 ∨ x.op = 7) (by omega)] at e
    repeat' split at e
    all_goals first | (cases e; done) | (simp only [Bool.and_eq_true, decide_eq_true_eq] at e; exact h (by simp only [e]))
theorem ne_empty (t : List UInt8) (h : t ≠ []) : (bs t).toList.isEmpty = false := by
  rw [empty_iff, decide_eq_false h]

set_option maxRecDepth 100000 in
set_option maxHeartbeats 8000000 in
theorem rmay_fine (o : Int) (t : List UInt8) (ho : o = 6 ∨ o = 7) (w : World) (hl : t.length ≤ 9223372036854775807) :
    Calls Tryz.prog 53 #[Stp.v ⟨o, -1, 0, 0, 0, t⟩] w fun e w' => e = .returned (.bool (fineT t)) ∧ Below w.heap.size w w' := by
  have hzi : ((bs t).size : Int) = (t.length : Int) := by rw [bs_size]
  have hli : (t.length : Int) ≤ 9223372036854775807 := by omega
  have hu : Below w.heap.size w (w.alloc (.cells #[.int .i64 o, .int .i64 (-1), .int .i64 0, .int .i64 0, .int .i64 0, .string (bs t)] 47)) := by go_grown
  have hx := StAt.new w ⟨o, -1, 0, 0, 0, t⟩
  simp only [Stp.cs] at hx
  simp only [Stp.v]
  rcases ho with rfl | rfl
  all_goals
    obtain ⟨c0, c1, c2, c3, c4, c5⟩ := hx
    simp only at c0 c1 c2 c3 c4 c5
    go_enter Tryz.func53, Tryz.ntmps53
    go_upto_region 1 with fail
    generalize w.alloc (.cells #[.int .i64 _, .int .i64 (-1), .int .i64 0, .int .i64 0, .int .i64 0, .string (bs t)] 47) = W at *
    go_wp2_with fail
    go_loopw [4] (fun y wr => ∃ i : Nat, y = .int .i64 (i : Int) ∧ i ≤ t.length ∧ Hid (fineT (t.take i) = true) ∧ W = wr) (fun y _ => (t.length - intOf y).toNat)
    case atStart => exact ⟨0, rfl, by omega, by show _ = _; simp [fineT], rfl⟩
    case round =>
      obtain ⟨i, rfl, hi, HJ, rfl⟩ := hrel
      by_cases hil : i < t.length
      · have hii : (i : Int) < t.length := by omega
        have hib : i < (bs t).size := by rw [bs_size]; exact hil
        have h1 := fine_at t i hil HJ.out
        have h2 := fine_no t i hil
        obtain ⟨c, hc⟩ : ∃ c, t.getD i 0 = c := ⟨_, rfl⟩
        have hcb : (bs t)[i] = c := (bs_at t i hib).trans hc
        rw [hc] at h1 h2
        have H1 := Lib.hid h1
        have H2 := Lib.hid h2
        clear h1 h2 hc
        by_cases a1 : (c.toNat : Int) < 32
        · have HE : Hid (fineT t = false) := H2.out (by omega)
          go_wp2
          go_ret
          exact ⟨by rw [HE.out]; rfl, hu⟩
        by_cases a2 : 126 < (c.toNat : Int)
        · have HE : Hid (fineT t = false) := H2.out (by omega)
          go_wp2
          go_ret
          exact ⟨by rw [HE.out]; rfl, hu⟩
        have HE : Hid (fineT (t.take (i + 1)) = true) := H1.out.trans (decide_eq_true (by omega))
        go_wp2
        exact ⟨⟨i + 1, by simp, by omega, HE, trivial⟩, by simp only [intOf]; omega⟩
      · have hii : ¬ (i : Int) < t.length := by omega
        have HE : Hid (fineT t = true) := by
          have := HJ.out
          rw [List.take_of_length_le (by omega)] at this
          exact this
        go_wp2
        go_ret
        exact ⟨by rw [HE.out]; rfl, hu⟩

set_option maxRecDepth 100000 in
set_option maxHeartbeats 8000000 in
theorem rmay_sym (pf at0 n : Int) (w : World) :
    Calls Tryz.prog 53 #[Stp.v ⟨2, pf, at0, n, 0, []⟩] w fun e w' => e = .returned (.bool (symT pf at0 && (decide (-99 ≤ n) && decide (n ≤ 99)))) ∧ Below w.heap.size w w' := by
  have hem : (bs []).toList.isEmpty = true := by rw [empty_iff]; rfl
  have hTb := fun W => refTable_any W
  have hu : Below w.heap.size w (w.alloc (.cells #[.int .i64 2, .int .i64 pf, .int .i64 at0, .int .i64 n, .int .i64 0, .string (bs [])] 47)) := by go_grown
  have hx := StAt.new w ⟨2, pf, at0, n, 0, []⟩
  simp only [Stp.cs] at hx
  simp only [Stp.v]
  have q0 := hx.c0
  have q4 := hx.c4
  have q5 := hx.c5
  simp only at q0 q4 q5
  obtain ⟨R, hR⟩ : ∃ R, (symT pf at0 && (decide (-99 ≤ n) && decide (n ≤ 99))) = R := ⟨_, rfl⟩
  rw [hR]
  have HR := Lib.hid hR
  clear hR
  go_enter Tryz.func53, Tryz.ntmps53
  go_upto_region 1 with fail
  generalize w.alloc (.cells #[.int .i64 2, .int .i64 pf, .int .i64 at0, .int .i64 n, .int .i64 0, .string (bs [])] 47) = W at *
  go_wp2_with fail
  refine (hTb _).mono ?_
  rintro e w1 ⟨sa, sp, S, rfl, hTA, hb1⟩
  obtain ⟨oa, na, ca, rfl⟩ : ∃ o n c, sa = Value.slice o n c := by
    rcases hTA.atoms.1 with ⟨_, e⟩ | ⟨b, c, e, _⟩
    · exact ⟨_, _, _, e⟩
    · exact ⟨_, _, _, e⟩
  obtain ⟨rfl, hca, hTab, ⟨op, cp, rfl⟩, hab⟩ := tab_of hTA
  have hu1 : Below w1.heap.size w1 (w1.alloc (.cells #[.slice oa tableRs.length ca, .slice op tablePs.length cp] 89)) := (Below.refl _ _).alloc (Nat.le_refl _) _
  have hx1 := (hx.go hb1).go hu1
  have hT1 := hTab.go hu1
  have hB : Below w.heap.size w (w1.alloc (.cells #[.slice oa tableRs.length ca, .slice op tablePs.length cp] 89)) := (hu.trans (hb1.mono hu.size)).trans (hu1.mono (by have := hu.size; have := hb1.size; omega))
  have t0 : (w1.alloc (.cells #[.slice oa tableRs.length ca, .slice op tablePs.length cp] 89)).cell? ⟨w1.heap.size, 0, none⟩ = some (.slice oa tableRs.length ca) := by simp [go_sem]
  have t1 : (w1.alloc (.cells #[.slice oa tableRs.length ca, .slice op tablePs.length cp] 89)).cell? ⟨w1.heap.size, 1, none⟩ = some (.slice op tablePs.length cp) := by simp [go_sem]
  have HL := Lib.hid table_len
  clear hTA hTab hab hb1 hu hu1 hTb q0 q4 q5
  go_upto_region 10 with fail
  generalize w1.alloc (.cells #[.slice oa tableRs.length ca, .slice op tablePs.length cp] 89) = W1 at *
  generalize w1.heap.size = tb at *
  obtain ⟨c0, c1, c2, c3, c4, c5⟩ := hx1
  simp only at c0 c1 c2 c3 c4 c5
  clear hx
  have hsym : symT pf at0 = (decide (0 ≤ at0 ∧ at0 < tableRs.length) && (decide (pf = -1) || (decide (0 ≤ pf ∧ pf < tablePs.length) && (tableRs.getD at0.toNat default).m))) := rfl
  have HS := Lib.hid (And.intro hsym HL.out)
  clear hsym HL
  have no : ∀ W' : World, Below w.heap.size w W' → (symT pf at0 && (decide (-99 ≤ n) && decide (n ≤ 99))) = false → (Ending.returned (.bool false) = Ending.returned (.bool R) ∧ Below w.heap.size w W') := fun W' hW h => ⟨by rw [← HR.out, h], hW⟩
  have HNO := Lib.hid no
  clear no
  by_cases h1 : at0 < 0
  · have d1 : decide (at0 < 0) = true := decide_eq_true h1
    have HF := Lib.hid (show (symT pf at0 && (decide (-99 ≤ n) && decide (n ≤ 99))) = false by rw [HS.out.1, decide_eq_false (show ¬ (0 ≤ at0 ∧ at0 < (tableRs.length : Int)) by omega)]; simp)
    go_wp2_with fail
    go_ret
    exact HNO.out _ hB HF.out
  have d1 : decide (at0 < 0) = false := decide_eq_false h1
  by_cases h2 : (tableRs.length : Int) ≤ at0
  · have d2 : decide ((tableRs.length : Int) ≤ at0) = true := decide_eq_true h2
    have HF := Lib.hid (show (symT pf at0 && (decide (-99 ≤ n) && decide (n ≤ 99))) = false by rw [HS.out.1, decide_eq_false (show ¬ (0 ≤ at0 ∧ at0 < (tableRs.length : Int)) by omega)]; simp)
    go_wp2_with fail
    go_ret
    exact HNO.out _ hB HF.out
  have d2 : decide ((tableRs.length : Int) ≤ at0) = false := decide_eq_false h2
  by_cases h3 : pf < -1
  · have d3 : decide (pf < -1) = true := decide_eq_true h3
    have HF := Lib.hid (show (symT pf at0 && (decide (-99 ≤ n) && decide (n ≤ 99))) = false by rw [HS.out.1, decide_eq_false (show ¬ pf = -1 by omega), decide_eq_false (show ¬ (0 ≤ pf ∧ pf < (tablePs.length : Int)) by omega)]; simp)
    go_wp2_with fail
    go_ret
    exact HNO.out _ hB HF.out
  have d3 : decide (pf < -1) = false := decide_eq_false h3
  by_cases h4 : (tablePs.length : Int) ≤ pf
  · have d4 : decide ((tablePs.length : Int) ≤ pf) = true := decide_eq_true h4
    have HF := Lib.hid (show (symT pf at0 && (decide (-99 ≤ n) && decide (n ≤ 99))) = false by rw [HS.out.1, decide_eq_false (show ¬ pf = -1 by omega), decide_eq_false (show ¬ (0 ≤ pf ∧ pf < (tablePs.length : Int)) by omega)]; simp)
    go_wp2_with fail
    go_ret
    exact HNO.out _ hB HF.out
  have d4 : decide ((tablePs.length : Int) ≤ pf) = false := decide_eq_false h4
  by_cases h5 : n < -99
  · have d5 : decide (n < -99) = true := decide_eq_true h5
    have HF := Lib.hid (show (symT pf at0 && (decide (-99 ≤ n) && decide (n ≤ 99))) = false by rw [decide_eq_false (show ¬ -99 ≤ n by omega)]; simp)
    go_wp2_with fail
    go_ret
    exact HNO.out _ hB HF.out
  have d5 : decide (n < -99) = false := decide_eq_false h5
  by_cases h6 : 99 < n
  · have d6 : decide (99 < n) = true := decide_eq_true h6
    have HF := Lib.hid (show (symT pf at0 && (decide (-99 ≤ n) && decide (n ≤ 99))) = false by rw [decide_eq_false (show ¬ n ≤ 99 by omega)]; simp)
    go_wp2_with fail
    go_ret
    exact HNO.out _ hB HF.out
  have d6 : decide (99 < n) = false := decide_eq_false h6
  have HV : Hid (R = (decide (pf = -1) || (tableRs.getD at0.toNat default).m)) := by
    show _ = _
    rw [← HR.out, HS.out.1, decide_eq_true (show 0 ≤ at0 ∧ at0 < (tableRs.length : Int) by omega), decide_eq_true (show -99 ≤ n by omega), decide_eq_true (show n ≤ 99 by omega)]
    by_cases hp : pf = -1
    · rw [decide_eq_true hp]; simp
    · rw [decide_eq_false hp, decide_eq_true (show 0 ≤ pf ∧ pf < (tablePs.length : Int) by omega)]; simp
  clear HNO HR
  by_cases hp : pf = -1
  · subst hp
    go_wp2_with fail
    go_ret
    exact ⟨by rw [HV.out]; rfl, hB⟩
  · have d7 : (pf == -1) = false := by simpa using hp
    obtain ⟨a, rfl⟩ : ∃ a : Nat, at0 = (a : Int) := ⟨at0.toNat, by omega⟩
    obtain ⟨ab, rfl, hmc⟩ := hT1 a (by omega)
    rw [Int.toNat_natCast, decide_eq_false hp, Bool.false_or] at HV
    have hai : (a : Int) < (tableRs.length : Int) := by omega
    have hcai : (tableRs.length : Int) ≤ (ca : Int) := by omega
    generalize (tableRs.getD a default).m = m at *
    go_wp2_with fail
    go_ret
    exact ⟨by rw [HV.out]; rfl, hB⟩

set_option maxRecDepth 100000 in
set_option maxHeartbeats 8000000 in
theorem rmay_any (x : Stp) (w : World) (hl : x.text.length ≤ 9223372036854775807) :
    Calls Tryz.prog 53 #[x.v] w fun e w' => e = .returned (.bool (mayZ symT x)) ∧ Below w.heap.size w w' := by
  have hem : (bs []).toList.isEmpty = true := by rw [empty_iff]; rfl
  have hB1 := may_bad x
  have hB2 := may_badn x
  have hB3 := may_badt x
  obtain ⟨o, pf, at0, n, num, t⟩ := x
  simp only at hl hB1 hB2 hB3
  have hu : Below w.heap.size w (w.alloc (.cells #[.int .i64 o, .int .i64 pf, .int .i64 at0, .int .i64 n, .int .i64 num, .string (bs t)] 47)) := by go_grown
  by_cases h2 : o = 2
  · subst h2
    by_cases hn : num = 0
    · subst hn
      by_cases ht : t = []
      · subst ht
        rw [may_2, empty_iff]
        refine (rmay_sym pf at0 n w).mono ?_
        rintro e w' ⟨rfl, hb⟩
        exact ⟨by simp, hb⟩
      · rw [hB3 (by omega) (by omega) ht]
        have ht2 := ne_empty t ht
        simp only [Stp.v]
        clear hB1 hB2 hB3
        go_enter Tryz.func53, Tryz.ntmps53
        go_wp2_with fail
        go_ret
        exact ⟨rfl, hu⟩
    · rw [hB2 (by omega) hn]
      have hn2 : (num != 0) = true := by simpa using hn
      simp only [Stp.v]
      clear hB1 hB2 hB3
      go_enter Tryz.func53, Tryz.ntmps53
      go_wp2_with fail
      go_ret
      exact ⟨rfl, hu⟩
  have h2' : (o != 2) = true := by simpa using h2
  have h2b : (o == 2) = false := by simpa using h2
  by_cases hp : pf = -1
  rotate_left
  · rw [hB1 h2 (.inl hp)]
    have hp2 : (pf != -1) = true := by simpa using hp
    simp only [Stp.v]
    clear hB1 hB2 hB3
    go_enter Tryz.func53, Tryz.ntmps53
    go_wp2_with fail
    go_ret
    exact ⟨rfl, hu⟩
  subst hp
  by_cases ha : at0 = 0
  rotate_left
  · rw [hB1 h2 (.inr (.inl ha))]
    have ha2 : (at0 != 0) = true := by simpa using ha
    simp only [Stp.v]
    clear hB1 hB2 hB3
    go_enter Tryz.func53, Tryz.ntmps53
    go_wp2_with fail
    go_ret
    exact ⟨rfl, hu⟩
  subst ha
  by_cases hn : n = 0
  rotate_left
  · rw [hB1 h2 (.inr (.inr hn))]
    have hn2 : (n != 0) = true := by simpa using hn
    simp only [Stp.v]
    clear hB1 hB2 hB3
    go_enter Tryz.func53, Tryz.ntmps53
    go_wp2_with fail
    go_ret
    exact ⟨rfl, hu⟩
  subst hn
  by_cases h1 : o = 1
  · subst h1
    by_cases ht : t = []
    · subst ht
      rw [may_1, empty_iff]
      simp only [Stp.v]
      clear hB1 hB2 hB3
      go_enter Tryz.func53, Tryz.ntmps53
      go_wp2_with fail
      go_ret
      exact ⟨by first | rfl | simp, hu⟩
    · rw [hB3 (by omega) (by omega) ht]
      have ht2 := ne_empty t ht
      simp only [Stp.v]
      clear hB1 hB2 hB3
      go_enter Tryz.func53, Tryz.ntmps53
      go_wp2_with fail
      go_ret
      exact ⟨rfl, hu⟩
  have h1' : (o != 1) = true := by simpa using h1
  have h1b : (o == 1) = false := by simpa using h1
  by_cases hm : num = 0
  rotate_left
  · rw [hB2 h1 hm]
    have hm2 : (num != 0) = true := by simpa using hm
    simp only [Stp.v]
    clear hB1 hB2 hB3
    go_enter Tryz.func53, Tryz.ntmps53
    go_wp2_with fail
    go_ret
    exact ⟨rfl, hu⟩
  subst hm
  by_cases h6 : o = 6 ∨ o = 7
  · rw [may_67 _ _ _ _ _ _ _ h6]
    refine (rmay_fine o t h6 w hl).mono ?_
    rintro e w' ⟨rfl, hb⟩
    exact ⟨by simp, hb⟩
  have h6' : (o != 6) = true := by simp; omega
  have h6b : (o == 6) = false := by simp; omega
  have h7' : (o != 7) = true := by simp; omega
  have h7b : (o == 7) = false := by simp; omega
  by_cases ht : t = []
  rotate_left
  · rw [hB3 (by omega) (by omega) ht]
    have ht2 := ne_empty t ht
    simp only [Stp.v]
    clear hB1 hB2 hB3
    go_enter Tryz.func53, Tryz.ntmps53
    go_wp2_with fail
    go_ret
    exact ⟨rfl, hu⟩
  subst ht
  by_cases h3 : o = 3 ∨ o = 4 ∨ o = 5
  · rw [may_345 _ _ _ _ _ _ _ h3, empty_iff]
    simp only [Stp.v]
    clear hB1 hB2 hB3
    rcases h3 with rfl | rfl | rfl
    all_goals
      go_enter Tryz.func53, Tryz.ntmps53
      go_wp2_with fail
      go_ret
      exact ⟨by first | rfl | simp, hu⟩
  rw [may_no _ _ _ _ _ _ _ (by omega)]
  have h3b : (o == 3) = false := by simp; omega
  have h4b : (o == 4) = false := by simp; omega
  have h5b : (o == 5) = false := by simp; omega
  simp only [Stp.v]
  clear hB1 hB2 hB3 h1 h2 h3 h6
  go_enter Tryz.func53, Tryz.ntmps53
  go_wp2_with fail
  go_ret
  exact ⟨rfl, hu⟩

end Go.Proofs.YthofogokpolhdaaGreatDoor.Trees

namespace Go.Proofs.YthofogokpolhdaaGreatDoor.Trees
open Go.RowKit Go.Shelf
open Go.Proofs.YthofogokpolhdaaGreatDoor.Style (bs bs_size bs_at getD_at bs_of)
open Go.Proofs.YthofogokpolhdaaGreatDoor.Toks (cell_lt cell_same)
set_option linter.unusedVariables false
set_option linter.unusedSimpArgs false
attribute [local irreducible] symT mayZ

set_option maxRecDepth 100000 in
set_option maxHeartbeats 4000000 in
theorem rsound_any (s : Value) (L : List Stp) (w : World) (hV : View w s L) (hF : ∀ x ∈ L, x.text.length ≤ 9223372036854775807) (hl : L.length ≤ 100000) :
    Calls Tryz.prog 33 #[s] w fun e w' => e = .returned (.bool (soundZ symT L)) ∧ Below w.heap.size w w' := by
  obtain ⟨o, c, rfl, hlc⟩ := hV.slice
  have hli : (L.length : Int) ≤ 100000 := by omega
  by_cases h255 : 255 < L.length
  · have hz : soundZ symT L = false := by unfold soundZ; rw [decide_eq_false (by omega), Bool.false_and]
    rw [hz]
    have hi : (255 : Int) < L.length := by omega
    clear hV hF
    go_enter Tryz.func33, Tryz.ntmps33
    go_wp2_with fail
    go_ret
    exact ⟨rfl, by first | exact Below.refl _ _ | go_grown⟩
  have hi : ¬ (255 : Int) < L.length := by omega
  have hz : soundZ symT L = (cntZ symT L 0 == some 1) := by unfold soundZ; rw [decide_eq_true (by omega), Bool.true_and]
  rw [hz]
  obtain ⟨R, hR⟩ : ∃ R, (cntZ symT L 0 == some 1) = R := ⟨_, rfl⟩
  rw [hR]
  have HR := Lib.hid hR
  clear hR hz
  have hML := Lib.hid (fun (x : Stp) (hx : x ∈ L) (W : World) => rmay_any x W (hF x hx))
  have HT := Lib.hid (fun (op : Int) (W : World) => rtakes_any op W)
  clear hF
  go_enter Tryz.func33, Tryz.ntmps33
  go_wp2_with fail
  go_loopw [3, 4] (fun x y wr => ∃ (i k : Nat), x = .int .i64 (k : Int) ∧ y = .int .i64 (i : Int) ∧ i ≤ L.length ∧ Hid (cntZ symT (L.take i) 0 = some k) ∧ Below w.heap.size w wr) (fun _ y _ => (L.length - intOf y).toNat)
  case atStart => exact ⟨0, 0, rfl, rfl, by omega, by show _ = _; rfl, Below.refl _ _⟩
  case round =>
    obtain ⟨i, k, rfl, rfl, hil, HJ, hB⟩ := hrel
    have hk : k ≤ i := by
      have := cnt_le symT (L.take i) 0 k HJ.out
      rw [List.length_take] at this; omega
    by_cases hlt : i < L.length
    · have hii : (i : Int) < L.length := by omega
      have hn := cnt_next hlt HJ.out
      have hmem : L.getD i default ∈ L := by rw [List.getD_eq_getElem?_getD, List.getElem?_eq_getElem hlt]; exact List.getElem_mem _
      have hM := hML.out (L.getD i default) hmem
      obtain ⟨o', c', e', hc', hv⟩ := hV.go hB
      obtain ⟨b, off, eo, v0, v1, v2, v3, v4, v5⟩ := hv i hlt
      injection e' with e1 e2 e3
      subst e1 e3
      subst eo
      obtain ⟨x, hx⟩ : ∃ x, L.getD i default = x := ⟨_, rfl⟩
      rw [hx] at hn hM v0 v1 v2 v3 v4 v5
      have hT := HT.out x.op
      have ht := takes_le x.op
      clear hx hmem hv
      obtain ⟨xo, xp, xa, xn, xm, xt⟩ := x
      simp only [Stp.v] at hM
      simp only at v0 v1 v2 v3 v4 v5 hn hT ht
      have HN := Lib.hid hn
      clear hn
      generalize mayZ symT ⟨xo, xp, xa, xn, xm, xt⟩ = may at *
      go_wp2_with fail
      refine (hM wr).mono ?_
      rintro e W3 ⟨rfl, hb3⟩
      have q0 := (hb3.cell (p := ⟨b, off + i * 6, none⟩) (cell_lt v0)).trans v0
      have hB3 := hB.trans (hb3.mono hB.size)
      clear v0 v1 v2 v3 v4 v5 hM hb3
      generalize takesZ xo = m at *
      have hmi : (m : Int) ≤ 2 := by omega
      go_wp2_with fail
      refine (hT W3).mono ?_
      rintro e W4 ⟨rfl, rfl⟩
      clear hT q0
      have hki : (k : Int) ≤ 100000 := by omega
      cases may with
      | false =>
        have hRf : Hid (false = R) := by
          show _ = _
          rw [← HR.out, cnt_stop (HN.out.trans (if_neg (by simp)))]; rfl
        clear HR HN
        go_wp2_with fail
        go_ret
        exact ⟨by rw [← hRf.out]; rfl, hB3⟩
      | true =>
        by_cases hm : m ≤ k
        · have hN2 : cntZ symT (L.take (i + 1)) 0 = some (k - m + 1) := HN.out.trans (if_pos ⟨rfl, hm⟩)
          have HN2 := Lib.hid hN2
          have hmk : decide ((k : Int) < (m : Int)) = false := decide_eq_false (by omega)
          clear hN2 HN HR
          go_wp2_with fail
          exact ⟨⟨i + 1, k - m + 1, by simp; omega, by simp, by omega, HN2, hB3⟩, by simp only [intOf]; omega⟩
        · have hRf : Hid (false = R) := by
            show _ = _
            rw [← HR.out, cnt_stop (HN.out.trans (if_neg (by simp; omega)))]; rfl
          have hmk : decide ((k : Int) < (m : Int)) = true := decide_eq_true (by omega)
          clear HR HN
          go_wp2_with fail
          go_ret
          exact ⟨by rw [← hRf.out]; rfl, hB3⟩
    · have hii : ¬ (i : Int) < L.length := by omega
      have hR1 : Hid (((k : Int) == 1) = R) := by
        show _ = _
        have := HJ.out
        rw [List.take_of_length_le (by omega)] at this
        rw [← HR.out, this, Bool.eq_iff_iff]
        simp; omega
      clear HR HJ
      go_wp2_with fail
      go_ret
      exact ⟨by rw [← hR1.out]; rfl, hB⟩

end Go.Proofs.YthofogokpolhdaaGreatDoor.Trees

namespace Go.Proofs.YthofogokpolhdaaGreatDoor.Trees
open Go.RowKit Go.Shelf
open Go.Proofs.YthofogokpolhdaaGreatDoor.Style (bs bs_size bs_at getD_at bs_of)
open Go.Proofs.YthofogokpolhdaaGreatDoor.Toks (cell_lt cell_same)
set_option linter.unusedVariables false
set_option linter.unusedSimpArgs false
attribute [local irreducible] symT mayZ

theorem slice_mid (b off n c k m : Nat) (hk : k ≤ m) (hc : m ≤ c) (hkc : k < c) (W : World) : (Instr.slice 34 (.slice (some ⟨b, off, none⟩) n c) (some (.int .i64 (k : Int))) (some (.int .i64 (m : Int))) none).run Tryz.prog W = .ok (.slice (some ⟨b, off + k * 6, none⟩) (m - k) (c - k)) W := by
  have hs : (sizeOf (Tryz.prog.elem 34)).run Tryz.prog W = .ok 6 W := by kernel_rfl
  rw [run_slice_lh (P := Tryz.prog) (w := W) 34 (some ⟨b, off, none⟩) n c (by kernel_rfl) .i64 .i64 (k : Int) (m : Int) (by omega) (by omega) (by omega), hs]
  show Result.ok (sliced _ _ _ _ _) W = _
  unfold sliced
  simp only [Int.toNat_natCast]
  rw [if_neg (by omega)]
  simp [Addr.add_mid]
theorem slice_head (b off n c m : Nat) (hc : m ≤ c) (W : World) : (Instr.slice 34 (.slice (some ⟨b, off, none⟩) n c) none (some (.int .i64 (m : Int))) none).run Tryz.prog W = .ok (.slice (some ⟨b, off, none⟩) m c) W := by
  have hs : (sizeOf (Tryz.prog.elem 34)).run Tryz.prog W = .ok 6 W := by kernel_rfl
  rw [run_slice_h (P := Tryz.prog) (w := W) 34 (some ⟨b, off, none⟩) n c (by kernel_rfl) .i64 (m : Int) (by omega) (by omega), hs]
  show Result.ok (sliced _ _ _ _ _) W = _
  unfold sliced
  rw [Nat.zero_mul, Nat.sub_zero, Nat.sub_zero, Int.toNat_natCast]
  have h0 : (if c = 0 then some (⟨b, off, none⟩ : Addr) else (some (⟨b, off, none⟩ : Addr)).map (·.add 0)) = some ⟨b, off, none⟩ := by simp [Addr.add_zero']
  rw [h0]

set_option maxRecDepth 100000 in
set_option maxHeartbeats 4000000 in
theorem rin_any (op : Int) (s : Value) (L : List Stp) (w : World) (hV : View w s L) (h0 : 1 ≤ L.length) (hl : L.length ≤ 100000) :
    Calls Tryz.prog 62 #[.int .i64 op, s] w fun e w' => e = .returned (.bool (brkZ op (L.getD (L.length - 1) default).op)) ∧ Below w.heap.size w w' := by
  have hLo := loose_any s L w hV h0 hl
  obtain ⟨o, c, rfl, hlc, hv⟩ := hV
  obtain ⟨n, hn⟩ : ∃ n, L.length = n + 1 := ⟨L.length - 1, by omega⟩
  obtain ⟨b, off, rfl, v0, _⟩ := hv n (by omega)
  rw [show L.length - 1 = n by omega] at hLo ⊢
  have hni : (n : Int) ≤ 100000 := by omega
  clear hv
  rw [hn] at hLo ⊢
  rw [hn] at hlc
  have hci : (n : Int) + 1 ≤ (c : Int) := by omega
  generalize (L.getD n default).op = lo at *
  obtain ⟨R, hR⟩ : ∃ R, brkZ op lo = R := ⟨_, rfl⟩
  rw [hR]
  have HR := Lib.hid hR
  clear hR
  have hq : looseZ lo = decide (lo = 3 ∨ lo = 4 ∨ lo = 5) := rfl
  have HB : Hid (R = (looseZ lo || (decide (op = 6) && decide (lo = 6 ∨ lo = 7)))) := HR.out.symm
  clear hq HR
  generalize looseZ lo = lz at *
  go_enter Tryz.func62, Tryz.ntmps62
  go_wp2_with fail
  refine hLo.mono ?_
  rintro e w2 ⟨rfl, hb2⟩
  have q0 := (hb2.cell (p := ⟨b, off + n * 6, none⟩) (cell_lt v0)).trans v0
  cases lz with
  | true =>
    have HE : Hid (R = true) := by show _ = _; rw [HB.out]; rfl
    go_wp2_with fail
    go_ret
    exact ⟨by rw [HE.out]; rfl, hb2⟩
  | false =>
    by_cases h6 : op = 6
    · subst h6
      by_cases l6 : lo = 6
      · have HE : Hid (R = true) := by show _ = _; rw [HB.out, l6]; rfl
        subst l6
        go_wp2_with fail
        go_ret
        exact ⟨by rw [HE.out]; rfl, hb2⟩
      · have l6b : (lo == 6) = false := by simpa using l6
        by_cases l7 : lo = 7
        · have HE : Hid (R = true) := by show _ = _; rw [HB.out, l7]; rfl
          subst l7
          go_wp2_with fail
          go_ret
          exact ⟨by rw [HE.out]; rfl, hb2⟩
        · have l7b : (lo == 7) = false := by simpa using l7
          have HE : Hid (R = false) := by show _ = _; rw [HB.out, decide_eq_false (show ¬ (lo = 6 ∨ lo = 7) by omega)]; rfl
          go_wp2_with fail
          go_ret
          exact ⟨by rw [HE.out]; rfl, hb2⟩
    · have h6b : (op == 6) = false := by simpa using h6
      have HE : Hid (R = false) := by show _ = _; rw [HB.out, decide_eq_false h6]; rfl
      go_wp2_with fail
      go_ret
      exact ⟨by rw [HE.out]; rfl, hb2⟩

set_option maxRecDepth 100000 in
set_option maxHeartbeats 4000000 in
theorem rparts_any (s : Value) (L : List Stp) (w : World) (hV : View w s L) (hF : ∀ x ∈ L, x.text.length ≤ 9223372036854775807) (hl : L.length ≤ 100000) :
    Calls Tryz.prog 61 #[s] w fun e w' => (∃ a b, e = .returned (.agg #[a, b]) ∧ View w' a (partsZ symT L).1 ∧ View w' b (partsZ symT L).2) ∧ Below w.heap.size w w' := by
  have hS := fun W h => rsound_any s L W h hF hl
  have hV0 := hV
  obtain ⟨o, c, rfl, hlc, hv⟩ := hV
  have hu : Below w.heap.size w (w.alloc (.cells #[.slice none 0 0, .slice none 0 0] 114)) := by go_grown
  have r0 : (w.alloc (.cells #[.slice none 0 0, .slice none 0 0] 114)).cell? ⟨w.heap.size, 0, none⟩ = some (.slice none 0 0) := by simp [go_sem]
  have r1 : (w.alloc (.cells #[.slice none 0 0, .slice none 0 0] 114)).cell? ⟨w.heap.size, 1, none⟩ = some (.slice none 0 0) := by simp [go_sem]
  have rf0 : (w.alloc (.cells #[.slice none 0 0, .slice none 0 0] 114)).frozen? ⟨w.heap.size, 0, none⟩ = false := by simp [go_sem]
  have rf1 : (w.alloc (.cells #[.slice none 0 0, .slice none 0 0] 114)).frozen? ⟨w.heap.size, 1, none⟩ = false := by simp [go_sem]
  have hz : (w.alloc (.cells #[.slice none 0 0, .slice none 0 0] 114)).heap.size = w.heap.size + 1 := World.size_alloc _ _
  have hVu := hV0.go hu
  unfold partsZ
  cases hs : soundZ symT L with
  | false =>
    rw [hs] at hS
    rw [if_neg (by simp)]
    clear hv hV0 hF
    go_enter Tryz.func61, Tryz.ntmps61
    go_wp2_with fail
    generalize w.alloc (.cells #[.slice none 0 0, .slice none 0 0] 114) = W1 at *
    refine (hS _ hVu).mono ?_
    rintro e w2 ⟨rfl, hb2⟩
    replace r0 := (hb2.cell (p := ⟨w.heap.size, 0, none⟩) (cell_lt r0)).trans r0
    replace r1 := (hb2.cell (p := ⟨w.heap.size, 1, none⟩) (cell_lt r1)).trans r1
    replace rf0 := (hb2.frozen (p := ⟨w.heap.size, 0, none⟩) (by show w.heap.size < W1.heap.size; omega)).trans rf0
    replace rf1 := (hb2.frozen (p := ⟨w.heap.size, 1, none⟩) (by show w.heap.size < W1.heap.size; omega)).trans rf1
    have hB := hu.trans (hb2.mono hu.size)
    go_wp2_with fail
    have x0 : ((w2.setCell ⟨w.heap.size, 0, none⟩ (.slice none 0 0)).setCell ⟨w.heap.size, 1, none⟩ (.slice none 0 0)).cell? ⟨w.heap.size, 0, none⟩ = some (.slice none 0 0) := by simp [go_sem, r0]
    have x1 : ((w2.setCell ⟨w.heap.size, 0, none⟩ (.slice none 0 0)).setCell ⟨w.heap.size, 1, none⟩ (.slice none 0 0)).cell? ⟨w.heap.size, 1, none⟩ = some (.slice none 0 0) := by simp [go_sem, r1]
    have hX := (hB.setCell (p := ⟨w.heap.size, 0, none⟩) (Nat.le_refl _) (.slice none 0 0)).setCell (p := ⟨w.heap.size, 1, none⟩) (Nat.le_refl _) (.slice none 0 0)
    generalize (w2.setCell ⟨w.heap.size, 0, none⟩ (.slice none 0 0)).setCell ⟨w.heap.size, 1, none⟩ (.slice none 0 0) = X at *
    refine bodyPost_ret (v := .agg #[(.slice none 0 0), (.slice none 0 0)]) (by simp [results, Tryz.results61, go_sem, x0, x1]) rfl ⟨⟨_, _, rfl, View.nil _ _ _, View.nil _ _ _⟩, hX⟩
  | true =>
    rw [hs] at hS
    rw [if_pos rfl]
    obtain ⟨h1, h255⟩ := sound_pos hs
    have h2 := sound_two hs
    rw [last_getD, List.dropLast_eq_take]
    obtain ⟨n, hn⟩ : ∃ n, L.length = n + 1 := ⟨L.length - 1, by omega⟩
    rw [show L.length - 1 = n by omega] at h2 ⊢
    obtain ⟨b, off, rfl, v0, _⟩ := hv n (by omega)
    have u0 := (hu.cell (p := ⟨b, off + n * 6, none⟩) (cell_lt v0)).trans v0
    have hni : (n : Int) ≤ 254 := by omega
    have hci : (n : Int) + 1 ≤ c := by omega
    have hT := fun W => rtakes_any (L.getD n default).op W
    have ht := takes_le (L.getD n default).op
    have hVa : View w (.slice (some ⟨b, off, none⟩) n c) (L.take n) := hV0.take (by omega)
    have hna : (L.take n).length = n := by rw [List.length_take]; omega
    clear hv hV0 hs hF v0
    generalize takesZ (L.getD n default).op = m at *
    generalize (L.getD n default).op = xo at *
    rw [hn] at hS hVu
    have hcu := fun W h => cut_any (.slice (some ⟨b, off, none⟩) n c) (L.take n) W h (by omega)
    have hsh := fun W => slice_head b off (n + 1) c n (by omega) W
    rcases (by omega : m = 0 ∨ m = 1 ∨ m = 2) with rfl | rfl | rfl
    · rw [if_neg (by omega), if_neg (by omega)]
      clear hVa
      go_enter Tryz.func61, Tryz.ntmps61
      rw [hn]
      go_wp2_with fail
      generalize w.alloc (.cells #[.slice none 0 0, .slice none 0 0] 114) = W1 at *
      refine (hS _ hVu).mono ?_
      rintro e w2 ⟨rfl, hb2⟩
      replace r0 := (hb2.cell (p := ⟨w.heap.size, 0, none⟩) (cell_lt r0)).trans r0
      replace r1 := (hb2.cell (p := ⟨w.heap.size, 1, none⟩) (cell_lt r1)).trans r1
      replace rf0 := (hb2.frozen (p := ⟨w.heap.size, 0, none⟩) (by show w.heap.size < W1.heap.size; omega)).trans rf0
      replace rf1 := (hb2.frozen (p := ⟨w.heap.size, 1, none⟩) (by show w.heap.size < W1.heap.size; omega)).trans rf1
      have hB := hu.trans (hb2.mono hu.size)
      replace u0 := (hb2.cell (p := ⟨b, off + n * 6, none⟩) (cell_lt u0)).trans u0
      go_wp2_with fail
      refine (hT _).mono ?_
      rintro e w3 ⟨rfl, rfl⟩
      go_wp2_with fail
      have x0 : ((w2.setCell ⟨w.heap.size, 0, none⟩ (.slice none 0 0)).setCell ⟨w.heap.size, 1, none⟩ (.slice none 0 0)).cell? ⟨w.heap.size, 0, none⟩ = some (.slice none 0 0) := by simp [go_sem, r0]
      have x1 : ((w2.setCell ⟨w.heap.size, 0, none⟩ (.slice none 0 0)).setCell ⟨w.heap.size, 1, none⟩ (.slice none 0 0)).cell? ⟨w.heap.size, 1, none⟩ = some (.slice none 0 0) := by simp [go_sem, r1]
      have hX := (hB.setCell (p := ⟨w.heap.size, 0, none⟩) (Nat.le_refl _) (.slice none 0 0)).setCell (p := ⟨w.heap.size, 1, none⟩) (Nat.le_refl _) (.slice none 0 0)
      generalize (w2.setCell ⟨w.heap.size, 0, none⟩ (.slice none 0 0)).setCell ⟨w.heap.size, 1, none⟩ (.slice none 0 0) = X at *
      refine bodyPost_ret (v := .agg #[(.slice none 0 0), (.slice none 0 0)]) (by simp [results, Tryz.results61, go_sem, x0, x1]) rfl ⟨⟨_, _, rfl, View.nil _ _ _, View.nil _ _ _⟩, hX⟩
    · rw [if_neg (by omega), if_pos rfl]
      go_enter Tryz.func61, Tryz.ntmps61
      rw [hn]
      go_wp2_with fail
      generalize w.alloc (.cells #[.slice none 0 0, .slice none 0 0] 114) = W1 at *
      refine (hS _ hVu).mono ?_
      rintro e w2 ⟨rfl, hb2⟩
      replace r0 := (hb2.cell (p := ⟨w.heap.size, 0, none⟩) (cell_lt r0)).trans r0
      replace r1 := (hb2.cell (p := ⟨w.heap.size, 1, none⟩) (cell_lt r1)).trans r1
      replace rf0 := (hb2.frozen (p := ⟨w.heap.size, 0, none⟩) (by show w.heap.size < W1.heap.size; omega)).trans rf0
      replace rf1 := (hb2.frozen (p := ⟨w.heap.size, 1, none⟩) (by show w.heap.size < W1.heap.size; omega)).trans rf1
      have hB := hu.trans (hb2.mono hu.size)
      replace u0 := (hb2.cell (p := ⟨b, off + n * 6, none⟩) (cell_lt u0)).trans u0
      go_wp2_with fail
      refine (hT _).mono ?_
      rintro e w3 ⟨rfl, rfl⟩
      go_wp2_with fail
      refine (hcu _ (hVa.go hB)).mono ?_
      rintro e w4 ⟨rfl, hb4⟩
      replace r0 := (hb4.cell (p := ⟨w.heap.size, 0, none⟩) (cell_lt r0)).trans r0
      have rz := cell_lt r1
      replace r1 := (hb4.cell (p := ⟨w.heap.size, 1, none⟩) (cell_lt r1)).trans r1
      replace rf0 := (hb4.frozen (p := ⟨w.heap.size, 0, none⟩) rz).trans rf0
      replace rf1 := (hb4.frozen (p := ⟨w.heap.size, 1, none⟩) rz).trans rf1
      replace hB := hB.trans (hb4.mono hB.size)
      go_wp2_with fail
      have x0 : ((w4.setCell ⟨w.heap.size, 0, none⟩ (.slice none 0 0)).setCell ⟨w.heap.size, 1, none⟩ (.slice (some ⟨b, off, none⟩) n c)).cell? ⟨w.heap.size, 0, none⟩ = some (.slice none 0 0) := by simp [go_sem, r0]
      have x1 : ((w4.setCell ⟨w.heap.size, 0, none⟩ (.slice none 0 0)).setCell ⟨w.heap.size, 1, none⟩ (.slice (some ⟨b, off, none⟩) n c)).cell? ⟨w.heap.size, 1, none⟩ = some (.slice (some ⟨b, off, none⟩) n c) := by simp [go_sem, r1]
      have hX := (hB.setCell (p := ⟨w.heap.size, 0, none⟩) (Nat.le_refl _) (.slice none 0 0)).setCell (p := ⟨w.heap.size, 1, none⟩) (Nat.le_refl _) (.slice (some ⟨b, off, none⟩) n c)
      generalize (w4.setCell ⟨w.heap.size, 0, none⟩ (.slice none 0 0)).setCell ⟨w.heap.size, 1, none⟩ (.slice (some ⟨b, off, none⟩) n c) = X at *
      refine bodyPost_ret (v := .agg #[(.slice none 0 0), (.slice (some ⟨b, off, none⟩) n c)]) (by simp [results, Tryz.results61, go_sem, x0, x1]) rfl ⟨⟨_, _, rfl, View.nil _ _ _, hVa.go hX⟩, hX⟩
    · rw [if_pos rfl]
      have h3 := h2 rfl
      clear h2
      have hVl := View.take (n := cutZ (L.take n)) (by rw [hna]; exact hVa) (by omega)
      have hVr := View.rest (n := cutZ (L.take n)) (by rw [hna]; exact hVa) (by omega)
      rw [hna] at hVr
      generalize cutZ (L.take n) = k at *
      have hki : (k : Int) < n := by omega
      have hkc : (k : Int) ≤ c := by omega
      have hsm := fun W => slice_mid b off (n + 1) c k n (by omega) (by omega) (by omega) W
      have hsk := fun W => slice_head b off (n + 1) c k (by omega) W
      go_enter Tryz.func61, Tryz.ntmps61
      rw [hn]
      go_wp2_with fail
      generalize w.alloc (.cells #[.slice none 0 0, .slice none 0 0] 114) = W1 at *
      refine (hS _ hVu).mono ?_
      rintro e w2 ⟨rfl, hb2⟩
      replace r0 := (hb2.cell (p := ⟨w.heap.size, 0, none⟩) (cell_lt r0)).trans r0
      replace r1 := (hb2.cell (p := ⟨w.heap.size, 1, none⟩) (cell_lt r1)).trans r1
      replace rf0 := (hb2.frozen (p := ⟨w.heap.size, 0, none⟩) (by show w.heap.size < W1.heap.size; omega)).trans rf0
      replace rf1 := (hb2.frozen (p := ⟨w.heap.size, 1, none⟩) (by show w.heap.size < W1.heap.size; omega)).trans rf1
      have hB := hu.trans (hb2.mono hu.size)
      replace u0 := (hb2.cell (p := ⟨b, off + n * 6, none⟩) (cell_lt u0)).trans u0
      go_wp2_with fail
      refine (hT _).mono ?_
      rintro e w3 ⟨rfl, rfl⟩
      go_wp2_with fail
      refine (hcu _ (hVa.go hB)).mono ?_
      rintro e w4 ⟨rfl, hb4⟩
      replace r0 := (hb4.cell (p := ⟨w.heap.size, 0, none⟩) (cell_lt r0)).trans r0
      have rz := cell_lt r1
      replace r1 := (hb4.cell (p := ⟨w.heap.size, 1, none⟩) (cell_lt r1)).trans r1
      replace rf0 := (hb4.frozen (p := ⟨w.heap.size, 0, none⟩) rz).trans rf0
      replace rf1 := (hb4.frozen (p := ⟨w.heap.size, 1, none⟩) rz).trans rf1
      replace hB := (hB.trans (hb4.mono hB.size)).drew
      go_wp2_with fail
      go_still_tail 8, (by kernel_rfl)
      change wpList _ _ _ _ _ w4.drew
      replace r0 : w4.drew.cell? ⟨w.heap.size, 0, none⟩ = some (.slice none 0 0) := r0
      replace r1 : w4.drew.cell? ⟨w.heap.size, 1, none⟩ = some (.slice none 0 0) := r1
      replace rf0 : w4.drew.frozen? ⟨w.heap.size, 0, none⟩ = false := rf0
      replace rf1 : w4.drew.frozen? ⟨w.heap.size, 1, none⟩ = false := rf1
      generalize w4.drew = V at *
      go_wp2_with fail
      have x0 : ((V.setCell ⟨w.heap.size, 0, none⟩ (.slice (some ⟨b, off, none⟩) k c)).setCell ⟨w.heap.size, 1, none⟩ (.slice (some ⟨b, off + k * 6, none⟩) (n - k) (c - k))).cell? ⟨w.heap.size, 0, none⟩ = some (.slice (some ⟨b, off, none⟩) k c) := by simp [go_sem, r0]
      have x1 : ((V.setCell ⟨w.heap.size, 0, none⟩ (.slice (some ⟨b, off, none⟩) k c)).setCell ⟨w.heap.size, 1, none⟩ (.slice (some ⟨b, off + k * 6, none⟩) (n - k) (c - k))).cell? ⟨w.heap.size, 1, none⟩ = some (.slice (some ⟨b, off + k * 6, none⟩) (n - k) (c - k)) := by simp [go_sem, r1]
      have hX := (hB.setCell (p := ⟨w.heap.size, 0, none⟩) (Nat.le_refl _) (.slice (some ⟨b, off, none⟩) k c)).setCell (p := ⟨w.heap.size, 1, none⟩) (Nat.le_refl _) (.slice (some ⟨b, off + k * 6, none⟩) (n - k) (c - k))
      generalize (V.setCell ⟨w.heap.size, 0, none⟩ (.slice (some ⟨b, off, none⟩) k c)).setCell ⟨w.heap.size, 1, none⟩ (.slice (some ⟨b, off + k * 6, none⟩) (n - k) (c - k)) = X at *
      refine bodyPost_ret (v := .agg #[(.slice (some ⟨b, off, none⟩) k c), (.slice (some ⟨b, off + k * 6, none⟩) (n - k) (c - k))]) (by simp [results, Tryz.results61, go_sem, x0, x1]) rfl ⟨⟨_, _, rfl, hVl.go hX, hVr.go hX⟩, hX⟩

end Go.Proofs.YthofogokpolhdaaGreatDoor.Trees

namespace Go.Proofs.YthofogokpolhdaaGreatDoor.Trees
open Go.RowKit Go.Shelf
open Go.Proofs.YthofogokpolhdaaGreatDoor.Style (bs bs_size bs_at getD_at bs_of)
open Go.Proofs.YthofogokpolhdaaGreatDoor.Toks (cell_lt cell_same)
set_option linter.unusedVariables false
set_option linter.unusedSimpArgs false
attribute [local irreducible] symT mayZ

theorem top_of (t : Tr) : t.flat.getD (t.flat.length - 1) default = t.top := by
  rw [← flat_last t, List.getLastD_eq_getLast?, List.getLast?_eq_getElem?, List.getD_eq_getElem?_getD]
theorem nest_lt : ∀ t : Tr, t.nest + 1 ≤ t.flat.length
  | .leaf x => by simp [Tr.nest, Tr.flat]
  | .one x a => by
    have := nest_lt a
    have h3 : inZ x.op a.top.op ≤ 1 := by unfold inZ; split <;> omega
    simp only [Tr.nest, Tr.flat, List.length_append, List.length_cons, List.length_nil]; omega
  | .two x a b => by
    have := nest_lt a
    have := nest_lt b
    have h3 : inZ x.op b.top.op ≤ 1 := by unfold inZ; split <;> omega
    simp only [Tr.nest, Tr.flat, List.length_append, List.length_cons, List.length_nil]; omega
/-- The last step of a tree, as it lies. -/
theorem View.last {w : World} {s : Value} {t : Tr} (h : View w s t.flat) : ∃ b off c n, s = .slice (some ⟨b, off, none⟩) (n + 1) c ∧ t.flat.length = n + 1 ∧ n + 1 ≤ c ∧ w.cell? ⟨b, off + n * 6, none⟩ = some (.int .i64 t.top.op) := by
  obtain ⟨o, c, e, hc, hv⟩ := h
  have hp := flat_pos t
  obtain ⟨n, hn⟩ : ∃ n, t.flat.length = n + 1 := ⟨t.flat.length - 1, by omega⟩
  obtain ⟨b, off, rfl, v0, _⟩ := hv n (by omega)
  have ht := top_of t
  rw [show t.flat.length - 1 = n by omega] at ht
  rw [ht] at v0
  exact ⟨b, off, c, n, by rw [e, hn], hn, by omega, v0⟩

/-- While nest goes: both parts, their box. -/
structure NeI (w W : World) (pb : Nat) (s1 s2 : Value) (L1 L2 : List Stp) : Prop where
  v1 : View W s1 L1
  v2 : View W s2 L2
  p0 : W.cell? ⟨pb, 0, none⟩ = some s1
  p1 : W.cell? ⟨pb, 1, none⟩ = some s2
  below : Below w.heap.size w W
theorem NeI.go {w W W' : World} {pb : Nat} {s1 s2 : Value} {L1 L2 : List Stp} (h : NeI w W pb s1 s2 L1 L2) (hb : Below W.heap.size W W') : NeI w W' pb s1 s2 L1 L2 :=
  ⟨h.v1.go hb, h.v2.go hb, (hb.cell (p := ⟨pb, 0, none⟩) (cell_lt h.p0)).trans h.p0, (hb.cell (p := ⟨pb, 1, none⟩) (cell_lt h.p0)).trans h.p1, h.below.trans (hb.mono h.below.size)⟩

set_option maxRecDepth 100000 in
set_option maxHeartbeats 4000000 in
theorem rnest_x : ∀ (t : Tr) (s : Value) (w : World), t.good symT → t.flat.length ≤ 255 → (∀ x ∈ t.flat, x.text.length ≤ 9223372036854775807) → View w s t.flat →
    Calls Tryz.prog 57 #[s] w fun e w' => e = .returned (.int .i64 (t.nest : Int)) ∧ Below w.heap.size w w' := by
  intro t
  induction t with
  | leaf x =>
    intro s w hg hl hF hV
    have hT := fun W => rtakes_any x.op W
    rw [hg.2] at hT
    obtain ⟨b, off, c, n, rfl, hn, hc, u0⟩ := hV.last
    have hn0 : n = 0 := by simpa [Tr.flat] using hn.symm
    subst hn0
    simp only [Tr.top, Nat.zero_mul, Nat.add_zero] at u0
    have hci : (1 : Int) ≤ (c : Int) := by omega
    clear hV hF hl hg
    go_enter Tryz.func57, Tryz.ntmps57
    go_wp2_with fail
    refine (hT _).mono ?_
    rintro e w2 ⟨rfl, rfl⟩
    go_wp2_with fail
    go_ret
    exact ⟨rfl, by first | exact Below.refl _ _ | go_grown⟩
  | one x a iha =>
    intro s w hg hl hF hV
    have hT := fun W => rtakes_any x.op W
    rw [hg.1.2] at hT
    have hP := rparts_any s _ w hV hF (by omega)
    rw [parts_one hg hl] at hP
    have hFa : ∀ y ∈ a.flat, y.text.length ≤ 9223372036854775807 := fun y hy => hF y (by simp [Tr.flat, hy])
    have hla : a.flat.length ≤ 254 := by simp only [Tr.flat, List.length_append, List.length_cons, List.length_nil] at hl; omega
    have hpa := flat_pos a
    have hin := fun sv W (h : View W sv a.flat) => rin_any x.op sv a.flat W h hpa (by omega)
    rw [top_of] at hin
    have hia := fun sv W (h : View W sv a.flat) => iha sv W hg.2 (by omega) hFa h
    have hna := nest_lt a
    obtain ⟨b, off, c, n, rfl, hn, hc, u0⟩ := hV.last
    simp only [Tr.top] at u0
    obtain ⟨N, hN⟩ : ∃ N, n + 1 = N := ⟨_, rfl⟩
    rw [hN] at hP hV ⊢
    have hci : (N : Int) ≤ (c : Int) := by omega
    have hni : (n : Int) ≤ 254 := by omega
    have hnN : (N : Int) - 1 = (n : Int) := by omega
    have hnl : (n : Int) < (N : Int) := by omega
    clear hN
    obtain ⟨D, hD⟩ : ∃ D, (Tr.one x a).nest = D := ⟨_, rfl⟩
    rw [hD]
    have HI : Hid (D = a.nest + (if brkZ x.op a.top.op = true then 1 else 0)) := hD.symm
    clear hD
    clear hV hF hl hg iha hFa hn
    generalize a.top.op = ao at *
    generalize x.op = xo at *
    go_enter Tryz.func57, Tryz.ntmps57
    go_wp2_with fail
    refine (hT _).mono ?_
    rintro e w1 ⟨rfl, rfl⟩
    clear hT
    go_wp2_with fail
    refine hP.mono ?_
    rintro e w2 ⟨⟨s1, s2, rfl, h1, h2⟩, hb2⟩
    have hu2 : Below w2.heap.size w2 (w2.alloc (.cells #[s1, s2] 114)) := (Below.refl _ _).alloc (Nat.le_refl _) _
    obtain ⟨o1, c1, rfl, _⟩ := h1.slice
    obtain ⟨o2, c2, rfl, _⟩ := h2.slice
    replace h1 : View w2 (.slice o1 0 c1) [] := h1
    replace h2 : View w2 (.slice o2 a.flat.length c2) a.flat := h2
    have hI : NeI w (w2.alloc (.cells #[.slice o1 0 c1, .slice o2 a.flat.length c2] 114)) w2.heap.size (.slice o1 0 c1) (.slice o2 a.flat.length c2) [] a.flat := ⟨h1.go hu2, h2.go hu2, by simp [go_sem], by simp [go_sem], hb2.trans (hu2.mono hb2.size)⟩
    replace u0 := (hu2.cell (p := ⟨b, off + n * 6, none⟩) (Nat.lt_of_lt_of_le (cell_lt u0) hb2.size)).trans ((hb2.cell (p := ⟨b, off + n * 6, none⟩) (cell_lt u0)).trans u0)
    clear h1 h2 hb2 hP hu2
    go_upto_region 5 with fail
    change Code.wp _ _ _ _ (w2.alloc (.cells #[.slice o1 0 c1, .slice o2 a.flat.length c2] 114))
    generalize w2.alloc (.cells #[.slice o1 0 c1, .slice o2 a.flat.length c2] 114) = W3 at *
    generalize w2.heap.size = pb at *
    have p1 := hI.p1
    go_wp2_with fail
    refine (hia _ _ hI.v2).mono ?_
    rintro e W4 ⟨rfl, hb4⟩
    replace u0 := (hb4.cell (p := ⟨b, off + n * 6, none⟩) (cell_lt u0)).trans u0
    replace hI := hI.go hb4
    clear p1 hb4 hia
    have p1 := hI.p1
    go_wp2_with fail
    go_still_tail 7, (by kernel_rfl)
    change wpList _ _ _ _ _ W4.drew
    replace hI := hI.go (Below.refl _ _).drew
    clear u0 p1
    generalize W4.drew = V at *
    go_wp2_with fail
    refine (hin _ _ hI.v2).mono ?_
    rintro e V5 ⟨rfl, hb5⟩
    replace hI := hI.go hb5
    have p0 := hI.p0
    have hB := hI.below
    clear hI hb5 hin
    have hai : (a.nest : Int) ≤ 254 := by omega
    generalize a.nest = d at *
    cases hbk : brkZ xo ao with
    | true =>
      rw [hbk] at HI
      have HE : Hid ((D : Int) = (d : Int) + 1) := by have := HI.out; show _ = _; simp at this; omega
      clear HI
      go_wp2_with fail
      go_ret
      exact ⟨by rw [HE.out]; rfl, hB⟩
    | false =>
      rw [hbk] at HI
      have HE : Hid ((D : Int) = (d : Int)) := by have := HI.out; show _ = _; simp at this; omega
      clear HI
      go_wp2_with fail
      go_ret
      exact ⟨by rw [HE.out]; rfl, hB⟩
  | two x a b iha ihb =>
    intro s w hg hl hF hV
    have hT := fun W => rtakes_any x.op W
    rw [hg.1.2] at hT
    have hP := rparts_any s _ w hV hF (by omega)
    rw [parts_two hg hl] at hP
    have hFa : ∀ y ∈ a.flat, y.text.length ≤ 9223372036854775807 := fun y hy => hF y (by simp [Tr.flat, hy])
    have hFb : ∀ y ∈ b.flat, y.text.length ≤ 9223372036854775807 := fun y hy => hF y (by simp [Tr.flat, hy])
    have hll : a.flat.length + b.flat.length ≤ 254 := by simp only [Tr.flat, List.length_append, List.length_cons, List.length_nil] at hl; omega
    have hpa := flat_pos a
    have hpb := flat_pos b
    have hin := fun sv W (h : View W sv b.flat) => rin_any x.op sv b.flat W h hpb (by omega)
    rw [top_of] at hin
    have hia := fun sv W (h : View W sv a.flat) => iha sv W hg.2.1 (by omega) hFa h
    have hib := fun sv W (h : View W sv b.flat) => ihb sv W hg.2.2 (by omega) hFb h
    have hna := nest_lt a
    have hnb := nest_lt b
    obtain ⟨b0, off, c, n, rfl, hn, hc, u0⟩ := hV.last
    simp only [Tr.top] at u0
    obtain ⟨N, hN⟩ : ∃ N, n + 1 = N := ⟨_, rfl⟩
    rw [hN] at hP hV ⊢
    have hci : (N : Int) ≤ (c : Int) := by omega
    have hni : (n : Int) ≤ 254 := by omega
    have hnN : (N : Int) - 1 = (n : Int) := by omega
    have hnl : (n : Int) < (N : Int) := by omega
    clear hN
    obtain ⟨D, hD⟩ : ∃ D, (Tr.two x a b).nest = D := ⟨_, rfl⟩
    rw [hD]
    have HI : Hid (D = max a.nest (b.nest + (if brkZ x.op b.top.op = true then 1 else 0))) := hD.symm
    clear hD
    clear hV hF hl hg iha ihb hFa hFb hn
    generalize b.top.op = ao at *
    generalize x.op = xo at *
    have hla0 : (0 : Int) < (a.flat.length : Int) := by omega
    go_enter Tryz.func57, Tryz.ntmps57
    go_wp2_with fail
    refine (hT _).mono ?_
    rintro e w1 ⟨rfl, rfl⟩
    clear hT
    go_wp2_with fail
    refine hP.mono ?_
    rintro e w2 ⟨⟨s1, s2, rfl, h1, h2⟩, hb2⟩
    have hu2 : Below w2.heap.size w2 (w2.alloc (.cells #[s1, s2] 114)) := (Below.refl _ _).alloc (Nat.le_refl _) _
    obtain ⟨o1, c1, rfl, _⟩ := h1.slice
    obtain ⟨o2, c2, rfl, _⟩ := h2.slice
    replace h1 : View w2 (.slice o1 a.flat.length c1) a.flat := h1
    replace h2 : View w2 (.slice o2 b.flat.length c2) b.flat := h2
    have hI : NeI w (w2.alloc (.cells #[.slice o1 a.flat.length c1, .slice o2 b.flat.length c2] 114)) w2.heap.size (.slice o1 a.flat.length c1) (.slice o2 b.flat.length c2) a.flat b.flat := ⟨h1.go hu2, h2.go hu2, by simp [go_sem], by simp [go_sem], hb2.trans (hu2.mono hb2.size)⟩
    replace u0 := (hu2.cell (p := ⟨b0, off + n * 6, none⟩) (Nat.lt_of_lt_of_le (cell_lt u0) hb2.size)).trans ((hb2.cell (p := ⟨b0, off + n * 6, none⟩) (cell_lt u0)).trans u0)
    clear h1 h2 hb2 hP hu2
    go_upto_region 5 with fail
    change Code.wp _ _ _ _ (w2.alloc (.cells #[.slice o1 a.flat.length c1, .slice o2 b.flat.length c2] 114))
    generalize w2.alloc (.cells #[.slice o1 a.flat.length c1, .slice o2 b.flat.length c2] 114) = W3 at *
    generalize w2.heap.size = pb at *
    have p1 := hI.p1
    go_wp2_with fail
    refine (hib _ _ hI.v2).mono ?_
    rintro e W4 ⟨rfl, hb4⟩
    replace u0 := (hb4.cell (p := ⟨b0, off + n * 6, none⟩) (cell_lt u0)).trans u0
    replace hI := hI.go hb4
    clear p1 hb4 hib
    have p1 := hI.p1
    go_wp2_with fail
    go_still_tail 7, (by kernel_rfl)
    change wpList _ _ _ _ _ W4.drew
    replace hI := hI.go (Below.refl _ _).drew
    clear u0 p1
    generalize W4.drew = V at *
    go_wp2_with fail
    refine (hin _ _ hI.v2).mono ?_
    rintro e V5 ⟨rfl, hb5⟩
    replace hI := hI.go hb5
    have p0 := hI.p0
    clear hb5 hin
    have hai : (a.nest : Int) ≤ 254 := by omega
    have hbi : (b.nest : Int) ≤ 254 := by omega
    cases hbk : brkZ xo ao with
    | true =>
      rw [hbk] at HI
      have HE : Hid ((D : Int) = ((max a.nest (b.nest + 1) : Nat) : Int)) := by have := HI.out; show _ = _; simp only [if_true] at this; rw [this]
      clear HI
      go_wp2_with fail
      refine (hia _ _ hI.v1).mono ?_
      rintro e V6 ⟨rfl, hb6⟩
      have hB := (hI.go hb6).below
      clear hI hb6 hia p0
      generalize a.nest = d at *
      generalize b.nest = d2 at *
      by_cases hmx : d2 + 1 < d
      · have hmi : (d2 : Int) + 1 < (d : Int) := by omega
        have HE2 : Hid ((D : Int) = (d : Int)) := by show _ = _; rw [HE.out]; omega
        go_wp2_with fail
        go_ret
        exact ⟨by rw [HE2.out]; rfl, hB⟩
      · have hmi : ¬ (d2 : Int) + 1 < (d : Int) := by omega
        have hmi2 : (d : Int) ≤ (d2 : Int) + 1 := by omega
        have HE2 : Hid ((D : Int) = (d2 : Int) + 1) := by show _ = _; rw [HE.out]; omega
        go_wp2_with fail
        go_ret
        exact ⟨by rw [HE2.out]; rfl, hB⟩
    | false =>
      rw [hbk] at HI
      have HE : Hid ((D : Int) = ((max a.nest b.nest : Nat) : Int)) := by have := HI.out; show _ = _; simp only [Bool.false_eq_true, if_false, Nat.add_zero] at this; rw [this]
      clear HI
      go_wp2_with fail
      refine (hia _ _ hI.v1).mono ?_
      rintro e V6 ⟨rfl, hb6⟩
      have hB := (hI.go hb6).below
      clear hI hb6 hia p0
      generalize a.nest = d at *
      generalize b.nest = d2 at *
      by_cases hmx : d2 < d
      · have hmi : (d2 : Int) < (d : Int) := by omega
        have HE2 : Hid ((D : Int) = (d : Int)) := by show _ = _; rw [HE.out]; omega
        go_wp2_with fail
        go_ret
        exact ⟨by rw [HE2.out]; rfl, hB⟩
      · have hmi : ¬ (d2 : Int) < (d : Int) := by omega
        have hmi2 : (d : Int) ≤ (d2 : Int) := by omega
        have HE2 : Hid ((D : Int) = (d2 : Int)) := by show _ = _; rw [HE.out]; omega
        go_wp2_with fail
        go_ret
        exact ⟨by rw [HE2.out]; rfl, hB⟩

set_option maxRecDepth 100000 in
set_option maxHeartbeats 2000000 in
theorem rNest_any (s : Value) (L : List Stp) (w : World) (hV : View w s L) (hF : ∀ x ∈ L, x.text.length ≤ 9223372036854775807) (hl : L.length ≤ 100000) :
    Calls Tryz.prog 36 #[s] w fun e w' => e = .returned (.int .i64 (nestZ symT L)) ∧ Below w.heap.size w w' := by
  have hS := rsound_any s L w hV hF hl
  cases hs : soundZ symT L with
  | false =>
    have hz : nestZ symT L = -1 := by unfold nestZ; rw [hs]; rfl
    rw [hs] at hS
    rw [hz]
    clear hV hF
    go_enter Tryz.func36, Tryz.ntmps36
    go_wp2_with fail
    refine hS.mono ?_
    rintro e w2 ⟨rfl, hb2⟩
    go_wp2_with fail
    go_ret
    exact ⟨rfl, hb2⟩
  | true =>
    rw [hs] at hS
    obtain ⟨t, hg, rfl, h255⟩ := sound_tree hs
    rw [nest_tree hg h255]
    have hR := fun W h => rnest_x t s W hg h255 hF h
    clear hF hs
    go_enter Tryz.func36, Tryz.ntmps36
    go_wp2_with fail
    refine hS.mono ?_
    rintro e w2 ⟨rfl, hb2⟩
    have hV2 := hV.go hb2
    go_wp2_with fail
    refine (hR _ hV2).mono ?_
    rintro e w3 ⟨rfl, hb3⟩
    have hB := hb2.trans (hb3.mono hb2.size)
    go_wp2_with fail
    go_ret
    exact ⟨rfl, hB⟩

end Go.Proofs.YthofogokpolhdaaGreatDoor.Trees


/-
  Contract of drachmlaw05.spoilt.
-/
import Derived.Test.YtpmibcdmaaagjaaDoorJ1
import Derived.Test.YtpmibcdmaaagjaaDoorJ2
import Derived.Test.YtpmibcdmaaagjaaDoorJ3
import Derived.Test.YtpmibcdmaaagjaaDoorJ4
import Derived.Test.YtpmibcdmaaagjaaDoorJ5
import Derived.Test.YtpmibcdmaaagjaaDoorJ6
namespace Go.Proofs.YtpmibcdmaaagjaaDoor.Atoms
open Go.RowKit Go.Shelf
set_option linter.unusedVariables false
set_option linter.unusedSimpArgs false

set_option maxRecDepth 100000 in
set_option maxHeartbeats 4000000 in
theorem spoilt_none (how at_ n : Int) (tx : List UInt8) (rows : List Row) (S : Nat → Value) (ps : List Pre) (M m : Nat) (w : World) (o o2 : Option Addr) (c c2 : Nat) (hA : AtomsSl w (.slice o rows.length c) rows S) (hP : PrefsSl w (.slice o2 ps.length c2) ps) (hM : rows.length ≤ M) (l2 : ps.length ≤ 1000)
    (hok : RowsOk m rows) (hpf : ∀ p ∈ ps, p.c5.Fine) (hz : rows.length = 0 ∨ ps.length = 0) :
    Calls Tryd.prog 7 #[.agg #[.slice o rows.length c, .slice o2 ps.length c2], .agg #[.int .i64 how, .int .i64 at_, .int .i64 n, .string (bs tx)]] w (SpoiltEnd M m w) := by
  have HE : Hid (∀ w', Below w.heap.size w w' → SpoiltEnd M m w (.returned (.agg #[.slice o rows.length c, .slice o2 ps.length c2])) w') := fun w' hb => ⟨_, _, rows, S, ps, rfl, hA.go hb, SliceAt.go hP hb, hM, l2, hok, hpf, hb⟩
  clear hA hP hok hpf hM
  obtain ⟨n1, hn1⟩ : ∃ n1, rows.length = n1 := ⟨_, rfl⟩
  obtain ⟨n2, hn2⟩ : ∃ n2, ps.length = n2 := ⟨_, rfl⟩
  rw [hn1, hn2] at HE hz ⊢
  clear hn1 hn2 l2
  by_cases e1 : n1 = 0
  · subst e1
    clear hz
    go_enter Tryd.func7, Tryd.ntmps7
    go_wp2
    refine bodyPost_ret (v := .agg #[.slice o 0 c, .slice o2 n2 c2]) (by simp [results, Tryd.results7, go_sem]) rfl (HE.out _ (by go_grown))
  · have e2 : n2 = 0 := by omega
    subst e2
    have j1 : ((n1 : Int) == 0) = false := by rw [beq_eq_false_iff_ne]; omega
    clear hz e1
    go_enter Tryd.func7, Tryd.ntmps7
    go_wp2
    refine bodyPost_ret (v := .agg #[.slice o n1 c, .slice o2 0 c2]) (by simp [results, Tryd.results7, go_sem]) rfl (HE.out _ (by go_grown))

theorem spoilt_any (how at_ n : Int) (tx : List UInt8) (sa sp : Value) (rows : List Row) (S : Nat → Value) (ps : List Pre) (M m : Nat) (w : World) (hA : AtomsSl w sa rows S) (hP : PrefsSl w sp ps) (l1 : rows.length ≤ 1000) (l2 : ps.length ≤ 1000)
    (hM : rows.length + 120 ≤ M) (hM2 : M ≤ 1900) (hm : m ≤ 900) (hok : RowsOk m rows) (hpf : ∀ p ∈ ps, p.c5.Fine) (hn : -9223372036854775808 ≤ n ∧ n ≤ 9223372036854775807) (htx : tx.length ≤ 9223372036854775807) :
    Calls Tryd.prog 7 #[.agg #[sa, sp], .agg #[.int .i64 how, .int .i64 at_, .int .i64 n, .string (bs tx)]] w (SpoiltEnd M (m + 1) w) := by
  obtain ⟨o, c, rfl⟩ := SliceAt.slice hA.1
  obtain ⟨o2, c2, rfl⟩ := SliceAt.slice hP
  by_cases hz : rows.length = 0 ∨ ps.length = 0
  · exact spoilt_none how at_ n tx rows S ps M (m + 1) w o o2 c c2 hA hP (by omega) l2 (fun r hr => ⟨(hok r hr).1, Nat.le_succ_of_le (hok r hr).2⟩) hpf hz
  · have g1 : 0 < rows.length := by omega
    have g2 : 0 < ps.length := by omega
    have hh := restN_lt how 14 (by omega)
    have h14 : (restN how 14 = 0 ∨ restN how 14 = 2 ∨ restN how 14 = 3 ∨ restN how 14 = 4) ∨ (restN how 14 = 5 ∨ restN how 14 = 6 ∨ restN how 14 = 12) ∨ (restN how 14 = 1 ∨ restN how 14 = 11) ∨ (restN how 14 = 7 ∨ restN how 14 = 8) ∨ (restN how 14 = 9 ∨ restN how 14 = 13) ∨ restN how 14 = 10 := by omega
    rcases h14 with h | h | h | h | h | h
    · exact spoilt_a how at_ n tx rows S ps M m w o o2 c c2 hA hP l1 l2 g1 g2 hM hM2 hm hok hpf hn htx h
    · exact spoilt_b how at_ n tx rows S ps M m w o o2 c c2 hA hP l1 l2 g1 g2 hM hM2 hm hok hpf hn htx h
    · exact spoilt_c how at_ n tx rows S ps M m w o o2 c c2 hA hP l1 l2 g1 g2 hM hM2 hm hok hpf hn htx h
    · exact spoilt_d how at_ n tx rows S ps M m w o o2 c c2 hA hP l1 l2 g1 g2 hM hM2 hm hok hpf hn htx h
    · exact spoilt_e how at_ n tx rows S ps M m w o o2 c c2 hA hP l1 l2 g1 g2 hM hM2 hm hok hpf hn htx h
    · exact spoilt_f how at_ n tx rows S ps M m w o o2 c c2 hA hP l1 l2 g1 g2 hM hM2 hm hok hpf hn htx h

/-- What the document's table is, as a table that may be spoilt. -/
theorem table_ok : RowsOk 9 tableRs ∧ ∀ p ∈ tablePs, p.c5.Fine := by
  have hB : (tableRs.all fun r => r.c5.l.all (fun s => decide (s.length ≤ 1000)) && (decide (r.num ≤ 9223372036854775807) && (decide (r.den ≤ 9223372036854775807) && (decide (r.ts.length ≤ 9) && decide (-9223372036854775808 ≤ r.ten ∧ r.ten ≤ 9223372036854775807))))) = true := by decide +kernel
  have hPB : (tablePs.all fun r => r.c5.l.all (fun s => decide (s.length ≤ 1000))) = true := by decide +kernel
  have c5f : ∀ c : C5, c.l.all (fun s => decide (s.length ≤ 1000)) = true → c.Fine := by
    intro c hc
    have h1 := List.all_eq_true.1 hc
    have h2 : ∀ s ∈ c.l, s.length ≤ 9223372036854775807 := fun s hs => by have := h1 s hs; simp at this; omega
    exact fine5_of c (h2 _ (by simp [C5.l])) (h2 _ (by simp [C5.l])) (h2 _ (by simp [C5.l])) (h2 _ (by simp [C5.l])) (h2 _ (by simp [C5.l]))
  refine ⟨fun r hr => ?_, fun p hp => c5f _ (List.all_eq_true.1 hPB p hp)⟩
  have := List.all_eq_true.1 hB r hr
  simp only [Bool.and_eq_true, decide_eq_true_eq] at this
  exact ⟨⟨⟨c5f _ this.1, this.2.1, this.2.2.1, by have := this.2.2.2.1; omega⟩, this.2.2.2.2⟩, this.2.2.2.1⟩

end Go.Proofs.YtpmibcdmaaagjaaDoor.Atoms

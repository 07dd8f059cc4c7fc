/-
  Contracts of codes.ofAtoms, codes.ofPrefixes, codes.All: what they hand back tells the atoms, or the prefixes, of a notation.
-/
import Derived.Test.YtpmibcdmaaagjaaH3
import Derived.Test.YtpmibcdmaaagjaaAX
namespace Go.Proofs.Ytpmibcdmaaagjaa.Atoms
open Go.RowKit Go.Proofs.Ytpmibcdmaaagjaa.Ranges
set_option linter.unusedVariables false
set_option linter.unusedSimpArgs false

def csA : List C5 := tableRs.map Row.c5
def csP : List C5 := tablePs.map Pre.c5
theorem csA_len : csA.length = 48 := by unfold csA; rw [List.length_map]; kernel_rfl
theorem csP_len : csP.length = 20 := by unfold csP; rw [List.length_map]; kernel_rfl
theorem csA_at (i : Nat) : csA.getD i noC = (tableRs.getD i default).c5 := by
  unfold csA
  rw [List.getD_eq_getElem?_getD, List.getD_eq_getElem?_getD, List.getElem?_map]
  cases tableRs[i]? <;> rfl
theorem csP_at (i : Nat) : csP.getD i noC = (tablePs.getD i default).c5 := by
  unfold csP
  rw [List.getD_eq_getElem?_getD, List.getD_eq_getElem?_getD, List.getElem?_map]
  cases tablePs[i]? <;> rfl
theorem codes_A {V : World} {b : Nat} {S : Nat → Value} (hg : Grid V b 12 tableRs.length (cellA tableRs S)) : CodesIn V b 12 csA := by
  intro i hi j hj
  rw [csA_at]
  have := hg.1 i (by unfold csA at hi; rwa [List.length_map] at hi) j (by omega)
  rw [this]
  match j, hj with
  | 0, _ => rfl
  | 1, _ => rfl
  | 2, _ => rfl
  | 3, _ => rfl
  | 4, _ => rfl
theorem codes_P {V : World} {b : Nat} (hg : Grid V b 6 tablePs.length (cellP tablePs)) : CodesIn V b 6 csP := by
  intro i hi j hj
  rw [csP_at]
  have := hg.1 i (by unfold csP at hi; rwa [List.length_map] at hi) j (by omega)
  rw [this]
  match j, hj with
  | 0, _ => rfl
  | 1, _ => rfl
  | 2, _ => rfl
  | 3, _ => rfl
  | 4, _ => rfl

/-- A function that tells rows, in a world. -/
def SeqN (g : Nat) (lb : Array Value) (cs : List C5) (n : Int) (lo : Nat) (w : World) : Prop :=
  ∀ N, 1 ≤ N → Seq Fence.wide N Try.prog g lb encN (GuardN cs n) (Kept lo w.heap.size) (fun xs => xs = told cs n) (fun pre => ∃ k, k ≤ cs.length ∧ pre = toldTo cs n k) w
/-- How what hands one back ends. -/
def OfEnd (g : Nat) (cs : List C5) (n : Int) (w : World) (e : Ending) (w' : World) : Prop := ∃ lb, e = .returned (.func (.func g) #[] lb) ∧ Below w.heap.size w w' ∧ SeqN g lb cs n w.heap.size w'
theorem seqA {lo : Nat} {V : World} {b1 b2 b3 : Nat} {n : Int} {b c : Nat} (hn : -9223372036854775808 ≤ n ∧ n ≤ 9223372036854775807) (h : CallI lo V b1 b2 b3 n 30 b 12 c csA) :
    SeqN 34 #[.pointer (some ⟨b1, 0, none⟩), .pointer (some ⟨b2, 0, none⟩), .pointer (some ⟨b3, 0, none⟩)] csA n lo V :=
  fun N hN l J Jx W hW hJ hJx hY h0 => calledA_in N l b1 b2 b3 b c lo n csA V hN (by rw [csA_len]; omega) hn h J Jx hJ hJx hY W hW h0
theorem seqP {lo : Nat} {V : World} {b1 b2 b3 : Nat} {n : Int} {b c : Nat} (hn : -9223372036854775808 ≤ n ∧ n ≤ 9223372036854775807) (h : CallI lo V b1 b2 b3 n 32 b 6 c csP) :
    SeqN 40 #[.pointer (some ⟨b1, 0, none⟩), .pointer (some ⟨b2, 0, none⟩), .pointer (some ⟨b3, 0, none⟩)] csP n lo V :=
  fun N hN l J Jx W hW hJ hJx hY h0 => calledP_in N l b1 b2 b3 b c lo n csP V hN (by rw [csP_len]; omega) hn h J Jx hJ hJx hY W hW h0

/-- Three boxes, one behind the other. -/
def three (w : World) (n : Int) (s f : Value) (t1 t2 t3 : TypeId) : World := ((w.alloc (.cells #[.int .i64 n] t1)).alloc (.cells #[s] t2)).alloc (.cells #[f] t3)

set_option maxRecDepth 100000 in
set_option maxHeartbeats 2000000 in
theorem calledA_call (n : Int) (b c : Nat) (w : World) :
    Calls Try.prog 28 #[.int .i64 n, .slice (some ⟨b, 0, none⟩) 48 c, .func (.func 30) #[] #[]] w fun e w' =>
      e = .returned (.func (.func 34) #[] #[.pointer (some ⟨w.heap.size, 0, none⟩), .pointer (some ⟨w.heap.size + 1, 0, none⟩), .pointer (some ⟨w.heap.size + 1 + 1, 0, none⟩)]) ∧ Below w.heap.size w w'
      ∧ w'.cell? ⟨w.heap.size, 0, none⟩ = some (.int .i64 n) ∧ w'.cell? ⟨w.heap.size + 1, 0, none⟩ = some (.slice (some ⟨b, 0, none⟩) 48 c) ∧ w'.cell? ⟨w.heap.size + 1 + 1, 0, none⟩ = some (.func (.func 30) #[] #[]) := by
  go_enter Try.func28, Try.ntmps28
  go_wp2
  go_ret
  refine ⟨rfl, by go_grown, by simp [go_sem], by simp [go_sem], by simp [go_sem]⟩

set_option maxRecDepth 100000 in
set_option maxHeartbeats 2000000 in
theorem calledP_call (n : Int) (b c : Nat) (w : World) :
    Calls Try.prog 31 #[.int .i64 n, .slice (some ⟨b, 0, none⟩) 20 c, .func (.func 32) #[] #[]] w fun e w' =>
      e = .returned (.func (.func 40) #[] #[.pointer (some ⟨w.heap.size, 0, none⟩), .pointer (some ⟨w.heap.size + 1, 0, none⟩), .pointer (some ⟨w.heap.size + 1 + 1, 0, none⟩)]) ∧ Below w.heap.size w w'
      ∧ w'.cell? ⟨w.heap.size, 0, none⟩ = some (.int .i64 n) ∧ w'.cell? ⟨w.heap.size + 1, 0, none⟩ = some (.slice (some ⟨b, 0, none⟩) 20 c) ∧ w'.cell? ⟨w.heap.size + 1 + 1, 0, none⟩ = some (.func (.func 32) #[] #[]) := by
  go_enter Try.func31, Try.ntmps31
  go_wp2
  go_ret
  refine ⟨rfl, by go_grown, by simp [go_sem], by simp [go_sem], by simp [go_sem]⟩

theorem fld0 (a b : Value) (w : World) : (Instr.field 33 (.agg #[a, b]) 0).run Try.prog w = .ok a w := by kernel_rfl
theorem fld1 (a b : Value) (w : World) : (Instr.field 33 (.agg #[a, b]) 1).run Try.prog w = .ok b w := by kernel_rfl

attribute [local irreducible] tableRs tablePs csA csP

set_option maxRecDepth 100000 in
set_option maxHeartbeats 2000000 in
theorem ofAtoms_any (n : Int) (w : World) (hn : -9223372036854775808 ≤ n ∧ n ≤ 9223372036854775807) : Calls Try.prog 21 #[.int .i64 n] w (OfEnd 34 csA n w) := by
  go_enter Try.func21, Try.ntmps21
  go_wp2_with fail
  refine (table_any w).mono ?_
  rintro e w1 ⟨sa, sp, S, rfl, hT, hb1⟩
  have hA48 : tableRs.length = 48 := by have := csA_len; unfold csA at this; rwa [List.length_map] at this
  obtain ⟨b, c, rfl, hg⟩ : ∃ b c, sa = .slice (some ⟨b, 0, none⟩) 48 c ∧ Grid w1 b 12 tableRs.length (cellA tableRs S) := by
    rcases hT.atoms.1 with ⟨h0, _⟩ | ⟨b, c, hs, _, _, hg⟩
    · omega
    · exact ⟨b, c, by rw [hs, hA48], hg⟩
  have hab : w.heap.size ≤ b := hT.aa _ _ _ rfl
  have hcd := codes_A hg
  have hbl := hg.2.2
  have hz1 := hb1.size
  obtain ⟨o2, n2, c2, rfl⟩ : ∃ o n c, sp = Value.slice o n c := by obtain ⟨o, c, h⟩ := SliceAt.slice hT.prefs; exact ⟨o, _, c, h⟩
  clear hT hg hA48
  have f0 := fld0
  go_wp2_with fail
  refine (calledA_call n b c w1).mono ?_
  rintro e w2 ⟨rfl, hb2, x1, x2, x3⟩
  go_wp2
  go_ret
  have hz2 := hb2.size
  have l1 := cell_lt x1
  have l2 := cell_lt x2
  have l3 := cell_lt x3
  refine ⟨_, rfl, hb1.trans (hb2.mono hz1), seqA (c := c) hn ⟨x1, ?_, x3, hcd.kept (hb2.block b hbl), ⟨by omega, l1⟩, ⟨by omega, l2⟩, ⟨by omega, l3⟩, ⟨hab, by omega⟩⟩⟩
  rw [csA_len]; exact x2

set_option maxRecDepth 100000 in
set_option maxHeartbeats 2000000 in
theorem ofPrefixes_any (n : Int) (w : World) (hn : -9223372036854775808 ≤ n ∧ n ≤ 9223372036854775807) : Calls Try.prog 23 #[.int .i64 n] w (OfEnd 40 csP n w) := by
  go_enter Try.func23, Try.ntmps23
  go_wp2_with fail
  refine (table_any w).mono ?_
  rintro e w1 ⟨sa, sp, S, rfl, hT, hb1⟩
  have hP20 : tablePs.length = 20 := by have := csP_len; unfold csP at this; rwa [List.length_map] at this
  obtain ⟨b, c, rfl, hg⟩ : ∃ b c, sp = .slice (some ⟨b, 0, none⟩) 20 c ∧ Grid w1 b 6 tablePs.length (cellP tablePs) := by
    rcases hT.prefs with ⟨h0, _⟩ | ⟨b, c, hs, _, _, hg⟩
    · omega
    · exact ⟨b, c, by rw [hs, hP20], hg⟩
  have hab : w.heap.size ≤ b := hT.ap _ _ _ rfl
  have hcd := codes_P hg
  have hbl := hg.2.2
  have hz1 := hb1.size
  obtain ⟨o2, n2, c2, rfl⟩ : ∃ o n c, sa = Value.slice o n c := by obtain ⟨o, c, h⟩ := SliceAt.slice hT.atoms.1; exact ⟨o, _, c, h⟩
  clear hT hg hP20
  have f1 := fld1
  go_wp2_with fail
  refine (calledP_call n b c w1).mono ?_
  rintro e w2 ⟨rfl, hb2, x1, x2, x3⟩
  go_wp2
  go_ret
  have hz2 := hb2.size
  have l1 := cell_lt x1
  have l2 := cell_lt x2
  have l3 := cell_lt x3
  refine ⟨_, rfl, hb1.trans (hb2.mono hz1), seqP (c := c) hn ⟨x1, ?_, x3, hcd.kept (hb2.block b hbl), ⟨by omega, l1⟩, ⟨by omega, l2⟩, ⟨by omega, l3⟩, ⟨hab, by omega⟩⟩⟩
  rw [csP_len]; exact x2

theorem all_any (n : Int) (w : World) (hn : -9223372036854775808 ≤ n ∧ n ≤ 9223372036854775807) : Calls Try.prog 24 #[.int .i64 n] w (OfEnd 34 csA n w) := by
  go_enter Try.func24, Try.ntmps24
  go_wp2_with fail
  refine (ofAtoms_any n w hn).mono ?_
  rintro e w1 ⟨lb, rfl, hb, hs⟩
  go_wp2
  go_ret
  exact ⟨lb, rfl, hb, hs⟩

end Go.Proofs.Ytpmibcdmaaagjaa.Atoms

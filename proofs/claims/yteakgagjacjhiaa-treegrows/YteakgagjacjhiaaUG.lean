/-
  Contracts of the closure of tree.Sound, of tree.Sound.
-/
import Derived.Test.YteakgagjacjhiaaUE
import Derived.Test.YteakgagjacjhiaaUF
import Derived.Test.YteakgagjacjhiaaAX
import Derived.StillTailTactics
namespace Go.Proofs.Yteakgagjacjhiaa.Trees
open Go.RowKit Go.Shelf
open Go.Proofs.Yteakgagjacjhiaa.Style (bs bs_size bs_at getD_at bs_of)
open Go.Proofs.Yteakgagjacjhiaa.Toks (cell_lt cell_same)
open Go.Proofs.Yteakgagjacjhiaa.Atoms (Row Pre tableRs tablePs TableAt TableEnd table_any)
set_option linter.unusedVariables false
set_option linter.unusedSimpArgs false

set_option maxRecDepth 100000 in
theorem find_any (b : Nat) (k : Nat) (op : Int) (w : World) (hc : w.cell? ⟨b, 0, none⟩ = some (.int .i64 (k : Int))) (hf : w.frozen? ⟨b, 0, none⟩ = false) (hk : k ≤ 1000) :
    Calls Try.prog 26 #[.int .i64 op, .pointer (some ⟨b, 0, none⟩)] w fun e w' => e = .returned (.bool (decide (takesZ op ≤ k))) ∧ Toks.Only b w w' ∧ w'.cell? ⟨b, 0, none⟩ = some (.int .i64 ((k : Int) + (1 - (takesZ op : Int)))) ∧ w'.frozen? ⟨b, 0, none⟩ = false := by
  have hT := fun W => takes_any op W
  have ht := takes_le op
  generalize takesZ op = m at *
  have hmi : (m : Int) ≤ 2 := by omega
  have hki : (k : Int) ≤ 1000 := by omega
  go_enter Try.func26, Try.ntmps26
  go_wp2_with fail
  go_quiet (first | (go_at_call 27; exact Calls.quiet_of_same ((hT _).mono fun e w' h => ⟨h.1, h.2.symm⟩)))
  go_wp2_with fail
  have hO : Toks.Only b w (w.drewN nq) := ⟨rfl, rfl, rfl, rfl, fun _ _ => rfl⟩
  have hc2 : (w.drewN nq).cell? ⟨b, 0, none⟩ = some (.int .i64 (k : Int)) := hc
  have hf2 : (w.drewN nq).frozen? ⟨b, 0, none⟩ = false := hf
  clear hc hf
  generalize w.drewN nq = W at *
  have hO3 : Toks.Only b w W.drew := ⟨hO.os, hO.tape, hO.output, hO.size, hO.block⟩
  have hc3 : W.drew.cell? ⟨b, 0, none⟩ = some (.int .i64 (k : Int)) := hc2
  have hf3 : W.drew.frozen? ⟨b, 0, none⟩ = false := hf2
  have hw1 : IntKind.i64.wrap (1 - (m : Int)) = 1 - (m : Int) := by unfold IntKind.wrap; simp [IntKind.bits, IntKind.signed]; omega
  have hw2 : IntKind.i64.wrap ((k : Int) + (1 - (m : Int))) = (k : Int) + (1 - (m : Int)) := by unfold IntKind.wrap; simp [IntKind.bits, IntKind.signed]; omega
  go_still_tail 5, (by kernel_rfl)
  still_call ((hT _).mono fun e w' h => ⟨h.1, h.2.symm⟩)
  repeat still_step
  refine wpStill_nil ?_
  change wpList _ _ _ _ _ W.drew
  clear hc2 hf2 hO hT
  generalize W.drew = V at *
  go_wp2
  go_ret
  refine ⟨rfl, hO3.set 0 _, ?_, ?_⟩
  · exact World.cell?_setCell_same _ _ _ hc3
  · rw [World.frozen?_setCell]; exact hf3

theorem cnt_next {ok : Int → Int → Bool} {L : List Stp} {i k : Nat} (hi : i < L.length) (h : cntZ ok (L.take i) 0 = some k) :
    cntZ ok (L.take (i + 1)) 0 = (if mayZ ok (L.getD i default) = true ∧ takesZ (L.getD i default).op ≤ k then some (k - takesZ (L.getD i default).op + 1) else none) := by
  rw [List.take_succ_eq_append_getElem hi, cnt_app, h]
  show cntZ ok [L[i]] k = _
  rw [cnt_one, show L.getD i default = L[i] by rw [List.getD_eq_getElem?_getD, List.getElem?_eq_getElem hi]; rfl]
theorem cnt_stop {ok : Int → Int → Bool} {L : List Stp} {i : Nat} (h : cntZ ok (L.take i) 0 = none) : cntZ ok L 0 = none := by
  have : L = L.take i ++ L.drop i := (List.take_append_drop i L).symm
  rw [this, cnt_app, h]; rfl
theorem cnt_le (ok : Int → Int → Bool) : ∀ (L : List Stp) (k m : Nat), cntZ ok L k = some m → m ≤ k + L.length
  | [], k, m, h => by injection h with h; simp; omega
  | x :: r, k, m, h => by
    simp only [cntZ] at h
    split at h
    · have := cnt_le ok r _ m h
      simp only [List.length_cons]; omega
    · cases h

def symT : Int → Int → Bool := symZ tableRs tablePs.length
theorem table_len : tableRs.length = 48 ∧ tablePs.length ≤ 100 := by decide +kernel
/-- Of a table in memory, what is looked at. -/
theorem tab_of {B : Nat} {w : World} {oa : Option Addr} {n ca : Nat} {sp : Value} {rows : List Row} {S : Nat → Value} {ps : List Pre} (h : TableAt B w (.slice oa n ca) sp rows S ps) : n = rows.length ∧ rows.length ≤ ca ∧ TabAt w oa ca rows ∧ (∃ op cp, sp = .slice op ps.length cp) ∧ (∀ a, oa = some a → B ≤ a.block) := by
  obtain ⟨hA, hP, ha, hp, _⟩ := h
  refine ⟨?_, ?_, ?_, ?_, fun a e => ha a n ca (by rw [e])⟩
  · rcases hA.1 with ⟨h0, e⟩ | ⟨b, c, e, _⟩
    · injection e with _ e2; omega
    · injection e with _ e2
  · rcases hA.1 with ⟨h0, e⟩ | ⟨b, c, e, hc, _⟩
    · omega
    · injection e with _ _ e3; omega
  · intro i hi
    rcases hA.1 with ⟨h0, e⟩ | ⟨b, c, e, hc, hm, hg⟩
    · omega
    · injection e with e1 _ _
      exact ⟨b, e1, hg.1 i hi 5 (by omega)⟩
  · rcases hP with ⟨h0, e⟩ | ⟨b, c, e, hc, hm, hg⟩
    · exact ⟨none, 0, by rw [e, h0]⟩
    · exact ⟨_, c, e⟩
theorem TabAt.other {w : World} {oa : Option Addr} {ca : Nat} {rows : List Row} (h : TabAt w oa ca rows) {B b : Nat} (hb : b < B) (ha : ∀ a, oa = some a → B ≤ a.block) (u : Value) : TabAt (w.setCell ⟨b, 0, none⟩ u) oa ca rows := fun i hi => by
  obtain ⟨b', e, hc⟩ := h i hi
  have := ha _ e
  refine ⟨b', e, ?_⟩
  rw [World.cell?_setCell_other _ _ _ _ (by intro hh; injection hh with e1 _; simp only at this; omega)]
  exact hc

end Go.Proofs.Yteakgagjacjhiaa.Trees

/-
  Contracts of tree.lastTree and of the document's Cut. Rows of steps of one's own; contract of slices.Clone of steps.
-/
import Derived.Test.YthofogokpolhdaaGreatDoorUBX
import Derived.Test.YthofogokpolhdaaGreatDoorUEX
namespace Go.Proofs.YthofogokpolhdaaGreatDoor.Trees
open Go.RowKit Go.Shelf
open Go.Proofs.YthofogokpolhdaaGreatDoor.Style (bs bs_size bs_at getD_at bs_of)
open Go.Proofs.YthofogokpolhdaaGreatDoor.Toks (cell_lt cell_same)
set_option linter.unusedVariables false
set_option linter.unusedSimpArgs false

/-- One step back. -/
theorem back_step (L : List Stp) (p q : Nat) (hp : p < L.length) : backZ (L.take (p + 1)).reverse (q + 1) = backZ (L.take p).reverse (q + takesZ (L.getD p default).op) + 1 := by
  rw [List.take_succ_eq_append_getElem hp, List.reverse_append, show L.getD p default = L[p] by rw [List.getD_eq_getElem?_getD, List.getElem?_eq_getElem hp]; rfl]
  rfl

theorem back_nil : ∀ q, backZ [] q = 0
  | 0 => rfl
  | q + 1 => rfl
theorem back_zero (l : List Stp) : backZ l 0 = 0 := by cases l <;> rfl

set_option maxRecDepth 100000 in
set_option maxHeartbeats 2000000 in
theorem cut_any (s : Value) (L : List Stp) (w : World) (hV : View w s L) (hl : L.length ≤ 100000) :
    Calls Tryz.prog 92 #[s] w fun e w' => e = .returned (.int .i64 (cutZ L : Int)) ∧ Below w.heap.size w w' := by
  obtain ⟨o, c, rfl, hlc⟩ := hV.slice
  have hli : (L.length : Int) ≤ 100000 := by omega
  obtain ⟨R, hR⟩ : ∃ R, cutZ L = R := ⟨_, rfl⟩
  rw [hR]
  have HR : Hid (L.length - backZ L.reverse 1 = R) := hR
  clear hR
  have HT := Lib.hid (fun (op : Int) (W : World) => rtakes_any op W)
  go_enter Tryz.func92, Tryz.ntmps92
  go_wp2_with fail
  go_loopw [3, 4] (fun x y wr => ∃ (p q : Nat), y = .int .i64 (p : Int) ∧ x = .int .i64 (q : Int) ∧ p ≤ L.length ∧ 0 ≤ q ∧ q ≤ 2 * (L.length - p) + 1 ∧ Hid (backZ L.reverse 1 = (L.length - p) + backZ (L.take p).reverse q) ∧ Below w.heap.size w wr) (fun x y _ => (intOf y).toNat)
  case atStart => exact ⟨L.length, 1, rfl, rfl, by omega, by omega, by omega, by show _ = _; rw [List.take_of_length_le (Nat.le_refl _)]; omega, Below.refl _ _⟩
  case round =>
    obtain ⟨p, q, rfl, rfl, hpl, hq1, hq2, HB, hB⟩ := hrel
    by_cases hp : 0 < p
    · obtain ⟨p, rfl⟩ : ∃ p', p = p' + 1 := ⟨p - 1, by omega⟩
      have hpi : (0 : Int) < ((p + 1 : Nat) : Int) := by omega
      have hpp : ((p + 1 : Nat) : Int) - 1 = (p : Int) := by omega
      have hpl2 : (p : Int) < L.length := by omega
      have hqi : (q : Int) ≤ 300000 := by omega
      obtain ⟨o', c', e', hc', hv⟩ := hV.go hB
      obtain ⟨b, off, eo, v0, v1, v2, v3, v4, v5⟩ := hv p (by omega)
      injection e' with e1 e2 e3
      subst e1 e3
      subst eo
      clear hv
      obtain ⟨x, hx⟩ : ∃ x, L.getD p default = x := ⟨_, rfl⟩
      have hst := fun (q' : Nat) => back_step L p q' (by omega)
      rw [hx] at hst v0 v1 v2 v3 v4 v5
      have hT := fun W => HT.out x.op W
      have ht := takes_le x.op
      generalize takesZ x.op = m at *
      generalize x.op = xo at *
      have HS := Lib.hid hst
      clear hst hx v1 v2 v3 v4 v5
      by_cases hq : 0 < q
      · obtain ⟨q, rfl⟩ : ∃ q', q = q' + 1 := ⟨q - 1, by omega⟩
        have hqi0 : (0 : Int) < ((q + 1 : Nat) : Int) := by omega
        have hqq : ((q + 1 : Nat) : Int) - 1 = (q : Int) := by omega
        have h1 := HB.out
        rw [HS.out q] at h1
        have HB2 := Lib.hid h1
        clear h1 HB HS
        go_wp2_with fail
        refine (hT _).mono ?_
        rintro e w2 ⟨rfl, rfl⟩
        clear hT HT
        have hmi : (m : Int) ≤ 2 := by omega
        go_wp2
        refine ⟨⟨p, q + m, rfl, by simp, by omega, by omega, by omega, ?_, hB⟩, by simp only [intOf]; omega⟩
        have h1 := HB2.out
        show backZ L.reverse 1 = _
        omega
      · have hq0 : q = 0 := by omega
        subst hq0
        have HE : Hid (R = p + 1) := by
          show _ = _
          have h1 := HB.out
          rw [back_zero] at h1
          have h2 := HR.out
          omega
        go_wp2
        go_ret
        exact ⟨by rw [HE.out]; rfl, hB⟩
    · have hp0 : p = 0 := by omega
      subst hp0
      have HE : Hid (R = 0) := by
        show _ = _
        have h1 := HB.out
        rw [List.take_zero, List.reverse_nil, back_nil] at h1
        have h2 := HR.out
        omega
      go_wp2
      all_goals go_ret
      all_goals exact ⟨by rw [HE.out]; rfl, hB⟩

end Go.Proofs.YthofogokpolhdaaGreatDoor.Trees

namespace Go.Proofs.YthofogokpolhdaaGreatDoor.Trees
open Go.RowKit Go.Shelf
open Go.Proofs.YthofogokpolhdaaGreatDoor.Style (bs bs_size bs_at getD_at bs_of)
open Go.Proofs.YthofogokpolhdaaGreatDoor.Toks (cell_lt cell_same Grid SliceAt Spare Above append_any Elem elem_of flat flat_length flat_get wpList_app)
set_option linter.unusedVariables false
set_option linter.unusedSimpArgs false

def cellS (L : List Stp) (i j : Nat) : Value := (L.getD i default).cs[j]?.getD undef
/-- The slice s holds these steps, from its block's beginning on. -/
def StepsAt (w : World) (s : Value) (L : List Stp) : Prop := SliceAt w s 6 L.length (cellS L)
theorem elem_step : Elem 34 47 6 := elem_of (b := 56) (by omega) (by omega) (by kernel_rfl) (by kernel_rfl)
theorem cell_oneS (L : List Stp) : ∀ i, i < L.length → ∀ j, j < 6 → (cellS L i j).oneCell' = true := by
  intro i hi j hj
  unfold cellS Stp.cs
  match j, hj with
  | 0, _ => rfl
  | 1, _ => rfl
  | 2, _ => rfl
  | 3, _ => rfl
  | 4, _ => rfl
  | 5, _ => rfl
theorem StepsAt.view {w : World} {s : Value} {L : List Stp} (h : StepsAt w s L) : View w s L := by
  rcases h with ⟨h0, rfl⟩ | ⟨b, c, rfl, hc, _, hg⟩
  · have : L = [] := List.length_eq_zero_iff.1 h0
    subst this
    exact View.nil w none 0
  · refine ⟨_, c, rfl, hc, fun i hi => ⟨b, 0, rfl, ?_⟩⟩
    have g := hg.1 i hi
    rw [Nat.zero_add]
    exact ⟨g 0 (by omega), g 1 (by omega), g 2 (by omega), g 3 (by omega), g 4 (by omega), g 5 (by omega)⟩
/-- The cells of steps that are read, to be put behind others. -/
theorem View.source {w : World} {s : Value} {L : List Stp} (h : View w s L) : Src Tryz.prog 6 34 s L.length (flat 6 L.length (cellS L)) w := by
  obtain ⟨o, c, rfl, hc, h⟩ := h
  by_cases h0 : L.length = 0
  · have : L = [] := List.length_eq_zero_iff.1 h0
    subst this
    cases o with
    | none => exact Src.ofNil w elem_step.und c
    | some a => exact Src.ofSlice w elem_step.und a 0 c [] rfl (fun j u hu => by simp at hu) (fun u hu => by cases hu)
  · obtain ⟨b, off, rfl, _⟩ := h 0 (by omega)
    refine Src.ofSlice w elem_step.und _ L.length c _ (by rw [flat_length]) (fun j u hu => ?_) (fun u hu => ?_)
    · have hlt : j < L.length * 6 := by
        have := (List.getElem?_eq_some_iff.1 hu).1
        rwa [flat_length] at this
      rw [flat_get hlt] at hu
      injection hu with hu
      have hi : j / 6 < L.length := by omega
      obtain ⟨b', off', eo, c0, c1, c2, c3, c4, c5⟩ := h (j / 6) hi
      injection eo with eo
      injection eo with e1 e2
      subst e1 e2
      rw [Addr.add_mid, ← hu]
      have hm : j % 6 < 6 := Nat.mod_lt _ (by omega)
      have hj : off + j = off + j / 6 * 6 + j % 6 := by omega
      rw [hj]
      generalize j % 6 = m at *
      match m, hm with
      | 0, _ => exact c0
      | 1, _ => exact c1
      | 2, _ => exact c2
      | 3, _ => exact c3
      | 4, _ => exact c4
      | 5, _ => exact c5
    · obtain ⟨t', ht⟩ := List.getElem?_of_mem hu
      have hlt : t' < L.length * 6 := by have := (List.getElem?_eq_some_iff.1 ht).1; rw [flat_length] at this; exact this
      rw [flat_get hlt] at ht
      injection ht with ht
      rw [← ht]
      exact cell_oneS L _ (by omega) _ (Nat.mod_lt _ (by omega))

theorem none_eq (n c : Nat) (V : World) : (binOp BinOp.eql 34 (.slice none n c) (.slice none 0 0)).run Tryz.prog V = .ok (.bool true) V := by kernel_rfl
theorem some_eq (a : Addr) (n c : Nat) (V : World) : (binOp BinOp.eql 34 (.slice (some a) n c) (.slice none 0 0)).run Tryz.prog V = .ok (.bool false) V := by kernel_rfl

end Go.Proofs.YthofogokpolhdaaGreatDoor.Trees


/-
  Contracts of tree.lastTree and of the document's Cut.
-/
import Derived.Test.YteakgagjacjhiaaUB
import Derived.Test.YteakgagjacjhiaaUF
namespace Go.Proofs.Yteakgagjacjhiaa.Trees
open Go.RowKit Go.Shelf
open Go.Proofs.Yteakgagjacjhiaa.Style (bs bs_size bs_at getD_at bs_of)
open Go.Proofs.Yteakgagjacjhiaa.Toks (cell_lt cell_same)
set_option linter.unusedVariables false
set_option linter.unusedSimpArgs false

/-- One step back. -/
theorem back_step (L : List Stp) (p q : Nat) (hp : p < L.length) : backZ (L.take (p + 1)).reverse (q + 1) = backZ (L.take p).reverse (q + takesZ (L.getD p default).op) + 1 := by
  rw [List.take_succ_eq_append_getElem hp, List.reverse_append, show L.getD p default = L[p] by rw [List.getD_eq_getElem?_getD, List.getElem?_eq_getElem hp]; rfl]
  rfl

theorem back_nil : ∀ q, backZ [] q = 0
  | 0 => rfl
  | q + 1 => rfl
theorem back_zero (l : List Stp) : backZ l 0 = 0 := by cases l <;> rfl

set_option maxRecDepth 100000 in
set_option maxHeartbeats 2000000 in
theorem last_any (s : Value) (L : List Stp) (w : World) (hV : View w s L) (hl : L.length ≤ 100000) :
    Calls Try.prog 34 #[s] w fun e w' => e = .returned (.int .i64 (cutZ L : Int)) ∧ Below w.heap.size w w' := by
  obtain ⟨o, c, rfl, hlc⟩ := hV.slice
  have hli : (L.length : Int) ≤ 100000 := by omega
  obtain ⟨R, hR⟩ : ∃ R, cutZ L = R := ⟨_, rfl⟩
  rw [hR]
  have HR : Hid (L.length - backZ L.reverse 1 = R) := hR
  clear hR
  have HT := Lib.hid (fun (op : Int) (W : World) => takes_any op W)
  go_enter Try.func34, Try.ntmps34
  go_wp2
  go_step3
  go_wp2
  go_step3
  go_wp2
  go_loopw [3, 4] (fun x y wr => ∃ (p q : Nat), x = .int .i64 (p : Int) ∧ y = .int .i64 (q : Int) ∧ p ≤ L.length ∧ 1 ≤ q ∧ q ≤ 2 * (L.length - p) + 1 ∧ Hid (backZ L.reverse 1 = (L.length - p) + backZ (L.take p).reverse q) ∧ Below w.heap.size w wr) (fun x y _ => (intOf x).toNat)
  case atStart => exact ⟨L.length, 1, rfl, rfl, by omega, by omega, by omega, by show _ = _; rw [List.take_of_length_le (Nat.le_refl _)]; omega, Below.refl _ _⟩
  case round =>
    obtain ⟨p, q, rfl, rfl, hpl, hq1, hq2, HB, hB⟩ := hrel
    by_cases hp : 0 < p
    · obtain ⟨p, rfl⟩ : ∃ p', p = p' + 1 := ⟨p - 1, by omega⟩
      have hpi : (0 : Int) < ((p + 1 : Nat) : Int) := by omega
      have hpp : ((p + 1 : Nat) : Int) - 1 = (p : Int) := by omega
      have hpl2 : (p : Int) < L.length := by omega
      have hqi : (q : Int) ≤ 300000 := by omega
      obtain ⟨o', c', e', hc', hv⟩ := hV.go hB
      obtain ⟨b, off, eo, v0, v1, v2, v3, v4, v5⟩ := hv p (by omega)
      injection e' with e1 e2 e3
      subst e1 e3
      subst eo
      clear hv
      obtain ⟨x, hx⟩ : ∃ x, L.getD p default = x := ⟨_, rfl⟩
      have hst := fun (q' : Nat) => back_step L p q' (by omega)
      rw [hx] at hst v0 v1 v2 v3 v4 v5
      have hT := fun W => HT.out x.op W
      have ht := takes_le x.op
      generalize takesZ x.op = m at *
      generalize x.op = xo at *
      have HS := Lib.hid hst
      clear hst hx v1 v2 v3 v4 v5
      obtain ⟨q, rfl⟩ : ∃ q', q = q' + 1 := ⟨q - 1, by omega⟩
      have hqq : ((q + 1 : Nat) : Int) - 1 = (q : Int) := by omega
      have h1 := HB.out
      rw [HS.out q] at h1
      have HB2 := Lib.hid h1
      clear h1 HB
      go_wp2_with fail
      refine (hT _).mono ?_
      rintro e w2 ⟨rfl, rfl⟩
      clear hT HT
      rcases (by omega : m = 0 ∨ m = 1 ∨ m = 2) with rfl | rfl | rfl
      · by_cases hq0 : q = 0
        · subst hq0
          have HE : Hid (R = p) := by
            show _ = _
            have h1 := HB2.out
            rw [back_zero] at h1
            have h2 := HR.out
            omega
          go_wp2
          rw [Exit.noGoto_ret]
          go_ret
          exact ⟨by rw [HE.out]; rfl, hB⟩
        · have hq0' : ((q : Int) == 0) = false := by simp; omega
          go_wp2
          refine ⟨⟨p, q, rfl, rfl, by omega, by omega, by omega, ?_, hB⟩, by simp only [intOf]; omega⟩
          have h1 : backZ L.reverse 1 = L.length - (p + 1) + (backZ (L.take p).reverse q + 1) := HB2.out
          show backZ L.reverse 1 = _
          omega
      · go_wp2
        refine ⟨⟨p, q + 1, rfl, rfl, by omega, by omega, by omega, ?_, hB⟩, by simp only [intOf]; omega⟩
        have h1 := HB2.out
        show backZ L.reverse 1 = _
        omega
      · go_wp2
        refine ⟨⟨p, q + 1 + 1, rfl, by simp, by omega, by omega, by omega, ?_, hB⟩, by simp only [intOf]; omega⟩
        have h1 : backZ L.reverse 1 = L.length - (p + 1) + (backZ (L.take p).reverse (q + 1 + 1) + 1) := HB2.out
        show backZ L.reverse 1 = _
        omega
    · have hp0 : p = 0 := by omega
      subst hp0
      have HE : Hid (R = 0) := by
        show _ = _
        have h1 := HB.out
        rw [List.take_zero, List.reverse_nil, back_nil] at h1
        have h2 := HR.out
        omega
      go_wp2
      rw [Exit.noGoto_ret]
      go_ret
      exact ⟨by rw [HE.out]; rfl, hB⟩

set_option maxRecDepth 100000 in
set_option maxHeartbeats 2000000 in
theorem cut_any (s : Value) (L : List Stp) (w : World) (hV : View w s L) (hl : L.length ≤ 100000) :
    Calls Try.prog 39 #[s] w fun e w' => e = .returned (.int .i64 (cutZ L : Int)) ∧ Below w.heap.size w w' := by
  obtain ⟨o, c, rfl, hlc⟩ := hV.slice
  have hli : (L.length : Int) ≤ 100000 := by omega
  obtain ⟨R, hR⟩ : ∃ R, cutZ L = R := ⟨_, rfl⟩
  rw [hR]
  have HR : Hid (L.length - backZ L.reverse 1 = R) := hR
  clear hR
  have HT := Lib.hid (fun (op : Int) (W : World) => rtakes_any op W)
  go_enter Try.func39, Try.ntmps39
  go_wp2_with fail
  go_loopw [3, 4] (fun x y wr => ∃ (p q : Nat), y = .int .i64 (p : Int) ∧ x = .int .i64 (q : Int) ∧ p ≤ L.length ∧ 0 ≤ q ∧ q ≤ 2 * (L.length - p) + 1 ∧ Hid (backZ L.reverse 1 = (L.length - p) + backZ (L.take p).reverse q) ∧ Below w.heap.size w wr) (fun x y _ => (intOf y).toNat)
  case atStart => exact ⟨L.length, 1, rfl, rfl, by omega, by omega, by omega, by show _ = _; rw [List.take_of_length_le (Nat.le_refl _)]; omega, Below.refl _ _⟩
  case round =>
    obtain ⟨p, q, rfl, rfl, hpl, hq1, hq2, HB, hB⟩ := hrel
    by_cases hp : 0 < p
    · obtain ⟨p, rfl⟩ : ∃ p', p = p' + 1 := ⟨p - 1, by omega⟩
      have hpi : (0 : Int) < ((p + 1 : Nat) : Int) := by omega
      have hpp : ((p + 1 : Nat) : Int) - 1 = (p : Int) := by omega
      have hpl2 : (p : Int) < L.length := by omega
      have hqi : (q : Int) ≤ 300000 := by omega
      obtain ⟨o', c', e', hc', hv⟩ := hV.go hB
      obtain ⟨b, off, eo, v0, v1, v2, v3, v4, v5⟩ := hv p (by omega)
      injection e' with e1 e2 e3
      subst e1 e3
      subst eo
      clear hv
      obtain ⟨x, hx⟩ : ∃ x, L.getD p default = x := ⟨_, rfl⟩
      have hst := fun (q' : Nat) => back_step L p q' (by omega)
      rw [hx] at hst v0 v1 v2 v3 v4 v5
      have hT := fun W => HT.out x.op W
      have ht := takes_le x.op
      generalize takesZ x.op = m at *
      generalize x.op = xo at *
      have HS := Lib.hid hst
      clear hst hx v1 v2 v3 v4 v5
      by_cases hq : 0 < q
      · obtain ⟨q, rfl⟩ : ∃ q', q = q' + 1 := ⟨q - 1, by omega⟩
        have hqi0 : (0 : Int) < ((q + 1 : Nat) : Int) := by omega
        have hqq : ((q + 1 : Nat) : Int) - 1 = (q : Int) := by omega
        have h1 := HB.out
        rw [HS.out q] at h1
        have HB2 := Lib.hid h1
        clear h1 HB HS
        go_wp2_with fail
        refine (hT _).mono ?_
        rintro e w2 ⟨rfl, rfl⟩
        clear hT HT
        have hmi : (m : Int) ≤ 2 := by omega
        go_wp2
        refine ⟨⟨p, q + m, rfl, by simp, by omega, by omega, by omega, ?_, hB⟩, by simp only [intOf]; omega⟩
        have h1 := HB2.out
        show backZ L.reverse 1 = _
        omega
      · have hq0 : q = 0 := by omega
        subst hq0
        have HE : Hid (R = p + 1) := by
          show _ = _
          have h1 := HB.out
          rw [back_zero] at h1
          have h2 := HR.out
          omega
        go_wp2
        go_ret
        exact ⟨by rw [HE.out]; rfl, hB⟩
    · have hp0 : p = 0 := by omega
      subst hp0
      have HE : Hid (R = 0) := by
        show _ = _
        have h1 := HB.out
        rw [List.take_zero, List.reverse_nil, back_nil] at h1
        have h2 := HR.out
        omega
      go_wp2
      all_goals go_ret
      all_goals exact ⟨by rw [HE.out]; rfl, hB⟩

end Go.Proofs.Yteakgagjacjhiaa.Trees

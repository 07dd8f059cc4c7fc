/-
  Contracts of the document's Sound, Parts, In, nest, Nest.
-/
import Derived.Test.YteakgagjacjhiaaRA
import Derived.Test.YteakgagjacjhiaaUK
import Derived.Test.YteakgagjacjhiaaULX
namespace Go.Proofs.Yteakgagjacjhiaa.Trees
open Go.RowKit Go.Shelf
open Go.Proofs.Yteakgagjacjhiaa.Style (bs bs_size bs_at getD_at bs_of)
open Go.Proofs.Yteakgagjacjhiaa.Toks (cell_lt cell_same)
set_option linter.unusedVariables false
set_option linter.unusedSimpArgs false
attribute [local irreducible] symT mayZ

set_option maxRecDepth 100000 in
set_option maxHeartbeats 4000000 in
theorem rsound_any (s : Value) (L : List Stp) (w : World) (hV : View w s L) (hF : ∀ x ∈ L, x.text.length ≤ 9223372036854775807) (hl : L.length ≤ 100000) :
    Calls Try.prog 24 #[s] w fun e w' => e = .returned (.bool (soundZ symT L)) ∧ Below w.heap.size w w' := by
  obtain ⟨o, c, rfl, hlc⟩ := hV.slice
  have hli : (L.length : Int) ≤ 100000 := by omega
  by_cases h255 : 255 < L.length
  · have hz : soundZ symT L = false := by unfold soundZ; rw [decide_eq_false (by omega), Bool.false_and]
    rw [hz]
    have hi : (255 : Int) < L.length := by omega
    clear hV hF
    go_enter Try.func24, Try.ntmps24
    go_wp2_with fail
    go_ret
    exact ⟨rfl, by first | exact Below.refl _ _ | go_grown⟩
  have hi : ¬ (255 : Int) < L.length := by omega
  have hz : soundZ symT L = (cntZ symT L 0 == some 1) := by unfold soundZ; rw [decide_eq_true (by omega), Bool.true_and]
  rw [hz]
  obtain ⟨R, hR⟩ : ∃ R, (cntZ symT L 0 == some 1) = R := ⟨_, rfl⟩
  rw [hR]
  have HR := Lib.hid hR
  clear hR hz
  have hML := Lib.hid (fun (x : Stp) (hx : x ∈ L) (W : World) => rmay_any x W (hF x hx))
  have HT := Lib.hid (fun (op : Int) (W : World) => rtakes_any op W)
  clear hF
  go_enter Try.func24, Try.ntmps24
  go_wp2_with fail
  go_loopw [3, 4] (fun x y wr => ∃ (i k : Nat), x = .int .i64 (k : Int) ∧ y = .int .i64 (i : Int) ∧ i ≤ L.length ∧ Hid (cntZ symT (L.take i) 0 = some k) ∧ Below w.heap.size w wr) (fun _ y _ => (L.length - intOf y).toNat)
  case atStart => exact ⟨0, 0, rfl, rfl, by omega, by show _ = _; rfl, Below.refl _ _⟩
  case round =>
    obtain ⟨i, k, rfl, rfl, hil, HJ, hB⟩ := hrel
    have hk : k ≤ i := by
      have := cnt_le symT (L.take i) 0 k HJ.out
      rw [List.length_take] at this; omega
    by_cases hlt : i < L.length
    · have hii : (i : Int) < L.length := by omega
      have hn := cnt_next hlt HJ.out
      have hmem : L.getD i default ∈ L := by rw [List.getD_eq_getElem?_getD, List.getElem?_eq_getElem hlt]; exact List.getElem_mem _
      have hM := hML.out (L.getD i default) hmem
      obtain ⟨o', c', e', hc', hv⟩ := hV.go hB
      obtain ⟨b, off, eo, v0, v1, v2, v3, v4, v5⟩ := hv i hlt
      injection e' with e1 e2 e3
      subst e1 e3
      subst eo
      obtain ⟨x, hx⟩ : ∃ x, L.getD i default = x := ⟨_, rfl⟩
      rw [hx] at hn hM v0 v1 v2 v3 v4 v5
      have hT := HT.out x.op
      have ht := takes_le x.op
      clear hx hmem hv
      obtain ⟨xo, xp, xa, xn, xm, xt⟩ := x
      simp only [Stp.v] at hM
      simp only at v0 v1 v2 v3 v4 v5 hn hT ht
      have HN := Lib.hid hn
      clear hn
      generalize mayZ symT ⟨xo, xp, xa, xn, xm, xt⟩ = may at *
      go_wp2_with fail
      refine (hM wr).mono ?_
      rintro e W3 ⟨rfl, hb3⟩
      have q0 := (hb3.cell (p := ⟨b, off + i * 6, none⟩) (cell_lt v0)).trans v0
      have hB3 := hB.trans (hb3.mono hB.size)
      clear v0 v1 v2 v3 v4 v5 hM hb3
      generalize takesZ xo = m at *
      have hmi : (m : Int) ≤ 2 := by omega
      go_wp2_with fail
      refine (hT W3).mono ?_
      rintro e W4 ⟨rfl, rfl⟩
      clear hT q0
      have hki : (k : Int) ≤ 100000 := by omega
      cases may with
      | false =>
        have hRf : Hid (false = R) := by
          show _ = _
          rw [← HR.out, cnt_stop (HN.out.trans (if_neg (by simp)))]; rfl
        clear HR HN
        go_wp2_with fail
        go_ret
        exact ⟨by rw [← hRf.out]; rfl, hB3⟩
      | true =>
        by_cases hm : m ≤ k
        · have hN2 : cntZ symT (L.take (i + 1)) 0 = some (k - m + 1) := HN.out.trans (if_pos ⟨rfl, hm⟩)
          have HN2 := Lib.hid hN2
          have hmk : decide ((k : Int) < (m : Int)) = false := decide_eq_false (by omega)
          clear hN2 HN HR
          go_wp2_with fail
          exact ⟨⟨i + 1, k - m + 1, by simp; omega, by simp, by omega, HN2, hB3⟩, by simp only [intOf]; omega⟩
        · have hRf : Hid (false = R) := by
            show _ = _
            rw [← HR.out, cnt_stop (HN.out.trans (if_neg (by simp; omega)))]; rfl
          have hmk : decide ((k : Int) < (m : Int)) = true := decide_eq_true (by omega)
          clear HR HN
          go_wp2_with fail
          go_ret
          exact ⟨by rw [← hRf.out]; rfl, hB3⟩
    · have hii : ¬ (i : Int) < L.length := by omega
      have hR1 : Hid (((k : Int) == 1) = R) := by
        show _ = _
        have := HJ.out
        rw [List.take_of_length_le (by omega)] at this
        rw [← HR.out, this, Bool.eq_iff_iff]
        simp; omega
      clear HR HJ
      go_wp2_with fail
      go_ret
      exact ⟨by rw [← hR1.out]; rfl, hB⟩

end Go.Proofs.Yteakgagjacjhiaa.Trees

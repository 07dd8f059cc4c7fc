/-
  Contract of the document's Same of steps.
-/
import Derived.Test.YteakgagjacjhiaaUF
import Derived.Test.YteakgagjacjhiaaUO
namespace Go.Proofs.Yteakgagjacjhiaa.Trees
open Go.RowKit Go.Shelf
open Go.Proofs.Yteakgagjacjhiaa.Style (bs bs_size)
open Go.Proofs.Yteakgagjacjhiaa.Toks (cell_lt cell_same)
set_option linter.unusedVariables false
set_option linter.unusedSimpArgs false

theorem same_take {A B : List Stp} {i : Nat} (hA : i < A.length) (hB : i < B.length) (h : A.take i = B.take i) : (A.take (i + 1) = B.take (i + 1)) ↔ A.getD i default = B.getD i default := by
  rw [List.take_succ_eq_append_getElem hA, List.take_succ_eq_append_getElem hB, h, List.getD_eq_getElem?_getD, List.getD_eq_getElem?_getD, List.getElem?_eq_getElem hA, List.getElem?_eq_getElem hB]
  show _ ↔ A[i] = B[i]
  constructor
  · intro e
    have := List.append_cancel_left e
    injection this
  · intro e
    rw [e]

set_option maxRecDepth 100000 in
set_option maxHeartbeats 2000000 in
theorem same_any (sa sb : Value) (A B : List Stp) (w : World) (hA : View w sa A) (hB : View w sb B) (hl : A.length ≤ 100000) (hl2 : B.length ≤ 100000) :
    Calls Try.prog 23 #[sa, sb] w fun e w' => e = .returned (.bool (decide (A = B))) ∧ Below w.heap.size w w' := by
  obtain ⟨oa, ca, rfl, hca⟩ := hA.slice
  obtain ⟨ob, cb, rfl, hcb⟩ := hB.slice
  have hli : (A.length : Int) ≤ 100000 := by omega
  have hli2 : (B.length : Int) ≤ 100000 := by omega
  by_cases hlen : A.length = B.length
  · obtain ⟨R, hR⟩ : ∃ R, decide (A = B) = R := ⟨_, rfl⟩
    rw [hR]
    have HR := Lib.hid hR
    clear hR
    rw [← hlen] at hcb
    have HB2 : Hid (View w (.slice ob A.length cb) B ∧ B.length = A.length) := ⟨by rw [hlen]; exact hB, hlen.symm⟩
    rw [← hlen]
    clear hB hli2 hl2 hlen
    go_enter Try.func23, Try.ntmps23
    go_wp2_with fail
    go_loopw [5] (fun x wr => ∃ i : Nat, x = .int .i64 (i : Int) ∧ i ≤ A.length ∧ Hid (A.take i = B.take i) ∧ Below w.heap.size w wr) (fun x _ => (A.length - intOf x).toNat)
    case atStart => exact ⟨0, rfl, by omega, by show _ = _; rfl, Below.refl _ _⟩
    case round =>
      obtain ⟨i, rfl, hi, HJ, hW⟩ := hrel
      by_cases hil : i < A.length
      · have hii : (i : Int) < A.length := by omega
        obtain ⟨o1, c1, e1, _, hv1⟩ := hA.go hW
        obtain ⟨b1, f1, eo1, u0, u1, u2, u3, u4, u5⟩ := hv1 i hil
        obtain ⟨o2, c2, e2, _, hv2⟩ := HB2.out.1.go hW
        obtain ⟨b2, f2, eo2, v0, v1, v2, v3, v4, v5⟩ := hv2 i (by rw [HB2.out.2]; exact hil)
        injection e1 with e1 _ e3
        subst e1 e3
        subst eo1
        rw [HB2.out.2] at e2
        injection e2 with e2 _ e4
        subst e2 e4
        subst eo2
        have hst := same_take hil (by rw [HB2.out.2]; exact hil) HJ.out
        clear hv1 hv2
        obtain ⟨x, hx⟩ : ∃ x, A.getD i default = x := ⟨_, rfl⟩
        obtain ⟨y, hy⟩ : ∃ y, B.getD i default = y := ⟨_, rfl⟩
        rw [hx] at u0 u1 u2 u3 u4 u5 hst
        rw [hy] at v0 v1 v2 v3 v4 v5 hst
        have hxy := eqS_iff x y
        unfold eqS at hxy
        obtain ⟨x0, x1, x2, x3, x4, x5⟩ := x
        obtain ⟨y0, y1, y2, y3, y4, y5⟩ := y
        simp only at u0 u1 u2 u3 u4 u5 v0 v1 v2 v3 v4 v5 hxy
        have HST := Lib.hid hst
        clear hst hx hy
        cases e : decide ((⟨x0, x1, x2, x3, x4, x5⟩ : Stp) = ⟨y0, y1, y2, y3, y4, y5⟩) with
        | true =>
          have heq := of_decide_eq_true e
          rw [e] at hxy
          have HJ2 : Hid (A.take (i + 1) = B.take (i + 1)) := HST.out.2 heq
          clear HST HJ e heq
          have hnx : ∀ W : World, (binOp BinOp.neq 35 (.agg #[.int .i64 x0, .int .i64 x1, .int .i64 x2, .int .i64 x3, .int .i64 x4, .string (bs x5)]) (.agg #[.int .i64 y0, .int .i64 y1, .int .i64 y2, .int .i64 y3, .int .i64 y4, .string (bs y5)])).run Try.prog W = .ok (.bool false) W := fun W => by rw [nev_step, hxy]; rfl
          clear hxy
          go_wp2_with fail
          go_quiet (fail)
          go_wp2_with fail
          exact ⟨⟨i + 1, by simp, by omega, HJ2, hW.trans ((draws_n _ _).mono hW.size)⟩, by simp only [intOf]; omega⟩
        | false =>
          have hne := of_decide_eq_false e
          rw [e] at hxy
          have HRf : Hid (false = R) := by
            show _ = _
            rw [← HR.out, decide_eq_false]
            intro h
            exact hne (HST.out.1 (by rw [h]))
          clear HST HJ e hne
          have hnx : ∀ W : World, (binOp BinOp.neq 35 (.agg #[.int .i64 x0, .int .i64 x1, .int .i64 x2, .int .i64 x3, .int .i64 x4, .string (bs x5)]) (.agg #[.int .i64 y0, .int .i64 y1, .int .i64 y2, .int .i64 y3, .int .i64 y4, .string (bs y5)])).run Try.prog W = .ok (.bool true) W := fun W => by rw [nev_step, hxy]; rfl
          clear hxy
          go_wp2_with fail
          go_quiet (fail)
          go_wp2_with fail
          go_ret
          exact ⟨by rw [← HRf.out]; rfl, hW.trans ((draws_n _ _).mono hW.size)⟩
      · have hii : ¬ (i : Int) < A.length := by omega
        have HRt : Hid (true = R) := by
          show _ = _
          rw [← HR.out, decide_eq_true]
          have := HJ.out
          rw [List.take_of_length_le (by omega), List.take_of_length_le (by rw [HB2.out.2]; omega)] at this
          exact this
        go_wp2_with fail
        go_ret
        exact ⟨by rw [← HRt.out]; rfl, hW⟩
  · have hne : ((A.length : Int) == (B.length : Int)) = false := by simp; omega
    have hd : decide (A = B) = false := decide_eq_false (fun h => hlen (by rw [h]))
    rw [hd]
    have hlen2 : ¬ (A.length : Int) = B.length := by omega
    clear hA hB
    go_enter Try.func23, Try.ntmps23
    go_wp2_with fail
    go_ret
    exact ⟨rfl, Below.refl _ _⟩

end Go.Proofs.Yteakgagjacjhiaa.Trees

/-
  Contracts of the document's Of and Kind. Contracts of the document's Raise and Plain.
-/
import Derived.Test.YthofogokpolhdaaGreatDoorY1X
import Derived.Laws.BytesArg
import Derived.Deep.Cut
namespace Go.Proofs.YthofogokpolhdaaGreatDoor.Style
open Go.RowKit
set_option linter.unusedVariables false
set_option linter.unusedSimpArgs false

set_option maxRecDepth 100000 in
set_option maxHeartbeats 1000000 in
theorem rof_any (n : Int) (w : World) :
    Calls Tryz.prog 20 #[.int .i64 n] w fun e w' => e = .returned (stZ n).v ∧ Below w.heap.size w w' := by
  rcases st_cases n with (rfl | rfl | rfl | rfl | rfl) | ⟨h, e1, e2⟩
  · simp only [St.v, stZ]
    go_enter Tryz.func20, Tryz.ntmps20
    go_wp2
    refine bodyPost_ret (v := .agg #[.bool false, .int .u8 46, .int .u8 47, .int .u8 0, .int .u8 123, .int .u8 125]) (by simp [results, Tryz.results20, go_sem]) rfl ⟨rfl, ?_⟩
    go_grown
  · simp only [St.v, stZ]
    go_enter Tryz.func20, Tryz.ntmps20
    go_wp2
    refine bodyPost_ret (v := .agg #[.bool true, .int .u8 46, .int .u8 47, .int .u8 0, .int .u8 123, .int .u8 125]) (by simp [results, Tryz.results20, go_sem]) rfl ⟨rfl, ?_⟩
    go_grown
  · simp only [St.v, stZ]
    go_enter Tryz.func20, Tryz.ntmps20
    go_wp2
    refine bodyPost_ret (v := .agg #[.bool false, .int .u8 42, .int .u8 47, .int .u8 94, .int .u8 60, .int .u8 62]) (by simp [results, Tryz.results20, go_sem]) rfl ⟨rfl, ?_⟩
    go_grown
  · simp only [St.v, stZ]
    go_enter Tryz.func20, Tryz.ntmps20
    go_wp2
    refine bodyPost_ret (v := .agg #[.bool true, .int .u8 46, .int .u8 47, .int .u8 0, .int .u8 0, .int .u8 0]) (by simp [results, Tryz.results20, go_sem]) rfl ⟨rfl, ?_⟩
    go_grown
  · simp only [St.v, stZ]
    go_enter Tryz.func20, Tryz.ntmps20
    go_wp2
    refine bodyPost_ret (v := .agg #[.bool false, .int .u8 46, .int .u8 47, .int .u8 94, .int .u8 0, .int .u8 0]) (by simp [results, Tryz.results20, go_sem]) rfl ⟨rfl, ?_⟩
    go_grown
  · rw [e1]
    have a1 : (n == 1) = false := by simp only [beq_eq_false_iff_ne]; omega
    have a2 : (n == 2) = false := by simp only [beq_eq_false_iff_ne]; omega
    have a3 : (n == 3) = false := by simp only [beq_eq_false_iff_ne]; omega
    have a4 : (n == 4) = false := by simp only [beq_eq_false_iff_ne]; omega
    have a5 : (n == 5) = false := by simp only [beq_eq_false_iff_ne]; omega
    simp only [St.v]
    clear e1 e2 h
    go_enter Tryz.func20, Tryz.ntmps20
    go_wp2
    refine bodyPost_ret (v := .agg #[.bool false, .int .u8 0, .int .u8 0, .int .u8 0, .int .u8 0, .int .u8 0]) (by simp [results, Tryz.results20, go_sem]) rfl ⟨rfl, ?_⟩
    go_grown

end Go.Proofs.YthofogokpolhdaaGreatDoor.Style

namespace Go.Proofs.YthofogokpolhdaaGreatDoor.Style
open Go.RowKit
set_option linter.unusedVariables false
set_option linter.unusedSimpArgs false

/-- A string of one byte, of a slice that was just made. -/
theorem one_byte (w : World) (x : Int) : (convert 45 9 (.slice (some ⟨w.heap.size, 0, none⟩) 1 1)).run Tryz.prog (w.alloc (.cells #[.int .u8 x] 5)) = .ok (.string (bs [UInt8.ofNat x.toNat])) (w.alloc (.cells #[.int .u8 x] 5)) := by
  refine run_convert_bytes_arg _ 45 5 (by kernel_rfl) (by kernel_rfl) w.heap.size 0 1 1 [x] rfl ?_ 9 (by kernel_rfl)
  intro i hi
  have h0 : i = 0 := by omega
  subst h0
  simp [go_sem]

theorem fld0 (a b c d e f : Value) (w : World) : (Instr.field 43 (.agg #[a, b, c, d, e, f]) 0).run Tryz.prog w = .ok a w := by kernel_rfl
theorem below_draws {B : Nat} {w X : World} (h : Below B w X) (m : Nat) : Below B w (X.drewN m) := ⟨h.os, h.tape, h.output, h.size, h.block⟩
theorem lies_draws {w : World} {b o : Nat} {s : St} (h : Lies w b o s) (m : Nat) : Lies (w.drewN m) b o s := h
theorem upL_succ (f : Bool) (s : List UInt8) (k : Nat) (hk : k < s.length) : upL f (s.take (k + 1)) = upL f (s.take k) ++ [up1 f (s.getD k 0)] := by
  unfold upL
  rw [getD_at s k hk, List.take_succ_eq_append_getElem hk, List.map_append]
  rfl

set_option maxRecDepth 100000 in
set_option maxHeartbeats 2000000 in
theorem rraise_any (n : Int) (s : List UInt8) (w : World) (hl : s.length ≤ 1000000) :
    Calls Tryz.prog 68 #[.int .i64 n, .string (bs s)] w fun e w' => e = .returned (.string (bs (upL (stZ n).fold s))) ∧ Below w.heap.size w w' := by
  have hO := rof_any n w
  generalize stZ n = x at hO
  obtain ⟨f, m, d, p, op, cl⟩ := x
  simp only [St.v] at hO
  show Calls _ _ _ _ fun e w' => e = .returned (.string (bs (upL f s))) ∧ _
  have hzi : ((bs s).size : Int) = (s.length : Int) := by rw [bs_size]
  have ob := one_byte
  have hf0 := fld0
  have hli : (s.length : Int) ≤ 1000000 := by omega
  go_enter Tryz.func68, Tryz.ntmps68
  go_wp2_with fail
  refine hO.mono ?_
  rintro e w1 ⟨rfl, hb1⟩
  have hz1 := hb1.size
  go_wp2
  clear hO
  go_loopw [6, 7] (fun a b wr => ∃ k : Nat, a = .string (bs (upL f (s.take k))) ∧ b = .int .i64 k ∧ k ≤ s.length ∧ Below w.heap.size w wr) (fun _ b _ => (s.length - intOf b).toNat)
  case atStart => exact ⟨0, rfl, rfl, by omega, hb1⟩
  case round =>
    obtain ⟨k, rfl, rfl, hk, hB⟩ := hrel
    have hzB := hB.size
    by_cases hkl : k < s.length
    · have hki : (k : Int) < s.length := by omega
      have hkb : k < (bs s).size := by rw [bs_size]; exact hkl
      have hcb := bs_at s k hkb
      have HU := Lib.hid (upL_succ f s k hkl)
      have z2 : (bs (upL f (s.take k))).size ≤ 1000000 := by rw [bs_size, upL_length, List.length_take]; omega
      generalize upL f (s.take k) = T at *
      generalize s.getD k 0 = c at *
      have HN := Lib.hid (up1_nat f c)
      have hc1 : (c.toNat : Int) ≤ 255 := by have := c.toNat_lt; omega
      have z1 : ∀ x : UInt8, (bs [x]).size = 1 := fun _ => rfl
      have fin : ∀ x : Int, x = ((up1 f c).toNat : Int) → bs T ++ bs [UInt8.ofNat x.toNat] = bs (upL f (s.take (k + 1))) := by
        intro x hx
        rw [bs_app, HU.out, hx, Int.toNat_natCast, UInt8.ofNat_toNat]
      have FIN := Lib.hid fin
      clear fin
      have y1 := z1 (UInt8.ofNat (c.toNat - 32))
      have y2 := z1 (UInt8.ofNat c.toNat)
      have y3 := z1 c
      clear z1
      by_cases hsm : f = true ∧ 97 ≤ (c.toNat : Int) ∧ (c.toNat : Int) ≤ 122
      · obtain ⟨rfl, s1, s2⟩ := hsm
        have HX : Hid ((c.toNat : Int) - 32 = ((up1 true c).toNat : Int)) := by
          show _ = _
          rw [HN.out]
          have : smallZ (c.toNat : Int) = true := by unfold smallZ; exact decide_eq_true ⟨s1, s2⟩
          rw [this]; rfl
        go_wp2
        refine ⟨⟨k + 1, ?_, rfl, by omega, by go_grown⟩, by simp only [intOf]; omega⟩
        have e := FIN.out _ HX.out
        rw [show ((c.toNat : Int) - 32).toNat = c.toNat - 32 by omega] at e
        rw [e]
      · have HX : Hid ((c.toNat : Int) = ((up1 f c).toNat : Int)) := by
          show _ = _
          rw [HN.out, if_neg]
          intro h
          rw [Bool.and_eq_true] at h
          obtain ⟨h1, h2⟩ := h
          unfold smallZ at h2
          have h3 := of_decide_eq_true h2
          exact hsm ⟨h1, h3.1, h3.2⟩
        have HF : Hid (bs T ++ bs [c] = bs (upL f (s.take (k + 1)))) := by
          show _ = _
          have e := FIN.out _ HX.out
          rw [Int.toNat_natCast, UInt8.ofNat_toNat] at e
          exact e
        clear HN HU FIN HX
        cases f with
        | false =>
          clear hsm
          go_wp2
          refine ⟨⟨k + 1, ?_, rfl, by omega, by go_grown⟩, by simp only [intOf]; omega⟩
          first | rw [← HF.out] | (rw [← HF.out, UInt8.ofNat_toNat])
        | true =>
          have hsm' : ¬ (97 ≤ (c.toNat : Int) ∧ (c.toNat : Int) ≤ 122) := fun h => hsm ⟨rfl, h⟩
          clear hsm
          rcases (show (c.toNat : Int) < 97 ∨ (97 ≤ (c.toNat : Int) ∧ ¬ (c.toNat : Int) ≤ 122) by omega) with s1 | ⟨s1, s2⟩
          · clear hsm'
            go_wp2
            refine ⟨⟨k + 1, ?_, rfl, by omega, by go_grown⟩, by simp only [intOf]; omega⟩
            first | rw [← HF.out] | (rw [← HF.out, UInt8.ofNat_toNat])
          · clear hsm'
            go_wp2
            refine ⟨⟨k + 1, ?_, rfl, by omega, by go_grown⟩, by simp only [intOf]; omega⟩
            first | rw [← HF.out] | (rw [← HF.out, UInt8.ofNat_toNat])
    · have hki : ¬ (k : Int) < s.length := by omega
      have HE : Hid (s.take k = s) := by show _ = _; exact List.take_of_length_le (by omega)
      go_wp2
      go_ret
      exact ⟨by rw [HE.out]; rfl, hB⟩

set_option maxRecDepth 100000 in
set_option maxHeartbeats 2000000 in
theorem rplain_any (n : Int) (s : List UInt8) (w : World) (hl : s.length ≤ 9223372036854775807) :
    Calls Tryz.prog 35 #[.int .i64 n, .string (bs s)] w fun e w' => e = .returned (.bool (plainL (stZ n) s)) ∧ Below w.heap.size w w' := by
  have hO := rof_any n w
  have hzi : ((bs s).size : Int) = (s.length : Int) := by rw [bs_size]
  generalize stZ n = x at hO
  have hP : Hid (plainL x s = (!(x.op == 0) && fineL x s)) := rfl
  have hF : Hid (∀ k, (hk : k < s.length) → fineL x (s.take (k + 1)) = (fineL x (s.take k) && fineZ x ((s.getD k 0).toNat : Int))) := fun k hk => fine_succ x s k hk
  have hG : Hid (∀ k, (hk : k < s.length) → fineZ x ((s.getD k 0).toNat : Int) = false → fineL x s = false) := fun k hk => fine_stop x s k hk
  obtain ⟨f, m, d, p, op, cl⟩ := x
  simp only [St.v] at hO
  go_enter Tryz.func35, Tryz.ntmps35
  go_wp2_with fail
  refine hO.mono ?_
  rintro e w1 ⟨rfl, hb1⟩
  have hz1 := hb1.size
  clear hO
  go_wp2
  go_loopw [6] (fun x wr => ∃ k : Nat, x = .int .i64 k ∧ k ≤ s.length ∧ Hid (fineL ⟨f, m, d, p, op, cl⟩ (s.take k) = true) ∧ Lies wr w1.heap.size 0 ⟨f, m, d, p, op, cl⟩ ∧ Below w.heap.size w wr) (fun x _ => (s.length - intOf x).toNat)
  case atStart => exact ⟨0, rfl, by omega, by show _ = _; simp [fineL], Lies.new w1 ⟨f, m, d, p, op, cl⟩ 43, hb1.alloc hz1 _⟩
  case round =>
    obtain ⟨k, rfl, hk, HJ, hL, hB⟩ := hrel
    obtain ⟨c0, c1, c2, c3, c4, c5⟩ := id hL
    simp only [Nat.zero_add] at c0 c1 c2 c3 c4 c5
    by_cases hkl : k < s.length
    · have hki : (k : Int) < s.length := by omega
      have hkb : k < (bs s).size := by rw [bs_size]; exact hkl
      have hg := hG.out k hkl
      have hf := hF.out k hkl
      have hcb0 := bs_at s k hkb
      obtain ⟨c, hc⟩ : ∃ c, s.getD k 0 = c := ⟨_, rfl⟩
      rw [hc] at hg hf
      have hcb : (bs s)[k] = c := hcb0.trans hc
      clear hc hcb0
      rw [HJ.out, Bool.true_and] at hf
      have HG := Lib.hid hg
      have HF := Lib.hid hf
      clear hg hf
      by_cases a1 : (c.toNat : Int) < 32
      · have HE : Hid (plainL ⟨f, m, d, p, op, cl⟩ s = false) := by
          show _ = _
          rw [hP.out, HG.out (by unfold fineZ; rw [decide_eq_false (by omega)]; rfl)]; simp
        go_upto_region 5 with fail
        go_quiet (fail)
        go_wp2
        go_ret
        first | exact ⟨by rw [HE.out]; rfl, below_draws hB _⟩ | exact ⟨by rw [HE.out]; rfl, hB⟩
      by_cases a2 : 126 < (c.toNat : Int)
      · have HE : Hid (plainL ⟨f, m, d, p, op, cl⟩ s = false) := by
          show _ = _
          rw [hP.out, HG.out (by unfold fineZ; rw [decide_eq_false (by omega)]; rfl)]; simp
        go_upto_region 5 with fail
        go_quiet (fail)
        go_wp2
        go_ret
        first | exact ⟨by rw [HE.out]; rfl, below_draws hB _⟩ | exact ⟨by rw [HE.out]; rfl, hB⟩
      cases a3 : ((c.toNat : Int) == op) with
      | true =>
        have HE : Hid (plainL ⟨f, m, d, p, op, cl⟩ s = false) := by
          show _ = _
          rw [hP.out, HG.out (by unfold fineZ; simp only [a3]; simp)]; simp
        go_upto_region 5 with fail
        go_quiet (fail)
        go_wp2
        go_ret
        first | exact ⟨by rw [HE.out]; rfl, below_draws hB _⟩ | exact ⟨by rw [HE.out]; rfl, hB⟩
      | false =>
        cases a4 : ((c.toNat : Int) == cl) with
        | true =>
          have HE : Hid (plainL ⟨f, m, d, p, op, cl⟩ s = false) := by
            show _ = _
            rw [hP.out, HG.out (by unfold fineZ; simp only [a4]; simp)]; simp
          go_upto_region 5 with fail
          go_quiet (fail)
          go_wp2
          go_ret
          first | exact ⟨by rw [HE.out]; rfl, below_draws hB _⟩ | exact ⟨by rw [HE.out]; rfl, hB⟩
        | false =>
          have HE : Hid (fineL ⟨f, m, d, p, op, cl⟩ (s.take (k + 1)) = true) := by
            show _ = _
            rw [HF.out]
            unfold fineZ
            simp only [a3, a4]
            rw [decide_eq_true (by omega)]; rfl
          go_upto_region 5 with fail
          go_quiet (fail)
          go_wp2
          go_roundw
          case rel => exact ⟨k + 1, rfl, by omega, HE, lies_draws hL _, below_draws hB _⟩
          case measure => simp only [intOf]; omega
    · have hki : ¬ (k : Int) < s.length := by omega
      have HE : Hid (plainL ⟨f, m, d, p, op, cl⟩ s = (op != 0)) := by
        show _ = _
        have := HJ.out
        rw [List.take_of_length_le (by omega)] at this
        rw [hP.out, this, Bool.and_true]
        rfl
      go_wp2
      go_ret
      first | exact ⟨by rw [HE.out]; rfl, below_draws hB _⟩ | exact ⟨by rw [HE.out]; rfl, hB⟩

end Go.Proofs.YthofogokpolhdaaGreatDoor.Style


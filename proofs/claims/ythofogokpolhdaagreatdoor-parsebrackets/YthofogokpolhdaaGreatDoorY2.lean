/-
  Contract of style.Plain.
-/
import Derived.Test.YthofogokpolhdaaGreatDoorYA
namespace Go.Proofs.YthofogokpolhdaaGreatDoor.Style
open Go.RowKit
set_option linter.unusedVariables false
set_option linter.unusedSimpArgs false

/-- A text of these bytes. -/
def bs (l : List UInt8) : ByteArray := ⟨l.toArray⟩
theorem bs_size (l : List UInt8) : (bs l).size = l.length := List.size_toArray
theorem bs_of (s : ByteArray) : bs s.data.toList = s := by
  cases s
  simp [bs]
theorem bs_toList (l : List UInt8) : (bs l).toList = l := by rw [ByteArray.toList_eq]; rfl
theorem bs_app (a b : List UInt8) : bs a ++ bs b = bs (a ++ b) := by
  apply ByteArray.ext
  simp [bs]
theorem bs_at (s : List UInt8) (j : Nat) (h : j < (bs s).size) : (bs s)[j] = s.getD j 0 := by
  have h' : j < s.length := by rwa [bs_size] at h
  rw [List.getD_eq_getElem?_getD, List.getElem?_eq_getElem h']
  simp [bs, ByteArray.getElem_eq_getElem_data]

set_option maxRecDepth 100000 in
set_option maxHeartbeats 1000000 in
theorem plain_any (n : Int) (s : List UInt8) (w : World) (hS : Styles w) (hl : s.length ≤ 9223372036854775807) :
    Calls Tryz.prog 129 #[.int .i64 n, .string (bs s)] w fun e w' => e = .returned (.bool (plainL (stZ n) s)) ∧ Below w.heap.size w w' := by
  have hO := of_any n w hS
  have hzi : ((bs s).size : Int) = (s.length : Int) := by rw [bs_size]
  generalize isN n = b at hO
  generalize stZ n = x at hO
  have hP : Hid (plainL x s = (!(x.op == 0) && fineL x s)) := rfl
  have hF : Hid (∀ k, (hk : k < s.length) → fineL x (s.take (k + 1)) = (fineL x (s.take k) && fineZ x ((s.getD k 0).toNat : Int))) := fun k hk => fine_succ x s k hk
  have hG : Hid (∀ k, (hk : k < s.length) → fineZ x ((s.getD k 0).toNat : Int) = false → fineL x s = false) := fun k hk => fine_stop x s k hk
  obtain ⟨f, m, d, p, op, cl⟩ := x
  simp only [St.v] at hO
  clear hS
  by_cases h0 : op = 0
  · subst h0
    have e : plainL ⟨f, m, d, p, 0, cl⟩ s = false := rfl
    rw [e]; clear e hP hF hG
    go_enter Tryz.func129, Tryz.ntmps129
    go_wp2_with fail
    refine hO.mono ?_
    rintro e w1 ⟨rfl, hb1⟩
    have hz1 := hb1.size
    go_wp2
    go_ret
    exact ⟨rfl, by go_grown⟩
  · have h0b : (op == 0) = false := by simpa using h0
    clear h0
    go_enter Tryz.func129, Tryz.ntmps129
    go_wp2_with fail
    refine hO.mono ?_
    rintro e w1 ⟨rfl, hb1⟩
    have hz1 := hb1.size
    go_wp2
    go_loopw [19] (fun x wr => ∃ k : Nat, x = .int .i64 k ∧ k ≤ s.length ∧ Hid (fineL ⟨f, m, d, p, op, cl⟩ (s.take k) = true) ∧ w1.alloc (.cells #[.bool f, .int .u8 m, .int .u8 d, .int .u8 p, .int .u8 op, .int .u8 cl] 43) = wr) (fun x _ => (s.length - intOf x).toNat)
    case atStart => exact ⟨0, rfl, by omega, by show _ = _; simp [fineL], rfl⟩
    case round =>
      obtain ⟨k, rfl, hk, HJ, rfl⟩ := hrel
      by_cases hkl : k < s.length
      · have hki : (k : Int) < s.length := by omega
        have hkb : k < (bs s).size := by rw [bs_size]; exact hkl
        have hg := hG.out k hkl
        have hf := hF.out k hkl
        have hcb0 := bs_at s k hkb
        obtain ⟨c, hc⟩ : ∃ c, s.getD k 0 = c := ⟨_, rfl⟩
        rw [hc] at hg hf
        have hcb : (bs s)[k] = c := hcb0.trans hc
        clear hc hcb0
        rw [HJ.out, Bool.true_and] at hf
        have HG := Lib.hid hg
        have HF := Lib.hid hf
        clear hg hf
        by_cases a1 : (c.toNat : Int) < 32
        · have HE : Hid (plainL ⟨f, m, d, p, op, cl⟩ s = false) := by
            show _ = _
            rw [hP.out, HG.out (by unfold fineZ; rw [decide_eq_false (by omega)]; rfl)]; simp
          go_wp2
          go_ret
          exact ⟨by rw [HE.out]; rfl, by go_grown⟩
        by_cases a2 : 126 < (c.toNat : Int)
        · have HE : Hid (plainL ⟨f, m, d, p, op, cl⟩ s = false) := by
            show _ = _
            rw [hP.out, HG.out (by unfold fineZ; rw [decide_eq_false (by omega)]; rfl)]; simp
          go_wp2
          go_ret
          exact ⟨by rw [HE.out]; rfl, by go_grown⟩
        cases a3 : ((c.toNat : Int) == op) with
        | true =>
          have HE : Hid (plainL ⟨f, m, d, p, op, cl⟩ s = false) := by
            show _ = _
            rw [hP.out, HG.out (by unfold fineZ; simp only [a3]; simp)]; simp
          go_wp2
          go_ret
          exact ⟨by rw [HE.out]; rfl, by go_grown⟩
        | false =>
          cases a4 : ((c.toNat : Int) == cl) with
          | true =>
            have HE : Hid (plainL ⟨f, m, d, p, op, cl⟩ s = false) := by
              show _ = _
              rw [hP.out, HG.out (by unfold fineZ; simp only [a4]; simp)]; simp
            go_wp2
            go_ret
            exact ⟨by rw [HE.out]; rfl, by go_grown⟩
          | false =>
            have HE : Hid (fineL ⟨f, m, d, p, op, cl⟩ (s.take (k + 1)) = true) := by
              show _ = _
              rw [HF.out]
              unfold fineZ
              simp only [a3, a4]
              rw [decide_eq_true (by omega)]; rfl
            go_wp2
            go_roundw
            case rel => exact ⟨k + 1, rfl, by omega, HE, trivial⟩
            case measure => simp only [intOf]; omega
      · have hki : ¬ (k : Int) < s.length := by omega
        have HE : Hid (plainL ⟨f, m, d, p, op, cl⟩ s = true) := by
          show _ = _
          have := HJ.out
          rw [List.take_of_length_le (by omega)] at this
          rw [hP.out, this]
          show (!(op == 0) && true) = true
          rw [h0b]; rfl
        go_wp2
        go_ret
        exact ⟨by rw [HE.out]; rfl, by go_grown⟩

end Go.Proofs.YthofogokpolhdaaGreatDoor.Style

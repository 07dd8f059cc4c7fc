/-
  Contract of the document's Text; the world below stays as it was.
-/
import Derived.Test.YtndinbefljajcaaGreatDoorQ3
namespace Go.Proofs.YtndinbefljajcaaGreatDoor.Dims
open Go.RowKit Go.Shelf
set_option linter.unusedVariables false
set_option linter.unusedSimpArgs false

/-- The text of the powers ahead of place k. -/
def headL (a : D7) : Nat → List UInt8
  | 0 => []
  | k + 1 => headL a k ++ itemO k (a.get k)
theorem head_all (a : D7) : headL a 7 = textL a := by
  simp only [headL, textL, tailL, D7.get, List.nil_append, List.append_assoc]
theorem head_len (a : D7) (h : Fine a) : ∀ k, k ≤ 7 → (headL a k).length ≤ 22 * k
  | 0, _ => by simp [headL]
  | k + 1, hk => by
    have h1 := head_len a h k (by omega)
    have h2 := itemO_len k (a.get k) (h k (by omega)).1 (h k (by omega)).2
    simp only [headL, List.length_append]
    omega
theorem let_at : ∀ k, k < 7 → (ByteArray.mk #[109, 115, 103, 114, 107, 99, 100]).extract k (k + 1) = bs [letter k] := seven rfl rfl rfl rfl rfl rfl rfl

set_option maxRecDepth 100000 in
set_option maxHeartbeats 1000000 in
theorem rtext_any (a : D7) (w : World) (hf : Fine a) :
    Calls Tryz.prog 58 #[a.v] w fun e w' => e = .returned (.string (bs (textD a))) ∧ Below w.heap.size w w' := by
  have hA := OneAt.new w a
  have rA := rright_any a
  simp only [D7.v] at rA ⊢
  obtain ⟨c0, c1, c2, c3, c4, c5, c6⟩ := hA.cells
  go_enter Tryz.func58, Tryz.ntmps58
  go_wp2_with fail
  refine (rA _ hf).mono ?_
  rintro e w1 ⟨rfl, hb⟩
  replace hA := hA.below hb
  clear hb c0 c1 c2 c3 c4 c5 c6 rA
  by_cases ra : Right a
  · rw [rightB_of ra]
    have HT := Lib.hid ((text_right ra).trans (head_all a).symm)
    go_wp2
    go_loopw [4, 5] (fun s i wr => ∃ (k : Nat), s = .string (bs (headL a k)) ∧ i = .int .i64 k ∧ k ≤ 7 ∧ OneAt w wr a) (fun _ i _ => (7 - intOf i).toNat)
    case atStart => exact ⟨0, rfl, rfl, by omega, hA⟩
    case round =>
      clear hA
      obtain ⟨k, rfl, rfl, hk, hA⟩ := hrel
      by_cases h7 : k < 7
      · have k7 : (k : Int) < 7 := by omega
        have xa := hA.2.1 k h7
        by_cases hz : a.get k = 0
        · have e1 : (a.get k != 0) = false := by simp [hz]
          have e2 : headL a (k + 1) = headL a k := by simp [headL, itemO, hz]
          have HE := Lib.hid e2
          clear hz e2
          go_wp2
          go_roundw
          case rel => exact ⟨k + 1, by rw [HE.out], rfl, by omega, hA⟩
          case measure => simp only [intOf]; omega
        · have e1 : (a.get k != 0) = true := by simpa using hz
          have e2 : headL a (k + 1) = headL a k ++ ([letter k] ++ Lib.itoa (a.get k)) := by simp [headL, itemO, item, hz]
          have HE := Lib.hid e2
          have hl := head_len a hf k (by omega)
          have hr := ra k h7
          have dg := dig_any (a.get k)
          have il := Lib.itoa_length_le (a.get k) (by omega) (by omega)
          have z0 : (bs (headL a k)).size ≤ 154 := by rw [bs_size]; omega
          have z1 : (bs (Lib.itoa (a.get k))).size ≤ 21 := by rw [bs_size]; exact il
          have z2 : (bs [letter k]).size = 1 := rfl
          have z3 : (bs (headL a k) ++ bs [letter k]).size ≤ 155 := by rw [ByteArray.size_append]; omega
          have ex := let_at k h7
          have zc : (ByteArray.mk #[109, 115, 103, 114, 107, 99, 100]).size = 7 := rfl
          have k8 : (k : Int) + 1 ≤ 7 := by omega
          have k9 : k + 1 ≤ 7 := by omega
          have f0 : (0 : Int) ≤ (k : Int) := by omega
          have f1 : (k : Int) ≤ (k : Int) + 1 := by omega
          have f2 : (0 : Int) ≤ (k : Int) + 1 := by omega
          have f3 : (k : Int) ≤ 7 := by omega
          have f4 : k ≤ k + 1 := by omega
          have f5 : k ≤ 7 := by omega
          have f6 : ¬ (k : Int) < 0 := by omega
          have f7 : ¬ (7 : Int) < (k : Int) + 1 := by omega
          have f8 : ¬ (k : Int) + 1 < (k : Int) := by omega
          have f9 : ((k : Int) + 1).toNat = k + 1 := by omega
          have y0 : (bs (headL a k)).size + 1 ≤ 9223372036854775807 := by omega
          have y1 : (bs (headL a k)).size + (bs [letter k]).size ≤ 9223372036854775807 := by omega
          have y2 : (bs (headL a k) ++ bs [letter k]).size + (bs (Lib.itoa (a.get k))).size ≤ 9223372036854775807 := by omega
          have y3 : (bs (headL a k)).size + 1 + (bs (Lib.itoa (a.get k))).size ≤ 9223372036854775807 := by omega
          have wk : IntKind.i64.wrap ((k : Int) + 1) = (k : Int) + 1 := by simp [IntKind.wrap, IntKind.bits, IntKind.signed]; omega
          clear hz e2
          go_wp2
          go_region_with
            (first | (go_at_call 84; refine (dg _ hr.1 hr.2).mono ?_; rintro e u ⟨rfl, hb⟩; (first | (replace hA := hA.below hb) | (replace hA := hA.drew.below hb)); clear hb))
          all_goals
            go_wp2
            go_roundw
            case rel => exact ⟨k + 1, by rw [bs_app, bs_app, HE.out, List.append_assoc], rfl, by omega, hA⟩
            case measure => simp only [intOf]; omega
      · have k7 : ¬ (k : Int) < 7 := by omega
        obtain rfl : k = 7 := by omega
        go_wp2
        go_ret
        exact ⟨by rw [HT.out]; rfl, hA.1⟩
  · rw [rightB_no ra]
    have HT := Lib.hid (text_wrong ra)
    go_wp2
    refine bodyPost_ret (v := .string (bs [])) (by simp [results, Tryz.results58, go_sem, bs]) rfl ⟨by rw [HT.out], hA.1⟩

end Go.Proofs.YtndinbefljajcaaGreatDoor.Dims

/-
  drachmlaw16.EditRows.
-/
import Derived.Test.YtlfpfijhimngmaaEK
namespace Go.Proofs.Ytlfpfijhimngmaa.Edits
open Go.RowKit Go.Shelf
set_option linter.unusedVariables false
set_option linter.unusedSimpArgs false

/-- The least of what stands ahead of the place k, or the first. -/
def lessF (f : Nat → Int) (k : Nat) : Int := minF f (k - 1)
theorem lessF_succ (f : Nat → Int) (k : Nat) : lessF f (k + 1) = min (lessF f k) (f k) := by
  unfold lessF
  cases k with
  | zero => show f 0 = min (f 0) (f 0); omega
  | succ j => rfl

/-- While the document's row stands beside the program's. -/
structure BothI (w0 : World) (x y : List UInt8) (p i b off : Nat) (W : World) : Prop where
  step : StepI w0 x y p i W
  want : Reads W b off (x.length + 1) (levI x (y.take i))
theorem BothI.go {w0 W V : World} {x y : List UInt8} {p i b off : Nat} (h : BothI w0 x y p i b off W) (hb : Below W.heap.size W V) : BothI w0 x y p i b off V :=
  ⟨h.step.go hb, h.want.go hb (h.want.lt (by omega))⟩

set_option maxRecDepth 100000 in
set_option maxHeartbeats 2000000 in
theorem rows_walk (a b : List UInt8) (w : World) (ha : a.length ≤ 9223372036854775807) (hb : b.length ≤ 9223372036854775807) :
    Calls Try.prog 4 #[.string (bs a), .string (bs b)] w fun e w' => e = .returned (.bool true) ∧ Below w.heap.size w w' := by
  have hsa := fun W => short_any a W ha
  have hsb := fun W => short_any b W hb
  have la : (a.take 24).length ≤ 24 := by rw [List.length_take]; omega
  have lb : (b.take 24).length ≤ 24 := by rw [List.length_take]; omega
  generalize a.take 24 = x at *
  generalize b.take 24 = y at *
  clear ha hb
  have hzx : (bs x).size = x.length := bs_size x
  have hzy : (bs y).size = y.length := bs_size y
  have hrr := fun (i : Nat) W => rrow_any x (y.take i) W (by omega) (by rw [List.length_take]; omega)
  have hst := fun W h => step_start w W x y (by omega) h
  have HRR := Lib.hid hrr
  have HST := Lib.hid hst
  clear hrr hst
  go_enter Try.func4, Try.ntmps4
  go_wp2_with fail
  refine (awake_yes _).mono ?_
  rintro e w1 ⟨rfl, hB1⟩
  go_wp2_with fail
  refine (hsa _).mono ?_
  rintro e w2 ⟨rfl, rfl⟩
  go_wp2_with fail
  refine (hsb _).mono ?_
  rintro e w2 ⟨rfl, rfl⟩
  clear hsa hsb
  go_wp2_with fail
  refine (HST.out _ hB1).mono ?_
  rintro e w2 ⟨rfl, hI⟩
  have HI := Lib.hid hI
  clear HST hB1 hI
  go_wp2
  go_loopw [6, 7] (fun r c wr => ∃ i p s : Nat, r = .slice (some ⟨p, 0, none⟩) (x.length + 1) (x.length + 1) ∧ c = .int .i64 (i : Int) ∧ i ≤ y.length + 1 ∧ Hid (i ≤ y.length → s = i) ∧ StepI w x y p s wr) (fun _ c _ => ((y.length : Int) + 1 - intOf c).toNat)
  case atStart => exact ⟨0, _, 0, rfl, rfl, by omega, fun _ => rfl, HI.out⟩
  case round =>
    obtain ⟨i, p, s, rfl, rfl, hi, hs, hI⟩ := hrel
    clear HI
    by_cases hil : i ≤ y.length
    · have hii : (i : Int) ≤ (y.length : Int) := by omega
      have hse := hs.out hil
      subst hse
      clear hs
      have hext := bs_take y s
      have hcall := HRR.out s
      have HI := Lib.hid hI
      clear hI
      go_wp2_with fail
      refine (hcall _).mono ?_
      rintro e w3 ⟨v, rfl, hV, hB3⟩
      have hI3 := HI.out.go hB3
      obtain ⟨b, off, cc, ev, hcc, hrd⟩ := hV.reads (by rw [listF_len]; omega)
      rw [listF_len] at ev hcc hrd
      subst ev
      have hrd2 := hrd.ext fun j hj => listF_at (levI x (y.take s)) _ j hj
      have hsame := same_any _ _ _ _ w3 (NV.of_reads hI3.row.cells (Nat.le_refl _)) hV (by rw [listF_len]; omega) (by rw [listF_len]; omega)
      rw [decide_eq_true (rfl : listF (levI x (y.take s)) (x.length + 1) = listF (levI x (y.take s)) (x.length + 1))] at hsame
      have hJ : BothI w x y p s b off w3 := ⟨hI3, hrd2⟩
      have HJ := Lib.hid hJ
      clear hV hrd hrd2 hI3 hB3 hcall hJ HI hext
      go_wp2_with fail
      refine hsame.mono ?_
      rintro e w4 ⟨rfl, hB4⟩
      have hJ := HJ.out.go hB4
      have hc0 := hJ.want 0 (by omega)
      rw [Nat.add_zero] at hc0
      have HJ2 := Lib.hid hJ
      have hl0 : Hid (levI x (y.take s) 0 = lessF (levI x (y.take s)) 0) := rfl
      clear hJ HJ hB4 hsame
      generalize levI x (y.take s) 0 = least0 at *
      go_wp2
      go_loopw [10, 11] (fun l c wl => ∃ k : Nat, l = .int .i64 (lessF (levI x (y.take s)) k) ∧ c = .int .i64 (k : Int) ∧ k ≤ x.length + 1 ∧ wl = w4) (fun _ c _ => ((x.length : Int) + 1 - intOf c).toNat)
      case atStart => exact ⟨0, by rw [hl0.out], rfl, by omega, rfl⟩
      case round =>
        obtain ⟨k, rfl, rfl, hk, rfl⟩ := hrel
        clear hl0 hc0
        by_cases hkl : k < x.length + 1
        · have hki : (k : Int) < (x.length : Int) + 1 := by omega
          have hck := HJ2.out.want k hkl
          have hsu := lessF_succ (levI x (y.take s)) k
          generalize levI x (y.take s) k = v at *
          generalize lessF (levI x (y.take s)) k = l at *
          rw [← go_min] at hsu
          have HSU := Lib.hid hsu
          clear hsu
          go_wp2_with fail
          go_roundw
          case rel => exact ⟨k + 1, by rw [HSU.out], rfl, by omega, trivial⟩
          case measure => simp only [intOf]; omega
        · have hki : ¬ (k : Int) < (x.length : Int) + 1 := by omega
          have hke : k = x.length + 1 := by omega
          subst hke
          have hls := step_least HJ2.out.step (by omega)
          have hlo : lessF (levI x (y.take s)) (x.length + 1) = lowI x (y.take s) := rfl
          rw [hlo]
          have hnx := step_next HJ2.out.step (by omega) (by omega)
          have HNX := Lib.hid hnx
          have HST := Lib.hid HJ2.out.step
          clear HJ2 hnx hlo
          generalize lowI x (y.take s) = lo at *
          go_wp2_with fail
          refine hls.mono ?_
          rintro e w5 ⟨rfl, rfl⟩
          clear hls
          by_cases hsl : s < y.length
          · have hsi : (s : Int) < (y.length : Int) := by omega
            have hsb : s < (bs y).size := by omega
            have hby := bs_at y s hsb
            have hcall := HNX.out hsl
            generalize y.getD s 0 = ch at *
            go_wp2_with fail
            refine hcall.mono ?_
            rintro e w6 ⟨rfl, hI6⟩
            have HI6 := Lib.hid hI6
            clear hI6 hcall HNX HST
            go_wp2
            go_roundw
            case rel => exact ⟨s + 1, _, s + 1, rfl, rfl, by omega, fun _ => rfl, HI6.out⟩
            case measure => simp only [intOf]; omega
          · have hsi : ¬ (s : Int) < (y.length : Int) := by omega
            clear HNX
            go_wp2_with fail
            go_roundw
            case rel => exact ⟨s + 1, p, s, rfl, rfl, by omega, fun h => absurd h (by omega), HST.out⟩
            case measure => simp only [intOf]; omega
    · have hii : ¬ (i : Int) ≤ (y.length : Int) := by omega
      have hln := Least_none none 0 wr
      have HB := Lib.hid hI.below
      clear hI hs
      go_wp2_with fail
      refine hln.mono ?_
      rintro e w3 ⟨rfl, rfl⟩
      go_wp2
      go_ret
      exact ⟨rfl, HB.out⟩

theorem rows_law (a b : ByteArray) (w : World) (ha : a.size ≤ maxLen) (hb : b.size ≤ maxLen) :
    Calls Try.prog 4 #[.string a, .string b] w fun e w' => e = .returned (.bool true) ∧ Below w.heap.size w w' := by
  rw [← bs_of a, ← bs_of b]
  exact rows_walk _ _ w (len_of a ha) (len_of b hb)

end Go.Proofs.Ytlfpfijhimngmaa.Edits

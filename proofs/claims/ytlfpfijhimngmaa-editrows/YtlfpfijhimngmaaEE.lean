/-
  drachmlaw16.EditLeast.
-/
import Derived.Test.YtlfpfijhimngmaaED
namespace Go.Proofs.Ytlfpfijhimngmaa.Edits
open Go.RowKit
set_option linter.unusedVariables false
set_option linter.unusedSimpArgs false

theorem minF_least (f : Nat → Int) (n : Nat) : minF f n = leastL ((List.range (n + 1)).map f) := by
  obtain ⟨i, hi, e⟩ := minF_is f n
  refine (least_all _ _ ?_ ?_).symm
  · rw [e]; exact List.mem_map.mpr ⟨i, List.mem_range.mpr (by omega), rfl⟩
  · intro x hx
    obtain ⟨j, hj, rfl⟩ := List.mem_map.mp hx
    exact minF_le f n j (by have := List.mem_range.mp hj; omega)
/-- The least of w's row behind s. -/
def lowI (w s : List UInt8) : Int := minF (levI w s) w.length
theorem lowI_row (w s : List UInt8) : lowI w s = leastL (rowL w s) := minF_least _ _
theorem lowI_next (w s : List UInt8) (i : Nat) (h : i < s.length) : lowI w (s.take i) ≤ lowI w (s.take (i + 1)) := by
  rw [lowI_row, lowI_row, take_next s i h]; exact row_low _ _ _
theorem lowI_last (w s : List UInt8) : lowI w s ≤ levI w s w.length := minF_le _ _ _ (Nat.le_refl _)
theorem lowI_pos (w s : List UInt8) : 0 ≤ lowI w s := by
  obtain ⟨i, hi, e⟩ := minF_is (levI w s) w.length
  show 0 ≤ minF (levI w s) w.length
  rw [e]; unfold levI; omega
theorem lowI_far (w s : List UInt8) (i : Nat) : lowI w (s.take i) ≤ ((lev w s : Nat) : Int) := by
  rw [lowI_row]
  have := row_far w (s.take i) (s.drop i)
  rwa [List.take_append_drop] at this
/-- What has come before. -/
def befI (w s : List UInt8) (i : Nat) : Int := if i = 0 then 0 else lowI w (s.take (i - 1))
theorem befI_succ (w s : List UInt8) (i : Nat) : befI w s (i + 1) = lowI w (s.take i) := rfl
theorem befI_le (w s : List UInt8) (i : Nat) (h : i ≤ s.length) : befI w s i ≤ lowI w (s.take i) := by
  unfold befI
  by_cases e : i = 0
  · rw [if_pos e]; exact lowI_pos _ _
  · rw [if_neg e]
    have := lowI_next w s (i - 1) (by omega)
    rwa [Nat.sub_add_cancel (by omega)] at this
theorem befI_far (w s : List UInt8) (i : Nat) (h : i ≤ s.length) : befI w s i ≤ ((lev w s : Nat) : Int) := by
  have := befI_le w s i h
  have := lowI_far w s i
  omega
theorem levI_high (w s : List UInt8) (i : Nat) : 0 ≤ levI w s i ∧ levI w s i ≤ (w.length : Int) + (s.length : Int) := by
  unfold levI
  have := lev_high (w.take i) s
  have hl : (w.take i).length ≤ w.length := by rw [List.length_take]; omega
  omega
/-- A row that is w's behind the first i bytes of s. -/
structure StepI (w0 : World) (w s : List UInt8) (p i : Nat) (W : World) : Prop where
  row : RowI W p (w.length + 1) (levI w (s.take i))
  below : Below w0.heap.size w0 W
theorem StepI.go {w0 W V : World} {w s : List UInt8} {p i : Nat} (h : StepI w0 w s p i W) (hb : Below W.heap.size W V) : StepI w0 w s p i V := ⟨h.row.go hb, h.below.trans (hb.mono h.below.size)⟩
theorem step_start (w0 w1 : World) (w s : List UInt8) (hw : w.length ≤ 100) (hb1 : Below w0.heap.size w0 w1) :
    Calls Try.prog 14 #[.string (bs w)] w1 fun e w' => e = .returned (.slice (some ⟨w1.heap.size, 0, none⟩) (w.length + 1) (w.length + 1)) ∧ StepI w0 w s w1.heap.size 0 w' := by
  refine (start_any w w1 (by omega)).mono ?_
  rintro e w' ⟨rfl, hR, hB⟩
  refine ⟨rfl, hR.ext fun j hj => ?_, hb1.trans (hB.mono hb1.size)⟩
  rw [List.take_zero]
  unfold levI
  rw [lev_nil', List.length_take, Nat.min_eq_left (by omega)]
theorem step_next {w0 W : World} {w s : List UInt8} {p i : Nat} (h : StepI w0 w s p i W) (hw : w.length ≤ 100) (hs : s.length ≤ 100) (hi : i < s.length) :
    Calls Try.prog 18 #[.string (bs w), .slice (some ⟨p, 0, none⟩) (w.length + 1) (w.length + 1), .int .u8 ((s.getD i 0).toNat : Int)] W fun e w' => e = .returned (.slice (some ⟨W.heap.size, 0, none⟩) (w.length + 1) (w.length + 1)) ∧ StepI w0 w s W.heap.size (i + 1) w' := by
  refine (next_any w (s.getD i 0) p 0 (w.length + 1) (levI w (s.take i)) W (by omega) h.row.cells fun j hj => ?_).mono ?_
  · have := levI_high w (s.take i) j
    have hl : (s.take i).length ≤ s.length := by rw [List.length_take]; omega
    omega
  · rintro e w' ⟨rfl, hR, hB⟩
    refine ⟨rfl, hR.ext fun j hj => ?_, h.below.trans (hB.mono h.below.size)⟩
    rw [take_next s i hi, levI_next _ _ _ _ (by omega)]
theorem step_least {w0 W : World} {w s : List UInt8} {p i : Nat} (h : StepI w0 w s p i W) (hw : w.length ≤ 100) :
    Calls Try.prog 17 #[.slice (some ⟨p, 0, none⟩) (w.length + 1) (w.length + 1)] W fun e w' => e = .returned (.int .i64 (lowI w (s.take i))) ∧ W = w' :=
  Least_any p 0 w.length (w.length + 1) (levI w (s.take i)) W h.row.cells (by omega) (Nat.le_refl _) (by omega)

set_option maxRecDepth 100000 in
set_option maxHeartbeats 1000000 in
theorem least_walk (a b : List UInt8) (w : World) (ha : a.length ≤ 9223372036854775807) (hb : b.length ≤ 9223372036854775807) :
    Calls Try.prog 8 #[.string (bs a), .string (bs b)] w fun e w' => e = .returned (.bool true) ∧ Below w.heap.size w w' := by
  have hsa := fun W => short_any a W ha
  have hsb := fun W => short_any b W hb
  have la : (a.take 24).length ≤ 24 := by rw [List.length_take]; omega
  have lb : (b.take 24).length ≤ 24 := by rw [List.length_take]; omega
  generalize a.take 24 = x at *
  generalize b.take 24 = y at *
  clear ha hb
  have hzx : (bs x).size = x.length := bs_size x
  have hzy : (bs y).size = y.length := bs_size y
  have hd := fun W => distance_any x y W (by omega) (by omega)
  have hst := fun W h => step_start w W x y (by omega) h
  have HD := Lib.hid hd
  have HST := Lib.hid hst
  clear hd hst
  go_enter Try.func8, Try.ntmps8
  go_wp2_with fail
  refine (awake_yes _).mono ?_
  rintro e w1 ⟨rfl, hB1⟩
  go_wp2_with fail
  refine (hsa _).mono ?_
  rintro e w2 ⟨rfl, rfl⟩
  go_wp2_with fail
  refine (hsb _).mono ?_
  rintro e w2 ⟨rfl, rfl⟩
  clear hsa hsb
  go_wp2_with fail
  refine (HST.out _ hB1).mono ?_
  rintro e w2 ⟨rfl, hI⟩
  have HI := Lib.hid hI
  clear HST hB1 hI
  go_wp2
  go_loopw [6, 7, 8] (fun r l c wr => ∃ i p : Nat, r = .slice (some ⟨p, 0, none⟩) (x.length + 1) (x.length + 1) ∧ l = .int .i64 (befI x y i) ∧ c = .int .i64 (i : Int) ∧ i ≤ y.length ∧ StepI w x y p i wr) (fun _ _ c _ => ((y.length : Int) - intOf c).toNat)
  case atStart => exact ⟨0, _, rfl, rfl, rfl, by omega, HI.out⟩
  case round =>
    obtain ⟨i, p, rfl, rfl, rfl, hi, hI⟩ := hrel
    clear HI
    have hbl := befI_le x y i hi
    have hls := step_least hI (by omega)
    by_cases hil : i < y.length
    · have hii : (i : Int) < (y.length : Int) := by omega
      have hib : i < (bs y).size := by omega
      have hby := bs_at y i hib
      have hcell := hI.row.cell x.length (by omega)
      have hla := lowI_last x (y.take i)
      have hnx := step_next hI (by omega) (by omega) hil
      have hsu := befI_succ x y i
      generalize y.getD i 0 = ch at *
      generalize lowI x (y.take i) = lo at *
      generalize levI x (y.take i) x.length = la at *
      generalize befI x y i = be at *
      have q1 : ¬ lo < be := by omega
      have q2 : ¬ la < lo := by omega
      have HS := Lib.hid hsu
      have HN := Lib.hid hnx
      clear hsu hnx hI hbl hla
      go_wp2_with fail
      refine hls.mono ?_
      rintro e w3 ⟨rfl, rfl⟩
      go_wp2_with fail
      refine HN.out.mono ?_
      rintro e w4 ⟨rfl, hI4⟩
      have HI4 := Lib.hid hI4
      clear hI4 HN hls hcell
      go_wp2
      go_roundw
      case rel => exact ⟨i + 1, _, rfl, by rw [HS.out], rfl, by omega, HI4.out⟩
      case measure => simp only [intOf]; omega
    · have hii : ¬ (i : Int) < (y.length : Int) := by omega
      have hie : i = y.length := by omega
      subst hie
      have hfar := befI_far x y y.length (Nat.le_refl _)
      have hdc := HD.out wr
      have hB := hI.below
      generalize lowI x (y.take y.length) = lo at *
      generalize befI x y y.length = be at *
      generalize ((lev x y : Nat) : Int) = d at *
      clear hI
      go_wp2_with fail
      refine hls.mono ?_
      rintro e w3 ⟨rfl, rfl⟩
      go_wp2_with fail
      refine hdc.mono ?_
      rintro e w4 ⟨rfl, hB4⟩
      have HB := Lib.hid (hB.trans (hB4.mono hB.size))
      clear hB hB4 hls hdc
      go_wp2
      go_ret
      exact ⟨rfl, HB.out⟩

theorem len_of (s : ByteArray) (h : s.size ≤ maxLen) : s.data.toList.length ≤ 9223372036854775807 := by
  have : s.data.toList.length = s.size := rfl
  have hm : maxLen = 9223372036854775807 := by decide
  omega
theorem least_law (a b : ByteArray) (w : World) (ha : a.size ≤ maxLen) (hb : b.size ≤ maxLen) :
    Calls Try.prog 8 #[.string a, .string b] w fun e w' => e = .returned (.bool true) ∧ Below w.heap.size w w' := by
  rw [← bs_of a, ← bs_of b]
  exact least_walk _ _ w (len_of a ha) (len_of b hb)

end Go.Proofs.Ytlfpfijhimngmaa.Edits

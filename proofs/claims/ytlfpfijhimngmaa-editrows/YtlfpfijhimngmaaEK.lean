/-
  Contract of drachmref16.Row.
-/
import Derived.Test.YtlfpfijhimngmaaEI
import Derived.Test.YtlfpfijhimngmaaEH
namespace Go.Proofs.Ytlfpfijhimngmaa.Edits
open Go.RowKit Go.Shelf
set_option linter.unusedVariables false
set_option linter.unusedSimpArgs false

theorem bs_take (s : List UInt8) (k : Nat) : (bs s).extract 0 k = bs (s.take k) := by rw [bs_extract]; rfl

set_option maxRecDepth 100000 in
set_option maxHeartbeats 2000000 in
theorem rrow_any (a b : List UInt8) (w : World) (ha : a.length ≤ 100) (hb : b.length ≤ 100) :
    Calls Try.prog 15 #[.string (bs a), .string (bs b)] w fun e w' => NVEnd w (listF (levI a b) (a.length + 1)) e w' := by
  have hza : (bs a).size = a.length := bs_size a
  have hzb : (bs b).size = b.length := bs_size b
  have hd := fun (i : Nat) W => rdist_any (a.take i) b W (by rw [List.length_take]; omega) hb
  have HD := Lib.hid hd
  clear hd
  have h0 : Hid (GrowN w (.slice none 0 0) (listF (levI a b) 0) w) := GrowN.nil w
  go_enter Try.func15, Try.ntmps15
  go_wp2
  go_loopw [5, 6] (fun y x wr => ∃ (i : Nat) (o : Option Addr) (cc : Nat), y = .slice o i cc ∧ x = .int .i64 (i : Int) ∧ i ≤ a.length + 1 ∧ GrowN w (.slice o i cc) (listF (levI a b) i) wr) (fun _ x _ => ((a.length : Int) + 1 - intOf x).toNat)
  case atStart => exact ⟨0, _, _, rfl, rfl, by omega, h0.out⟩
  case round =>
    obtain ⟨i, o, cc, rfl, rfl, hi, hG⟩ := hrel
    clear h0
    by_cases hil : i ≤ a.length
    · have hii : (i : Int) ≤ (a.length : Int) := by omega
      have hcall := HD.out i
      have hext := bs_take a i
      have hls := listF_succ (levI a b) i
      have hle : levI a b i = ((lev (a.take i) b : Nat) : Int) := rfl
      rw [hle] at hls
      generalize a.take i = u at *
      generalize ((lev u b : Nat) : Int) = x at *
      have HG := Lib.hid hG
      have HLS := Lib.hid hls
      have HC := Lib.hid hcall
      clear hls hG hle hcall
      go_wp2_with fail
      refine (HC.out _).mono ?_
      rintro e w3 ⟨rfl, hB3⟩
      have hG3 := HG.out.go hB3
      obtain ⟨V, o2, c2, happ, hG4, _⟩ := hG3.more (by rw [listF_len]; omega) x w3.heap.size ((Below.refl _ _).alloc (Nat.le_refl _) _) (num_one w3 _)
      rw [← HLS.out] at hG4
      have HG4 := Lib.hid hG4
      clear hG3 hG4 hB3 HG HLS HC
      go_wp2_with (first | (at_builtin; refine wpList_app rfl _ _ 28 28 rfl happ ?_) | fail)
      go_roundw
      case rel => exact ⟨i + 1, o2, c2, rfl, rfl, by omega, HG4.out⟩
      case measure => simp only [intOf]; omega
    · have hii : ¬ (i : Int) ≤ (a.length : Int) := by omega
      have hie : i = a.length + 1 := by omega
      rw [hie] at hG
      have HE : Hid (NV wr (.slice o (a.length + 1) cc) (listF (levI a b) (a.length + 1)) ∧ Below w.heap.size w wr) := ⟨hG.at_.view, hG.below⟩
      clear hG
      subst hie
      go_wp2
      go_ret
      exact ⟨_, rfl, HE.out⟩

end Go.Proofs.Ytlfpfijhimngmaa.Edits

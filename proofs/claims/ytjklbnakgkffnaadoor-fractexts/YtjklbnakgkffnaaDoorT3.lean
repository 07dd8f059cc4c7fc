/-
  What the program asks of the library's texts and numbers, at any text: frac.Text; the world below stays as it was.
-/
import Derived.Test.YtjklbnakgkffnaaDoorT2
import Derived.Test.YtjklbnakgkffnaaDoorShelf
import Derived.Lib.AppendIntMem
import Derived.Lib.AtoiErrMem
namespace Go.Proofs.YtjklbnakgkffnaaDoor.Texts
open Go.RowKit
open Go.Proofs.YtjklbnakgkffnaaDoor.Whole
open Go.Proofs.YtjklbnakgkffnaaDoor.Frac
set_option linter.unusedVariables false
set_option linter.unusedSimpArgs false

def Tab (w : World) : Prop := Lib.TabIs Tryd.prog w "internal/strconv.uint64pow10" .u64 Lib.pow10Tab
theorem Tab.below {w w' : World} (h : Tab w) (hb : Below w.heap.size w w') : Tab w' := (Lib.tabBelow_of_tabIs h) w' hb

/-- A package variable of an error holds one, or nil. -/
def ErrAt (w : World) (b : Nat) : Prop := b < w.heap.size ∧ ∃ ev, w.cell? ⟨b, 0, none⟩ = some ev ∧ (ev = .nilIface ∨ ∃ te pe, ev = .iface te pe)
theorem ErrAt.below {w w' : World} {b : Nat} (h : ErrAt w b) (hb : Below w.heap.size w w') : ErrAt w' b := by
  obtain ⟨hz, ev, hc, he⟩ := h
  exact ⟨by have := hb.size; omega, ev, (hb.cell (p := ⟨b, 0, none⟩) hz).trans hc, he⟩

/-- What the program's package variables hold. -/
def Env (w : World) : Prop := OfTen w ∧ Tab w ∧ ErrAt w 3 ∧ ErrAt w 4
theorem Env.below {w w' : World} (h : Env w) (hb : Below w.heap.size w w') : Env w' := ⟨h.1.below hb, h.2.1.below hb, h.2.2.1.below hb, h.2.2.2.below hb⟩

theorem fmt_any (n : Int) (w : World) (hT : Tab w) (h0 : -9223372036854775808 ≤ n) (h1 : n ≤ 9223372036854775807) :
    Calls Tryd.prog 36 #[.int .i64 n, .int .i64 10] w fun e w' => e = .returned (.string (bs (Lib.itoa n))) ∧ Below w.heap.size w w' := by
  refine (Tryd.strconv_FormatInt_10 n h0 h1 w hT).mono ?_
  rintro e w' ⟨rfl, k, os, rfl⟩
  exact ⟨rfl, Lib.below_grow _ _ (Nat.le_refl _) _ _⟩

theorem dec_any (n : Int) (w : World) (hT : Tab w) (h0 : -9223372036854775808 ≤ n) (h1 : n ≤ 9223372036854775807) :
    Calls Tryd.prog 37 #[.int .i64 n] w fun e w' => e = .returned (.string (bs (Lib.itoa n))) ∧ Below w.heap.size w w' := by
  refine (Tryd.strconv_Itoa n h0 h1 w hT).mono ?_
  rintro e w' ⟨rfl, k, os, rfl⟩
  exact ⟨rfl, Lib.below_grow _ _ (Nat.le_refl _) _ _⟩

theorem end3 (e : Lib.NumEnd Int) : (∃ v, e = .ok v) ∨ e = .range ∨ ((∀ v, e ≠ .ok v) ∧ e ≠ .range) := by
  cases e <;> simp

theorem pint_any (s : List UInt8) (w : World) (h2 : ErrAt w 3) (h3 : ErrAt w 4) (hs : s.length ≤ 1000) :
    Calls Tryd.prog 32 #[.string (bs s), .int .i64 10, .int .i64 64] w fun e w' => ∃ ev, e = .returned (.tuple #[.int .i64 (numI s), ev]) ∧ Below w.heap.size w w' := by
  have hz : (bs s).size ≤ 1000 := by rw [bs_size]; exact hs
  have hd : (bs s).data.toList = s := rfl
  rcases end3 (Lib.parseIntB 64 s) with ⟨v, hp⟩ | hp | hp
  · have hv : numI s = v := by unfold numI; rw [hp]
    rw [hv]
    refine (Tryd.strconv_ParseInt_10_at64_ok (bs s) (by omega) v (by rw [hd]; exact hp) w).mono ?_
    rintro e w' ⟨rfl, rfl | ⟨t, rfl⟩⟩
    · exact ⟨_, rfl, Below.refl _ _⟩
    · exact ⟨_, rfl, Lib.bytesWorld_below _ _ _⟩
  · have hv : numI s = Lib.intSat 64 s := by unfold numI; rw [hp]
    rw [hv]
    obtain ⟨_, ev, hc, he⟩ := h3
    refine (Tryd.strconv_ParseInt_10_at64_range (bs s) (by omega) (by rw [hd]; exact hp) ev w hc he).mono ?_
    rintro e w' ⟨N, rfl, _, _, hb⟩
    exact ⟨_, rfl, hb⟩
  · have hv : numI s = 0 := numI_zero s hp
    rw [hv]
    obtain ⟨_, ev, hc, he⟩ := h2
    refine (Tryd.strconv_ParseInt_10_at64_syntax (bs s) (by omega) (by rw [hd]; exact hp) ev w hc he).mono ?_
    rintro e w' ⟨N, rfl, _, _, hb⟩
    exact ⟨_, rfl, hb⟩

theorem atoi_any (s : List UInt8) (w : World) (h2 : ErrAt w 3) (h3 : ErrAt w 4) (hs : s.length ≤ 1000) :
    Calls Tryd.prog 33 #[.string (bs s)] w fun e w' => ∃ ev, e = .returned (.tuple #[.int .i64 (numA s), ev]) ∧ Below w.heap.size w w' := by
  have hz : (bs s).size ≤ 1000 := by rw [bs_size]; exact hs
  have hd : (bs s).data.toList = s := rfl
  rcases end3 (Lib.atoiAll s) with ⟨v, hp⟩ | hp | hp
  · have hv : numA s = v := by unfold numA; rw [hp]
    rw [hv]
    refine (Tryd.strconv_Atoi_ok (bs s) (by omega) v (by rw [hd]; exact hp) w).mono ?_
    rintro e w' ⟨rfl, rfl | ⟨t, rfl⟩⟩
    · exact ⟨_, rfl, Below.refl _ _⟩
    · exact ⟨_, rfl, Lib.bytesWorld_below _ _ _⟩
  · have hv : numA s = Lib.atoiSat s := by unfold numA; rw [hp]
    rw [hv]
    obtain ⟨_, ev, hc, he⟩ := h3
    refine (Tryd.strconv_Atoi_range (bs s) (by omega) (by rw [hd]; exact hp) ev w hc he).mono ?_
    rintro e w' ⟨N, rfl, _, _, hb⟩
    exact ⟨_, rfl, hb⟩
  · have hv : numA s = 0 := numA_zero s hp
    rw [hv]
    obtain ⟨_, ev, hc, he⟩ := h2
    refine (Tryd.strconv_Atoi_syntax (bs s) (by omega) (by rw [hd]; exact hp) ev w hc he).mono ?_
    rintro e w' ⟨N, rfl, _, _, hb⟩
    exact ⟨_, rfl, hb⟩

theorem below_draws (w : World) (k : Nat) : Below w.heap.size w (w.drewN k) := by
  have := Lib.below_grow w.heap.size w (Nat.le_refl _) k #[]
  rwa [Go.Sort.grow_empty] at this

theorem bs_extract (s : List UInt8) (i j : Nat) : (bs s).extract i j = bs ((s.take j).drop i) := by
  apply ByteArray.ext
  simp [bs, List.drop_take]

set_option maxRecDepth 100000 in
set_option maxHeartbeats 1000000 in
theorem cut1_any (s : List UInt8) (c : UInt8) (w : World) (hs : s.length ≤ 1000) :
    Calls Tryd.prog 65 #[.string (bs s), .string (bs [c])] w fun e w' => e = .returned (.tuple #[.string (bs (cutB s c).1), .string (bs (cutB s c).2.1), .bool (cutB s c).2.2]) ∧ Below w.heap.size w w' := by
  have hr := ib_range s c
  have hz : (bs s).size = s.length := bs_size s
  have hz1 : (bs [c]).size = 1 := rfl
  go_enter Tryd.func65, Tryd.ntmps65
  go_wp2_with fail
  refine (Tryd.stringslite_Index_one (bs s) c w).mono ?_
  rintro e w1 ⟨rfl, rfl⟩
  rw [show (bs s).data.toList = s from rfl]
  have HI : Hid (Lib.indexByte s c = Lib.indexByte s c) := rfl
  generalize hi : Lib.indexByte s c = i at *
  by_cases h0 : 0 ≤ i
  · obtain ⟨k, rfl⟩ := Int.eq_ofNat_of_zero_le h0
    have HC : Hid (cutB s c = (s.take k, s.drop (k + 1), true)) := by show cutB s c = _; unfold cutB; rw [hi, if_pos h0]; rfl
    go_wp2
    go_quiet (fail)
    go_wp2
    refine bodyPost_ret (v := .tuple #[.string ((bs s).extract 0 k), .string ((bs s).extract (k + 1) s.length), .bool true]) (by simp [results, Tryd.results65, go_sem]) rfl ⟨?_, below_draws _ _⟩
    rw [HC.out, bs_extract, bs_extract]
    simp
  · have HC : Hid (cutB s c = (s, [], false)) := by show cutB s c = _; unfold cutB; rw [hi, if_neg h0]
    go_wp2
    refine bodyPost_ret (v := .tuple #[.string (bs s), .string (bs []), .bool false]) (by simp [results, Tryd.results65, go_sem, bs]) rfl ⟨by rw [HC.out], Below.refl _ _⟩

set_option maxRecDepth 100000 in
set_option maxHeartbeats 1000000 in
theorem cut_any (s : List UInt8) (c : UInt8) (w : World) (hs : s.length ≤ 1000) :
    Calls Tryd.prog 31 #[.string (bs s), .string (bs [c])] w fun e w' => e = .returned (.tuple #[.string (bs (cutB s c).1), .string (bs (cutB s c).2.1), .bool (cutB s c).2.2]) ∧ Below w.heap.size w w' := by
  go_enter Tryd.func31, Tryd.ntmps31
  go_wp2_with fail
  refine (cut1_any s c w hs).mono ?_
  rintro e w1 ⟨rfl, hb⟩
  go_wp2
  refine bodyPost_ret (v := .tuple #[.string (bs (cutB s c).1), .string (bs (cutB s c).2.1), .bool (cutB s c).2.2]) (by simp [results, Tryd.results31, go_sem]) rfl ⟨rfl, ?_⟩
  go_grown

end Go.Proofs.YtjklbnakgkffnaaDoor.Texts

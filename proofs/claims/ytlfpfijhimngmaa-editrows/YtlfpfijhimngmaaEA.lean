/-
  Rows of numbers in memory; contracts of edit.more, edit.least, edit.Least, edit.Start, drachmlaw16.short.
-/
import Derived.Test.YtlfpfijhimngmaaEM
import Derived.Test.YtlfpfijhimngmaaChecked
import Derived.WalkKit
import Derived.WalkSpells
import Derived.Lib.Hide
import Derived.BigQuiet
import Derived.Deep.QuietTactic
import Derived.Deep.RegionWith
import Derived.Deep.RegionHeld3
import Derived.Deep.Cut
import Derived.Handy
import Derived.WalkSmall
import Derived.Deep.LoopGhost
import Derived.Laws.MakeOwn
namespace Go.Proofs.Ytlfpfijhimngmaa.Edits
open Go.RowKit
set_option linter.unusedVariables false
set_option linter.unusedSimpArgs false

/-- A text of these bytes. -/
def bs (l : List UInt8) : ByteArray := ⟨l.toArray⟩
theorem bs_size (l : List UInt8) : (bs l).size = l.length := List.size_toArray
theorem bs_of (s : ByteArray) : bs s.data.toList = s := by
  cases s
  simp [bs]
theorem bs_toList (l : List UInt8) : (bs l).toList = l := by rw [ByteArray.toList_eq]; rfl
theorem bs_app (a b : List UInt8) : bs a ++ bs b = bs (a ++ b) := by
  apply ByteArray.ext
  simp [bs]
theorem bs_at (s : List UInt8) (j : Nat) (h : j < (bs s).size) : (bs s)[j] = s.getD j 0 := by
  have h' : j < s.length := by rwa [bs_size] at h
  rw [List.getD_eq_getElem?_getD, List.getElem?_eq_getElem h']
  simp [bs, ByteArray.getElem_eq_getElem_data]

theorem bs_extract (s : List UInt8) (i j : Nat) : (bs s).extract i j = bs ((s.take j).drop i) := by
  apply ByteArray.ext
  simp [bs, List.drop_take]
theorem cell_lt {W : World} {b j : Nat} {v : Value} (hc : W.cell? ⟨b, j, none⟩ = some v) : b < W.heap.size := World.block_lt_of_cell? _ _ hc
theorem frozen_of_block {w w' : World} {b : Nat} (h : w'.heap[b]? = w.heap[b]?) (j : Nat) : w'.frozen? ⟨b, j, none⟩ = w.frozen? ⟨b, j, none⟩ := by
  simp only [World.frozen?, h]

/-- The cells of the block b from o on are these n numbers. -/
def Reads (w : World) (b o n : Nat) (f : Nat → Int) : Prop := ∀ j, j < n → w.cell? ⟨b, o + j, none⟩ = some (.int .i64 (f j))
theorem Reads.block {w w' : World} {b o n : Nat} {f : Nat → Int} (h : Reads w b o n f) (hb : w'.heap[b]? = w.heap[b]?) : Reads w' b o n f :=
  fun j hj => (World.cell?_of_block (a := ⟨b, o + j, none⟩) hb).trans (h j hj)
theorem Reads.go {w w' : World} {b o n : Nat} {f : Nat → Int} {B : Nat} (h : Reads w b o n f) (hb : Below B w w') (hB : b < B) : Reads w' b o n f :=
  h.block (hb.block b hB)
theorem Reads.lt {w : World} {b o n : Nat} {f : Nat → Int} (h : Reads w b o n f) (hn : 0 < n) : b < w.heap.size := cell_lt (h 0 hn)
theorem Reads.part {w : World} {b o n : Nat} {f : Nat → Int} (h : Reads w b o n f) (i m : Nat) (hm : i + m ≤ n) : Reads w b (o + i) m (fun j => f (i + j)) := fun j hj => by
  rw [Nat.add_assoc]; exact h (i + j) (by omega)
theorem Reads.ext {w : World} {b o n : Nat} {f g : Nat → Int} (h : Reads w b o n f) (e : ∀ j, j < n → f j = g j) : Reads w b o n g := fun j hj => by rw [h j hj, e j hj]

/-- The least of the first n + 1 numbers. -/
def minF (f : Nat → Int) : Nat → Int
  | 0 => f 0
  | n + 1 => min (minF f n) (f (n + 1))
theorem minF_le (f : Nat → Int) : ∀ (n i : Nat), i ≤ n → minF f n ≤ f i := by
  intro n
  induction n with
  | zero => intro i hi; have : i = 0 := by omega
            subst this; exact Int.le_refl _
  | succ n ih =>
    intro i hi
    simp only [minF]
    by_cases e : i = n + 1
    · subst e; omega
    · have := ih i (by omega); omega
theorem minF_is (f : Nat → Int) : ∀ (n : Nat), ∃ i, i ≤ n ∧ minF f n = f i := by
  intro n
  induction n with
  | zero => exact ⟨0, Nat.le_refl _, rfl⟩
  | succ n ih =>
    obtain ⟨i, hi, e⟩ := ih
    simp only [minF]
    by_cases c : minF f n ≤ f (n + 1)
    · exact ⟨i, by omega, by rw [Int.min_eq_left c, e]⟩
    · exact ⟨n + 1, Nat.le_refl _, by rw [Int.min_eq_right (by omega)]⟩
theorem minF_ext {f g : Nat → Int} (n : Nat) (h : ∀ i, i ≤ n → f i = g i) : minF f n = minF g n := by
  induction n with
  | zero => exact h 0 (Nat.le_refl _)
  | succ n ih => simp only [minF, ih fun i hi => h i (by omega), h (n + 1) (Nat.le_refl _)]

theorem go_min (x y : Int) : (if x < y then x else y) = min y x := by
  by_cases h : x < y
  · rw [if_pos h, Int.min_eq_right (by omega)]
  · rw [if_neg h, Int.min_eq_left (by omega)]

set_option maxHeartbeats 1000000 in
theorem more_any (x s : Int) (w : World) (x0 : 0 ≤ x) (x1 : x ≤ 1000000000000) (s0 : 0 ≤ s) (s1 : s ≤ 1) :
    Calls Try.prog 23 #[.int .i64 x, .int .i64 s] w fun e w' => e = .returned (.int .i64 (x + s)) ∧ w = w' := by
  go_enter Try.func23, Try.ntmps23
  go_wp2
  go_ret
  exact ⟨rfl, rfl⟩

set_option maxHeartbeats 1000000 in
theorem short_any (s : List UInt8) (w : World) (hl : s.length ≤ 9223372036854775807) :
    Calls Try.prog 10 #[.string (bs s)] w fun e w' => e = .returned (.string (bs (s.take 24))) ∧ w = w' := by
  have hz : (bs s).size = s.length := bs_size s
  by_cases h : 24 < s.length
  · have hi : (24 : Int) < ((bs s).size : Int) := by omega
    go_enter Try.func10, Try.ntmps10
    go_wp2
    go_ret
    exact ⟨by show Ending.returned (.string ((bs s).extract 0 24)) = _; rw [bs_extract]; rfl, rfl⟩
  · have hi : ¬ (24 : Int) < ((bs s).size : Int) := by omega
    have e : s.take 24 = s := List.take_of_length_le (by omega)
    rw [e]
    go_enter Try.func10, Try.ntmps10
    go_wp2
    go_ret
    exact ⟨rfl, rfl⟩

set_option maxHeartbeats 1000000 in
theorem least_none (o : Option Addr) (c : Nat) (w : World) :
    Calls Try.prog 21 #[.slice o 0 c] w fun e w' => e = .returned (.int .i64 0) ∧ w = w' := by
  go_enter Try.func21, Try.ntmps21
  go_wp2
  go_ret
  exact ⟨rfl, rfl⟩

set_option maxHeartbeats 1000000 in
theorem least_any (b o n c : Nat) (f : Nat → Int) (w : World) (h : Reads w b o (n + 1) f) (hn : n ≤ 100000) (hc : n + 1 ≤ c) (hc1 : c ≤ 9223372036854775807) :
    Calls Try.prog 21 #[.slice (some ⟨b, o, none⟩) (n + 1) c] w fun e w' => e = .returned (.int .i64 (minF f n)) ∧ w = w' := by
  have h0 := h 0 (by omega)
  rw [Nat.add_zero] at h0
  have h1 : ∀ j, j < n → w.cell? ⟨b, o + 1 + j, none⟩ = some (.int .i64 (f (j + 1))) := fun j hj => by
    have := h (j + 1) (by omega)
    rw [show o + 1 + j = o + (j + 1) from by omega]; exact this
  have H := Lib.hid h1
  clear h h1
  have e0 : Hid (minF f 0 = f 0) := rfl
  by_cases hc2 : c = 1
  · have hn0 : n = 0 := by omega
    subst hn0
    subst hc2
    rw [e0.out]
    clear e0 H
    go_enter Try.func21, Try.ntmps21
    go_wp2
    go_loopw [3, 15] (fun y x wr => y = .int .i64 (f 0) ∧ x = .int .i64 0 ∧ w = wr) (fun _ x _ => (0 : Nat))
    case atStart => exact ⟨rfl, rfl, rfl⟩
    case round =>
      obtain ⟨rfl, rfl, rfl⟩ := hrel
      go_wp2
      go_ret
      exact ⟨rfl, rfl⟩
  · have hc3 : (c == 1) = false := by simpa using hc2
    go_enter Try.func21, Try.ntmps21
    go_wp2
    go_loopw [3, 15] (fun y x wr => ∃ k : Nat, y = .int .i64 (minF f k) ∧ x = .int .i64 (k : Int) ∧ k ≤ n ∧ w = wr) (fun _ x _ => ((n : Int) - intOf x).toNat)
    case atStart => exact ⟨0, by rw [e0.out], rfl, by omega, rfl⟩
    case round =>
      obtain ⟨k, rfl, rfl, hk, rfl⟩ := hrel
      by_cases hkn : k < n
      · have hki : (k : Int) < n := by omega
        have hcell := H.out k hkn
        have hm : Hid (minF f (k + 1) = min (minF f k) (f (k + 1))) := rfl
        generalize f (k + 1) = x at *
        generalize minF f k = y at *
        go_wp2
        go_roundw
        case rel => exact ⟨k + 1, by rw [hm.out, go_min], rfl, by omega, trivial⟩
        case measure => simp only [intOf]; omega
      · have hki : ¬ (k : Int) < n := by omega
        have hke : k = n := by omega
        subst hke
        go_wp2
        go_ret
        exact ⟨rfl, rfl⟩

set_option maxHeartbeats 1000000 in
theorem Least_any (b o n c : Nat) (f : Nat → Int) (w : World) (h : Reads w b o (n + 1) f) (hn : n ≤ 100000) (hc : n + 1 ≤ c) (hc1 : c ≤ 9223372036854775807) :
    Calls Try.prog 17 #[.slice (some ⟨b, o, none⟩) (n + 1) c] w fun e w' => e = .returned (.int .i64 (minF f n)) ∧ w = w' := by
  have hL := least_any b o n c f w h hn hc hc1
  clear h
  go_enter Try.func17, Try.ntmps17
  go_wp2_with fail
  refine hL.mono ?_
  rintro e w1 ⟨rfl, rfl⟩
  go_wp2
  go_ret
  exact ⟨rfl, rfl⟩

set_option maxHeartbeats 1000000 in
theorem Least_none (o : Option Addr) (c : Nat) (w : World) :
    Calls Try.prog 17 #[.slice o 0 c] w fun e w' => e = .returned (.int .i64 0) ∧ w = w' := by
  have hL := least_none o c w
  go_enter Try.func17, Try.ntmps17
  go_wp2_with fail
  refine hL.mono ?_
  rintro e w1 ⟨rfl, rfl⟩
  go_wp2
  go_ret
  exact ⟨rfl, rfl⟩

/-- A row of numbers: n of them, in a block of its own. -/
structure RowI (w : World) (b n : Nat) (f : Nat → Int) : Prop where
  cells : Reads w b 0 n f
  open_ : ∀ j, w.frozen? ⟨b, j, none⟩ = false
  lt : b < w.heap.size
theorem RowI.block {w w' : World} {b n : Nat} {f : Nat → Int} (h : RowI w b n f) (hs : w.heap.size ≤ w'.heap.size) (hb : w'.heap[b]? = w.heap[b]?) : RowI w' b n f :=
  ⟨h.cells.block hb, fun j => (frozen_of_block hb j).trans (h.open_ j), by have := h.lt; omega⟩
theorem RowI.go {w w' : World} {b n : Nat} {f : Nat → Int} (h : RowI w b n f) (hb : Below w.heap.size w w') : RowI w' b n f := h.block hb.size (hb.block b h.lt)
theorem RowI.ext {w : World} {b n : Nat} {f g : Nat → Int} (h : RowI w b n f) (e : ∀ j, j < n → f j = g j) : RowI w b n g := ⟨h.cells.ext e, h.open_, h.lt⟩
theorem RowI.cell {w : World} {b n : Nat} {f : Nat → Int} (h : RowI w b n f) (j : Nat) (hj : j < n) : w.cell? ⟨b, j, none⟩ = some (.int .i64 (f j)) := by
  have := h.cells j hj
  rwa [Nat.zero_add] at this
theorem RowI.other {w : World} {b n : Nat} {f : Nat → Int} (h : RowI w b n f) (b' i : Nat) (u : Value) (hn : b ≠ b') : RowI (w.setCell ⟨b', i, none⟩ u) b n f :=
  h.block (by rw [World.size_setCell]; exact Nat.le_refl _) (Below.heap_setCell w ⟨b', i, none⟩ u b hn)
/-- With one number another one. -/
def putF (f : Nat → Int) (i : Nat) (x : Int) : Nat → Int := fun j => if j = i then x else f j
theorem RowI.set {w : World} {b n : Nat} {f : Nat → Int} (h : RowI w b n f) (i : Nat) (hi : i < n) (x : Int) : RowI (w.setCell ⟨b, i, none⟩ (.int .i64 x)) b n (putF f i x) := by
  refine ⟨fun j hj => ?_, fun j => ?_, ?_⟩
  · rw [Nat.zero_add]
    unfold putF
    by_cases e : j = i
    · subst e
      rw [if_pos rfl, World.cell?_setCell_same _ _ _ (h.cell j hj)]
    · rw [if_neg e, World.cell?_setCell_other _ _ _ _ (by intro hh; injection hh with e1 e2; exact e e2.symm), h.cell j hj]
  · rw [World.frozen?_setCell]; exact h.open_ j
  · rw [World.size_setCell]; exact h.lt
theorem RowI.alloc {w : World} {b n : Nat} {f : Nat → Int} (h : RowI w b n f) (o : Obj) : RowI (w.alloc o) b n f := h.go ((Below.refl _ _).alloc (Nat.le_refl _) o)
/-- A new row of zeros. -/
theorem RowI.zeros (w : World) (t : TypeId) (n : Nat) (cs : Array Value) (h : ∀ j, j < n → cs[j]? = some (.int .i64 0)) : RowI (w.alloc (.cells cs t)) w.heap.size n (fun _ => 0) := by
  refine ⟨fun j hj => ?_, fun j => ?_, ?_⟩
  · rw [← h j hj]
    simp [go_sem]
  all_goals simp [go_sem]

/-- So many zeros. -/
def zeroRow (n : Nat) : Array Value := madeCells #[.int .i64 0] n
theorem zeroRow_at (n j : Nat) (h : j < n) : (zeroRow n)[j]? = some (.int .i64 0) := by
  unfold zeroRow madeCells
  simp [h, Nat.mod_one]
theorem int_info : ∃ i : TypeInfo, Try.prog.info? 3 = some i ∧ i.size = 1 ∧ i.bytes = 8 ∧ i.zero = some (.int .i64 0) := by
  have h : (Try.prog.info? 3).map (fun i => (i.size, i.bytes, i.zero)) = some (1, 8, some (.int .i64 0)) := by kernel_rfl
  cases hi : Try.prog.info? 3 with
  | none => rw [hi] at h; cases h
  | some i =>
    rw [hi] at h
    simp only [Option.map_some, Option.some.injEq, Prod.mk.injEq] at h
    exact ⟨i, rfl, h.1, h.2.1, h.2.2⟩
theorem make_row (n : Nat) (hn : n ≤ 1000000) (w : World) :
    (Instr.makeSlice 28 (.int .i64 (n : Int)) (.int .i64 (n : Int))).run Try.prog w = .ok (.slice (some ⟨w.heap.size, 0, none⟩) n n) (w.alloc (.cells (zeroRow n) 3)) := by
  obtain ⟨i, hi, h1, h2, h3⟩ := int_info
  have := run_make (P := Try.prog) w 28 3 i _ (by kernel_rfl) hi h3 .i64 .i64 (n : Int) (n : Int) (by omega) (by omega) (by rw [h2]; omega) (by omega)
  rw [h1, Int.toNat_natCast, Nat.mul_one] at this
  exact this

/-- The numbers of the first k places. -/
def upI (k : Nat) : Nat → Int := fun i => if i < k then (i : Int) else 0
theorem upI_put (k j : Nat) : putF (upI k) k (k : Int) j = upI (k + 1) j := by
  unfold putF upI
  by_cases e : j = k
  · subst e; rw [if_pos rfl, if_pos (by omega)]
  · rw [if_neg e]
    by_cases h : j < k
    · rw [if_pos h, if_pos (by omega)]
    · rw [if_neg h, if_neg (by omega)]

set_option maxHeartbeats 1000000 in
theorem start_any (s : List UInt8) (w : World) (hl : s.length ≤ 1000) :
    Calls Try.prog 14 #[.string (bs s)] w fun e w' => e = .returned (.slice (some ⟨w.heap.size, 0, none⟩) (s.length + 1) (s.length + 1)) ∧ RowI w' w.heap.size (s.length + 1) (fun i => i) ∧ Below w.heap.size w w' := by
  have hz : (bs s).size = s.length := bs_size s
  have hmk : ∀ W : World, (Instr.makeSlice 28 (.int .i64 ((s.length : Int) + 1)) (.int .i64 ((s.length : Int) + 1))).run Try.prog W = .ok (.slice (some ⟨W.heap.size, 0, none⟩) (s.length + 1) (s.length + 1)) (W.alloc (.cells (zeroRow (s.length + 1)) 3)) := fun W => make_row (s.length + 1) (by omega) W
  have h0 := RowI.zeros w 3 (s.length + 1) (zeroRow (s.length + 1)) (fun j hj => zeroRow_at _ j hj)
  have hb0 : Below w.heap.size w (w.alloc (.cells (zeroRow (s.length + 1)) 3)) := (Below.refl _ _).alloc (Nat.le_refl _) _
  have H0 := Lib.hid h0
  have HB0 := Lib.hid hb0
  clear h0 hb0
  go_enter Try.func14, Try.ntmps14
  go_wp2
  go_loopw [11] (fun x wr => ∃ k : Nat, x = .int .i64 (k : Int) ∧ k ≤ s.length + 1 ∧ RowI wr w.heap.size (s.length + 1) (upI k) ∧ Below w.heap.size w wr) (fun x _ => ((s.length : Int) + 1 - intOf x).toNat)
  case atStart => exact ⟨0, rfl, by omega, H0.out.ext fun j _ => rfl, HB0.out⟩
  case round =>
    obtain ⟨k, rfl, hk, hR, hB⟩ := hrel
    by_cases hkl : k < s.length + 1
    · have hki : (k : Int) < (s.length : Int) + 1 := by omega
      have hcell := hR.cell k hkl
      have hfz := hR.open_ k
      have hset := hR.set k hkl (k : Int)
      have HS := Lib.hid (hset.ext fun j _ => upI_put k j)
      have HB := Lib.hid (hB.setCell (p := ⟨w.heap.size, k, none⟩) (Nat.le_refl _) (.int .i64 (k : Int)))
      clear hset hR hB
      go_wp2
      go_roundw
      case rel => exact ⟨k + 1, rfl, by omega, HS.out, HB.out⟩
      case measure => simp only [intOf]; omega
    · have hki : ¬ (k : Int) < (s.length : Int) + 1 := by omega
      have hke : k = s.length + 1 := by omega
      subst hke
      have HR := Lib.hid (hR.ext (g := fun i => (i : Int)) fun j hj => if_pos hj)
      have HB := Lib.hid hB
      clear hR hB hki
      have hki : ¬ ((s.length : Int) + 1 < (s.length : Int) + 1) := by omega
      go_wp2
      go_ret
      exact ⟨rfl, HR.out, HB.out⟩

end Go.Proofs.Ytlfpfijhimngmaa.Edits

/-
  Contracts of style.Raise's closure, through, Raise.
-/
import Derived.Test.YtnkfjbfllcdkbaaDoorY2
import Derived.Laws.IdiomStrings
namespace Go.Proofs.YtnkfjbfllcdkbaaDoor.Style
open Go.RowKit
set_option linter.unusedVariables false
set_option linter.unusedSimpArgs false

theorem up1_nat (f : Bool) (c : UInt8) : ((up1 f c).toNat : Int) = if f && smallZ (c.toNat : Int) then (c.toNat : Int) - 32 else (c.toNat : Int) := by
  have := u8_all (fun c => decide (((up1 f c).toNat : Int) = if f && smallZ (c.toNat : Int) then (c.toNat : Int) - 32 else (c.toNat : Int))) (by cases f <;> decide +kernel) c
  simpa using this

/-- The style's cells in its box. -/
theorem Lies.new (w : World) (s : St) (t : TypeId) : Lies (w.alloc (.cells #[.bool s.fold, .int .u8 s.mul, .int .u8 s.div, .int .u8 s.pow, .int .u8 s.op, .int .u8 s.cl] t)) w.heap.size 0 s := by
  refine ⟨?_, ?_, ?_, ?_, ?_, ?_⟩ <;> simp [go_sem]

set_option maxRecDepth 100000 in
set_option maxHeartbeats 1000000 in
theorem raise1_any (f : Bool) (c : UInt8) (b : Nat) (w : World) (hf : w.cell? ⟨b, 0, none⟩ = some (.bool f)) :
    Calls Tryd.prog 36 #[.int .u8 (c.toNat : Int), .pointer (some ⟨b, 0, none⟩)] w fun e w' => e = .returned (.int .u8 ((up1 f c).toNat : Int)) ∧ w = w' := by
  rw [up1_nat]
  have h1 : (c.toNat : Int) ≤ 255 := by have := c.toNat_lt; omega
  have h0 : 0 ≤ (c.toNat : Int) := by omega
  generalize (c.toNat : Int) = x at *
  have hs := isSmall_any x
  cases f with
  | false =>
    go_enter Tryd.func36, Tryd.ntmps36
    go_wp2
    go_ret
    exact ⟨rfl, rfl⟩
  | true =>
    cases hx : smallZ x with
    | false =>
      rw [hx] at hs
      go_enter Tryd.func36, Tryd.ntmps36
      go_wp2_with fail
      refine (hs _ (by omega) (by omega)).mono ?_
      rintro e w2 ⟨rfl, rfl⟩
      go_wp2
      go_ret
      exact ⟨rfl, rfl⟩
    | true =>
      rw [hx] at hs
      unfold smallZ at hx
      have hx := of_decide_eq_true hx
      obtain ⟨hx1, hx2⟩ := hx
      have e1 : IntKind.u8.wrap (x - 97) = x - 97 := by unfold IntKind.wrap; simp [IntKind.bits, IntKind.signed]; omega
      go_enter Tryd.func36, Tryd.ntmps36
      go_wp2_with fail
      refine (hs _ (by omega) (by omega)).mono ?_
      rintro e w2 ⟨rfl, rfl⟩
      go_wp2
      go_ret
      refine ⟨?_, rfl⟩
      show Ending.returned (.int .u8 (x - 97 + 65)) = Ending.returned (.int .u8 (x - 32))
      rw [show x - 97 + 65 = x - 32 by omega]

/-- Bytes in memory. -/
def Bytes (w : World) (b : Nat) (l : List UInt8) : Prop :=
  (∀ j, j < l.length → w.cell? ⟨b, j, none⟩ = some (.int .u8 ((l.getD j 0).toNat : Int))) ∧ (∀ j, j < l.length → w.frozen? ⟨b, j, none⟩ = false) ∧ b < w.heap.size

theorem Bytes.set {w : World} {b : Nat} {l : List UInt8} (h : Bytes w b l) (i : Nat) (hi : i < l.length) (c : UInt8) : Bytes (w.setCell ⟨b, i, none⟩ (.int .u8 (c.toNat : Int))) b (l.set i c) := by
  refine ⟨fun j hj => ?_, fun j hj => ?_, ?_⟩
  · rw [List.length_set] at hj
    by_cases e : j = i
    · subst e
      rw [World.cell?_setCell_same _ _ _ (h.1 j hj), List.getD_eq_getElem?_getD, List.getElem?_set_self hj]
      rfl
    · rw [World.cell?_setCell_other _ _ _ _ (by intro hh; injection hh with e1 e2; exact e e2.symm), h.1 j hj, List.getD_eq_getElem?_getD, List.getD_eq_getElem?_getD, List.getElem?_set_ne (fun h => e h.symm)]
  · rw [List.length_set] at hj
    rw [World.frozen?_setCell]; exact h.2.1 j hj
  · rw [World.size_setCell]; exact h.2.2

theorem bytes_new (w : World) (s : List UInt8) : ∃ (cap : Nat) (W : World), (convert 9 70 (.string (bs s))).run Tryd.prog w = .ok (.slice (some ⟨w.heap.size, 0, none⟩) s.length cap) W ∧ Bytes W w.heap.size s ∧ Below w.heap.size w W := by
  have hv := run_bytes_of_string (P := Tryd.prog) w 9 70 5 (bs s) Tryd.underlying9 Tryd.underlying70 Tryd.underlying5
  rw [bs_size] at hv
  generalize grownCap w s.length 0 5 = cap at hv
  refine ⟨_, _, hv, ⟨fun j hj => ?_, fun j hj => ?_, ?_⟩, ?_⟩
  · have : ∀ (C : Array Value) (t : TypeId) (fr : Nat × Nat), (w.drew.alloc (.cells C t fr)).cell? ⟨w.heap.size, j, none⟩ = C[j]? := fun C t fr => World.cell?_alloc_mark w.drew C t fr j
    rw [this]
    have hb : (bs s).data = s.toArray := rfl
    unfold bytesRow
    rw [hb, Array.getElem?_append_left (by simpa using hj)]
    simp [List.getD_eq_getElem?_getD, List.getElem?_eq_getElem hj]
  · have hsz : s.length ≤ (bytesRow (bs s) cap).size := by
      have hb : (bs s).data = s.toArray := rfl
      unfold bytesRow
      rw [hb]; simp
    have hp : (w.drew.alloc (.cells (bytesRow (bs s) cap) 5 ((bytesRow (bs s) cap).size, (bytesRow (bs s) cap).size + 1))).heap[w.heap.size]? = some (.cells (bytesRow (bs s) cap) 5 ((bytesRow (bs s) cap).size, (bytesRow (bs s) cap).size + 1)) := by
      show (w.heap.push _)[w.heap.size]? = _
      simp
    simp only [World.frozen?, hp]
    simp
    omega
  · show w.heap.size < (w.heap.push _).size
    simp
  · exact ((Below.refl w.heap.size w).drew).alloc (Nat.le_refl _) _

/-- As far as bytes were changed. -/
def part (g : UInt8 → UInt8) (s : List UInt8) (k : Nat) : List UInt8 := (s.take k).map g ++ s.drop k
theorem part_zero (g : UInt8 → UInt8) (s : List UInt8) : part g s 0 = s := by simp [part]
theorem part_end (g : UInt8 → UInt8) (s : List UInt8) : part g s s.length = s.map g := by simp [part]
theorem part_len (g : UInt8 → UInt8) (s : List UInt8) (k : Nat) : (part g s k).length = s.length := by
  simp only [part, List.length_append, List.length_map, List.length_take, List.length_drop]; omega
theorem part_at (g : UInt8 → UInt8) (s : List UInt8) (k : Nat) (hk : k < s.length) : (part g s k).getD k 0 = s.getD k 0 := by
  unfold part
  rw [List.getD_eq_getElem?_getD, List.getElem?_append_right (by simp; omega), List.getElem?_drop, List.getD_eq_getElem?_getD]
  congr 2
  simp
  omega
theorem part_set (g : UInt8 → UInt8) (s : List UInt8) (k : Nat) (hk : k < s.length) : (part g s k).set k (g (s.getD k 0)) = part g s (k + 1) := by
  unfold part
  rw [List.set_append_right _ _ (by simp; omega), List.take_succ_eq_append_getElem hk, List.map_append, getD_at s k hk]
  have e : k - ((s.take k).map g).length = 0 := by simp; omega
  have d : s.drop k = s[k] :: s.drop (k + 1) := List.drop_eq_getElem_cons hk
  rw [e, d, List.set_cons_zero]
  simp

set_option maxRecDepth 100000 in
set_option maxHeartbeats 1000000 in
theorem through_any (s : List UInt8) (k : Nat) (caps : Array Value) (g : UInt8 → UInt8) (S : World → Prop) (w : World)
    (eg : ∀ args W, (callFunc k args).run Tryd.prog W = .ok (.enter k args) W)
    (hS : ∀ W W', S W → Below w.heap.size W W' → S W')
    (hc : ∀ (c : UInt8) W, S W → Calls Tryd.prog k (#[.int .u8 (c.toNat : Int)] ++ caps) W fun e W' => e = .returned (.int .u8 ((g c).toNat : Int)) ∧ W = W')
    (h0 : S w) (hl : s.length ≤ 9223372036854775807) :
    Calls Tryd.prog 35 #[.string (bs s), .func (.func k) #[] caps] w fun e w' => e = .returned (.string (bs (s.map g))) ∧ Below w.heap.size w w' := by
  obtain ⟨cap, W, hv, hB, hW⟩ := bytes_new w s
  have HC := Lib.hid hc
  have HS := Lib.hid hS
  have hSW := hS _ _ h0 hW
  clear hc hS h0
  have hzW := hW.size
  go_enter Tryd.func35, Tryd.ntmps35
  go_wp2
  go_loopw [12] (fun x wr => ∃ j : Nat, x = .int .i64 j ∧ j ≤ s.length ∧ Bytes wr w.heap.size (part g s j) ∧ Below w.heap.size w wr ∧ S wr) (fun x _ => (s.length - intOf x).toNat)
  case atStart => exact ⟨0, rfl, by omega, by rw [part_zero]; exact hB, hW, hSW⟩
  case round =>
    obtain ⟨j, rfl, hj, hBj, hWj, hSj⟩ := hrel
    have hzj := hWj.size
    by_cases hjl : j < s.length
    · have hji : (j : Int) < s.length := by omega
      have hcj := hBj.1 j (by rw [part_len]; exact hjl)
      rw [part_at g s j hjl] at hcj
      have hset := hBj.set j (by rw [part_len]; exact hjl) (g (s.getD j 0))
      rw [part_set g s j hjl] at hset
      have hfz := hBj.2.1 j (by rw [part_len]; exact hjl)
      have hcl := HC.out (s.getD j 0)
      generalize s.getD j 0 = c at *
      generalize g c = c' at *
      have HSET := Lib.hid hset
      clear hset
      go_wp2_with fail
      refine (hcl _ hSj).mono ?_
      rintro e w2 ⟨rfl, rfl⟩
      have hBe : Below w.heap.size w (wr.setCell ⟨w.heap.size, j, none⟩ (.int .u8 (c'.toNat : Int))) := by go_grown
      have hBe2 : Below w.heap.size wr (wr.setCell ⟨w.heap.size, j, none⟩ (.int .u8 (c'.toNat : Int))) := by go_grown
      have hS2 := HS.out _ _ hSj hBe2
      go_wp2
      go_roundw
      case rel => exact ⟨j + 1, rfl, by omega, HSET, hBe, hS2⟩
      case measure => simp only [intOf]; omega
    · have hji : ¬ (j : Int) < s.length := by omega
      have hje : j = s.length := by omega
      rw [hje, part_end] at hBj
      have hcv := run_convert_bytes_back (P := Tryd.prog) wr 70 9 5 ⟨w.heap.size, 0, none⟩ cap (s.map g) Tryd.underlying70 Tryd.underlying5 Tryd.underlying9
        (fun i hi => by
          have := hBj.1 i hi
          rw [getD_at _ _ hi] at this
          rw [Addr.add_lit, Nat.zero_add]
          exact this)
      rw [List.length_map] at hcv
      clear hje
      go_wp2
      go_ret
      exact ⟨rfl, hWj⟩

end Go.Proofs.YtnkfjbfllcdkbaaDoor.Style

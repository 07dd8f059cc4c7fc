/-
  Contract of style.Kind. Contracts of style.Raise's closure, through, Raise. Contract of style.Raise. Contracts of drachmlaw07.awake, rest, short.
-/
import Derived.Test.YthofogokpolhdaaGreatDoorYA
import Derived.Test.YthofogokpolhdaaGreatDoorY2
import Derived.Laws.IdiomStrings
import Derived.Shelf.Abstract
namespace Go.Proofs.YthofogokpolhdaaGreatDoor.Style
open Go.RowKit
set_option linter.unusedVariables false
set_option linter.unusedSimpArgs false

/-- A byte that is one in every notation, not by its letters' kind. -/
def OddIs (c k : Int) : Prop :=
  (c = 37 ∧ k = 1) ∨ (c = 39 ∧ k = 1) ∨ (c = 95 ∧ k = 1) ∨ (c = 91 ∧ k = 1) ∨ (c = 93 ∧ k = 1) ∨ (c = 43 ∧ k = 3) ∨ (c = 45 ∧ k = 3) ∨ (c = 40 ∧ k = 7) ∨ (c = 41 ∧ k = 8)
def OddNo (c : Int) : Prop :=
  (c == 37) = false ∧ (c == 39) = false ∧ (c == 95) = false ∧ (c == 91) = false ∧ (c == 93) = false ∧ (c == 43) = false ∧ (c == 45) = false ∧ (c == 40) = false ∧ (c == 41) = false
theorem odd_or (c : Int) : (∃ k, OddIs c k ∧ allZ c = k ∧ k ≠ 0 ∧ smallZ c = false) ∨ OddNo c := by
  by_cases h : c = 37 ∨ c = 39 ∨ c = 95 ∨ c = 91 ∨ c = 93 ∨ c = 43 ∨ c = 45 ∨ c = 40 ∨ c = 41
  · left
    rcases h with rfl | rfl | rfl | rfl | rfl | rfl | rfl | rfl | rfl
    · exact ⟨1, by unfold OddIs; omega, by decide, by decide, by decide⟩
    · exact ⟨1, by unfold OddIs; omega, by decide, by decide, by decide⟩
    · exact ⟨1, by unfold OddIs; omega, by decide, by decide, by decide⟩
    · exact ⟨1, by unfold OddIs; omega, by decide, by decide, by decide⟩
    · exact ⟨1, by unfold OddIs; omega, by decide, by decide, by decide⟩
    · exact ⟨3, by unfold OddIs; omega, by decide, by decide, by decide⟩
    · exact ⟨3, by unfold OddIs; omega, by decide, by decide, by decide⟩
    · exact ⟨7, by unfold OddIs; omega, by decide, by decide, by decide⟩
    · exact ⟨8, by unfold OddIs; omega, by decide, by decide, by decide⟩
  · right
    unfold OddNo
    simp only [beq_eq_false_iff_ne]
    omega

set_option maxRecDepth 100000 in
set_option maxHeartbeats 1000000 in
theorem kind_odd (n c k : Int) (w : World) (hS : Styles w) (hN : isN n = true) (h : OddIs c k) (hs : smallZ c = false) :
    Calls Tryz.prog 100 #[.int .i64 n, .int .u8 c] w fun e w' => e = .returned (.int .i64 k) ∧ Below w.heap.size w w' := by
  have hO := of_any n w hS
  rw [hN] at hO
  generalize stZ n = s at hO
  obtain ⟨f, m, d, p, op, cl⟩ := s
  simp only [St.v] at hO
  clear hN hS
  rcases h with ⟨rfl, rfl⟩ | ⟨rfl, rfl⟩ | ⟨rfl, rfl⟩ | ⟨rfl, rfl⟩ | ⟨rfl, rfl⟩ | ⟨rfl, rfl⟩ | ⟨rfl, rfl⟩ | ⟨rfl, rfl⟩ | ⟨rfl, rfl⟩
  all_goals
    go_enter Tryz.func100, Tryz.ntmps100
    go_wp2_with fail
    refine hO.mono ?_
    rintro e w1 ⟨rfl, hb1⟩
    have hz1 := hb1.size
    go_wp2_with fail
    refine (isSmall_any _ _ (by omega) (by omega)).mono ?_
    rintro e w2 ⟨rfl, rfl⟩
    rw [hs]
    go_wp2
    go_ret
    exact ⟨rfl, by go_grown⟩

set_option maxRecDepth 100000 in
set_option maxHeartbeats 1000000 in
theorem kind_capital (n c : Int) (w : World) (hS : Styles w) (hN : isN n = true) (h0 : 65 ≤ c) (h1 : c ≤ 90) :
    Calls Tryz.prog 100 #[.int .i64 n, .int .u8 c] w fun e w' => e = .returned (.int .i64 1) ∧ Below w.heap.size w w' := by
  have hO := of_any n w hS
  rw [hN] at hO
  generalize stZ n = s at hO
  obtain ⟨f, m, d, p, op, cl⟩ := s
  simp only [St.v] at hO
  clear hN hS
  go_enter Tryz.func100, Tryz.ntmps100
  go_wp2_with fail
  refine hO.mono ?_
  rintro e w1 ⟨rfl, hb1⟩
  have hz1 := hb1.size
  go_wp2
  go_ret
  exact ⟨rfl, by go_grown⟩

set_option maxRecDepth 100000 in
set_option maxHeartbeats 1000000 in
theorem kind_small (n c : Int) (w : World) (hS : Styles w) (hN : isN n = true) (h0 : 97 ≤ c) (h1 : c ≤ 122) :
    Calls Tryz.prog 100 #[.int .i64 n, .int .u8 c] w fun e w' => e = .returned (.int .i64 1) ∧ Below w.heap.size w w' := by
  have hs : smallZ c = true := by unfold smallZ; exact decide_eq_true ⟨h0, h1⟩
  have hO := of_any n w hS
  rw [hN] at hO
  generalize stZ n = s at hO
  obtain ⟨f, m, d, p, op, cl⟩ := s
  simp only [St.v] at hO
  clear hN hS
  go_enter Tryz.func100, Tryz.ntmps100
  go_wp2_with fail
  refine hO.mono ?_
  rintro e w1 ⟨rfl, hb1⟩
  have hz1 := hb1.size
  go_wp2_with fail
  refine (isSmall_any _ _ (by omega) (by omega)).mono ?_
  rintro e w2 ⟨rfl, rfl⟩
  rw [hs]
  go_wp2
  go_ret
  exact ⟨rfl, by go_grown⟩

set_option maxRecDepth 100000 in
set_option maxHeartbeats 1000000 in
theorem kind_digit (n c : Int) (w : World) (hS : Styles w) (hN : isN n = true) (h0 : 48 ≤ c) (h1 : c ≤ 57) :
    Calls Tryz.prog 100 #[.int .i64 n, .int .u8 c] w fun e w' => e = .returned (.int .i64 2) ∧ Below w.heap.size w w' := by
  have hs : smallZ c = false := by unfold smallZ; exact decide_eq_false (by omega)
  have e1 : (c == 37) = false := by simp only [beq_eq_false_iff_ne]; omega
  have e2 : (c == 39) = false := by simp only [beq_eq_false_iff_ne]; omega
  have e3 : (c == 95) = false := by simp only [beq_eq_false_iff_ne]; omega
  have e4 : (c == 91) = false := by simp only [beq_eq_false_iff_ne]; omega
  have e5 : (c == 93) = false := by simp only [beq_eq_false_iff_ne]; omega
  have hO := of_any n w hS
  rw [hN] at hO
  generalize stZ n = s at hO
  obtain ⟨f, m, d, p, op, cl⟩ := s
  simp only [St.v] at hO
  clear hN hS
  go_enter Tryz.func100, Tryz.ntmps100
  go_wp2_with fail
  refine hO.mono ?_
  rintro e w1 ⟨rfl, hb1⟩
  have hz1 := hb1.size
  go_wp2_with fail
  refine (isSmall_any _ _ (by omega) (by omega)).mono ?_
  rintro e w2 ⟨rfl, rfl⟩
  rw [hs]
  go_wp2
  go_ret
  exact ⟨rfl, by go_grown⟩

set_option maxRecDepth 100000 in
set_option maxHeartbeats 1000000 in
theorem kind_own (n c : Int) (w : World) (hS : Styles w) (hN : isN n = true) (h : OddNo c) (h0 : 0 ≤ c) (h1 : c ≤ 255)
    (hr : c < 48 ∨ (57 < c ∧ c < 65) ∨ (90 < c ∧ c < 97) ∨ 122 < c) :
    Calls Tryz.prog 100 #[.int .i64 n, .int .u8 c] w fun e w' => e = .returned (.int .i64 (ownZ (stZ n) c)) ∧ Below w.heap.size w w' := by
  have hs : smallZ c = false := by unfold smallZ; exact decide_eq_false (by omega)
  obtain ⟨e1, e2, e3, e4, e5, e6, e7, e8, e9⟩ := h
  have hK := ownKind_any (stZ n) c
  have hO := of_any n w hS
  rw [hN] at hO
  generalize stZ n = s at hO hK
  obtain ⟨f, m, d, p, op, cl⟩ := s
  simp only [St.v] at hO hK
  generalize ownZ _ c = k at hK
  clear hN hS
  rcases hr with a | ⟨a, b⟩ | ⟨a, b⟩ | a
  all_goals
    go_enter Tryz.func100, Tryz.ntmps100
    go_wp2_with fail
    refine hO.mono ?_
    rintro e w1 ⟨rfl, hb1⟩
    have hz1 := hb1.size
    go_wp2_with fail
    refine (isSmall_any _ _ (by omega) (by omega)).mono ?_
    rintro e w2 ⟨rfl, rfl⟩
    rw [hs]
    go_wp2_with fail
    refine (hK _).mono ?_
    rintro e w3 ⟨rfl, hb3⟩
    go_wp2
    go_ret
    exact ⟨rfl, (hb1.alloc hz1 _).trans (hb3.mono (by rw [World.size_alloc]; omega))⟩

set_option maxRecDepth 100000 in
set_option maxHeartbeats 1000000 in
theorem kind_none (n c : Int) (w : World) (h : n < 1 ∨ 5 < n) :
    Calls Tryz.prog 100 #[.int .i64 n, .int .u8 c] w fun e w' => e = .returned (.int .i64 0) ∧ Below w.heap.size w w' := by
  have hO := of_none n w h
  simp only [St.v] at hO
  clear h
  go_enter Tryz.func100, Tryz.ntmps100
  go_wp2_with fail
  refine hO.mono ?_
  rintro e w1 ⟨rfl, hb1⟩
  have hz1 := hb1.size
  go_wp2
  go_ret
  exact ⟨rfl, by go_grown⟩

theorem kind_any (n c : Int) (w : World) (hS : Styles w) (h0 : 0 ≤ c) (h1 : c ≤ 255) :
    Calls Tryz.prog 100 #[.int .i64 n, .int .u8 c] w fun e w' => e = .returned (.int .i64 (kindZ n c)) ∧ Below w.heap.size w w' := by
  unfold kindZ
  by_cases hn : 1 ≤ n ∧ n ≤ 5
  · have hN : isN n = true := by unfold isN; exact decide_eq_true hn
    rw [if_pos hN]
    rcases odd_or c with ⟨k, hk, e1, e2, e3⟩ | hno
    · rw [e1, if_neg e2]
      exact kind_odd n c k w hS hN hk e3
    · by_cases a : 65 ≤ c ∧ c ≤ 90
      · have e : allZ c = 1 := by unfold allZ; rw [if_pos (by omega)]
        rw [e]; exact kind_capital n c w hS hN a.1 a.2
      by_cases b : 97 ≤ c ∧ c ≤ 122
      · have e : allZ c = 1 := by unfold allZ; rw [if_pos (by omega)]
        rw [e]; exact kind_small n c w hS hN b.1 b.2
      by_cases d : 48 ≤ c ∧ c ≤ 57
      · have e : allZ c = 2 := by unfold allZ; rw [if_neg (by omega), if_pos d]
        rw [e]; exact kind_digit n c w hS hN d.1 d.2
      have hno' := hno
      unfold OddNo at hno'
      simp only [beq_eq_false_iff_ne] at hno'
      have e : allZ c = 0 := by
        unfold allZ
        rw [if_neg (by omega), if_neg d, if_neg (by omega), if_neg (by omega), if_neg (by omega)]
      rw [e, if_pos rfl]
      exact kind_own n c w hS hN hno h0 h1 (by omega)
  · have hN : isN n = false := by unfold isN; exact decide_eq_false hn
    rw [hN]
    exact kind_none n c w (by omega)

end Go.Proofs.YthofogokpolhdaaGreatDoor.Style

namespace Go.Proofs.YthofogokpolhdaaGreatDoor.Style
open Go.RowKit
set_option linter.unusedVariables false
set_option linter.unusedSimpArgs false

theorem up1_nat (f : Bool) (c : UInt8) : ((up1 f c).toNat : Int) = if f && smallZ (c.toNat : Int) then (c.toNat : Int) - 32 else (c.toNat : Int) := by
  have := u8_all (fun c => decide (((up1 f c).toNat : Int) = if f && smallZ (c.toNat : Int) then (c.toNat : Int) - 32 else (c.toNat : Int))) (by cases f <;> decide +kernel) c
  simpa using this

/-- The style's cells in its box. -/
theorem Lies.new (w : World) (s : St) (t : TypeId) : Lies (w.alloc (.cells #[.bool s.fold, .int .u8 s.mul, .int .u8 s.div, .int .u8 s.pow, .int .u8 s.op, .int .u8 s.cl] t)) w.heap.size 0 s := by
  refine ⟨?_, ?_, ?_, ?_, ?_, ?_⟩ <;> simp [go_sem]

set_option maxRecDepth 100000 in
set_option maxHeartbeats 1000000 in
theorem raise1_any (f : Bool) (c : UInt8) (b : Nat) (w : World) (hf : w.cell? ⟨b, 0, none⟩ = some (.bool f)) :
    Calls Tryz.prog 126 #[.int .u8 (c.toNat : Int), .pointer (some ⟨b, 0, none⟩)] w fun e w' => e = .returned (.int .u8 ((up1 f c).toNat : Int)) ∧ w = w' := by
  rw [up1_nat]
  have h1 : (c.toNat : Int) ≤ 255 := by have := c.toNat_lt; omega
  have h0 : 0 ≤ (c.toNat : Int) := by omega
  generalize (c.toNat : Int) = x at *
  have hs := isSmall_any x
  cases f with
  | false =>
    go_enter Tryz.func126, Tryz.ntmps126
    go_wp2
    go_ret
    exact ⟨rfl, rfl⟩
  | true =>
    cases hx : smallZ x with
    | false =>
      rw [hx] at hs
      go_enter Tryz.func126, Tryz.ntmps126
      go_wp2_with fail
      refine (hs _ (by omega) (by omega)).mono ?_
      rintro e w2 ⟨rfl, rfl⟩
      go_wp2
      go_ret
      exact ⟨rfl, rfl⟩
    | true =>
      rw [hx] at hs
      unfold smallZ at hx
      have hx := of_decide_eq_true hx
      obtain ⟨hx1, hx2⟩ := hx
      have e1 : IntKind.u8.wrap (x - 97) = x - 97 := by unfold IntKind.wrap; simp [IntKind.bits, IntKind.signed]; omega
      go_enter Tryz.func126, Tryz.ntmps126
      go_wp2_with fail
      refine (hs _ (by omega) (by omega)).mono ?_
      rintro e w2 ⟨rfl, rfl⟩
      go_wp2
      go_ret
      refine ⟨?_, rfl⟩
      show Ending.returned (.int .u8 (x - 97 + 65)) = Ending.returned (.int .u8 (x - 32))
      rw [show x - 97 + 65 = x - 32 by omega]

/-- Bytes in memory. -/
def Bytes (w : World) (b : Nat) (l : List UInt8) : Prop :=
  (∀ j, j < l.length → w.cell? ⟨b, j, none⟩ = some (.int .u8 ((l.getD j 0).toNat : Int))) ∧ (∀ j, j < l.length → w.frozen? ⟨b, j, none⟩ = false) ∧ b < w.heap.size

theorem Bytes.set {w : World} {b : Nat} {l : List UInt8} (h : Bytes w b l) (i : Nat) (hi : i < l.length) (c : UInt8) : Bytes (w.setCell ⟨b, i, none⟩ (.int .u8 (c.toNat : Int))) b (l.set i c) := by
  refine ⟨fun j hj => ?_, fun j hj => ?_, ?_⟩
  · rw [List.length_set] at hj
    by_cases e : j = i
    · subst e
      rw [World.cell?_setCell_same _ _ _ (h.1 j hj), List.getD_eq_getElem?_getD, List.getElem?_set_self hj]
      rfl
    · rw [World.cell?_setCell_other _ _ _ _ (by intro hh; injection hh with e1 e2; exact e e2.symm), h.1 j hj, List.getD_eq_getElem?_getD, List.getD_eq_getElem?_getD, List.getElem?_set_ne (fun h => e h.symm)]
  · rw [List.length_set] at hj
    rw [World.frozen?_setCell]; exact h.2.1 j hj
  · rw [World.size_setCell]; exact h.2.2

theorem bytes_new (w : World) (s : List UInt8) : ∃ (cap : Nat) (W : World), (convert 9 45 (.string (bs s))).run Tryz.prog w = .ok (.slice (some ⟨w.heap.size, 0, none⟩) s.length cap) W ∧ Bytes W w.heap.size s ∧ Below w.heap.size w W := by
  have hv := run_bytes_of_string (P := Tryz.prog) w 9 45 5 (bs s) Tryz.underlying9 Tryz.underlying45 Tryz.underlying5
  rw [bs_size] at hv
  generalize grownCap w s.length 0 5 = cap at hv
  refine ⟨_, _, hv, ⟨fun j hj => ?_, fun j hj => ?_, ?_⟩, ?_⟩
  · have : ∀ (C : Array Value) (t : TypeId) (fr : Nat × Nat), (w.drew.alloc (.cells C t fr)).cell? ⟨w.heap.size, j, none⟩ = C[j]? := fun C t fr => World.cell?_alloc_mark w.drew C t fr j
    rw [this]
    have hb : (bs s).data = s.toArray := rfl
    unfold bytesRow
    rw [hb, Array.getElem?_append_left (by simpa using hj)]
    simp [List.getD_eq_getElem?_getD, List.getElem?_eq_getElem hj]
  · have hsz : s.length ≤ (bytesRow (bs s) cap).size := by
      have hb : (bs s).data = s.toArray := rfl
      unfold bytesRow
      rw [hb]; simp
    have hp : (w.drew.alloc (.cells (bytesRow (bs s) cap) 5 ((bytesRow (bs s) cap).size, (bytesRow (bs s) cap).size + 1))).heap[w.heap.size]? = some (.cells (bytesRow (bs s) cap) 5 ((bytesRow (bs s) cap).size, (bytesRow (bs s) cap).size + 1)) := by
      show (w.heap.push _)[w.heap.size]? = _
      simp
    simp only [World.frozen?, hp]
    simp
    omega
  · show w.heap.size < (w.heap.push _).size
    simp
  · exact ((Below.refl w.heap.size w).drew).alloc (Nat.le_refl _) _

/-- As far as bytes were changed. -/
def part (g : UInt8 → UInt8) (s : List UInt8) (k : Nat) : List UInt8 := (s.take k).map g ++ s.drop k
theorem part_zero (g : UInt8 → UInt8) (s : List UInt8) : part g s 0 = s := by simp [part]
theorem part_end (g : UInt8 → UInt8) (s : List UInt8) : part g s s.length = s.map g := by simp [part]
theorem part_len (g : UInt8 → UInt8) (s : List UInt8) (k : Nat) : (part g s k).length = s.length := by
  simp only [part, List.length_append, List.length_map, List.length_take, List.length_drop]; omega
theorem part_at (g : UInt8 → UInt8) (s : List UInt8) (k : Nat) (hk : k < s.length) : (part g s k).getD k 0 = s.getD k 0 := by
  unfold part
  rw [List.getD_eq_getElem?_getD, List.getElem?_append_right (by simp; omega), List.getElem?_drop, List.getD_eq_getElem?_getD]
  congr 2
  simp
  omega
theorem part_set (g : UInt8 → UInt8) (s : List UInt8) (k : Nat) (hk : k < s.length) : (part g s k).set k (g (s.getD k 0)) = part g s (k + 1) := by
  unfold part
  rw [List.set_append_right _ _ (by simp; omega), List.take_succ_eq_append_getElem hk, List.map_append, getD_at s k hk]
  have e : k - ((s.take k).map g).length = 0 := by simp; omega
  have d : s.drop k = s[k] :: s.drop (k + 1) := List.drop_eq_getElem_cons hk
  rw [e, d, List.set_cons_zero]
  simp

set_option maxRecDepth 100000 in
set_option maxHeartbeats 1000000 in
theorem through_any (s : List UInt8) (k : Nat) (caps : Array Value) (g : UInt8 → UInt8) (S : World → Prop) (w : World)
    (eg : ∀ args W, (callFunc k args).run Tryz.prog W = .ok (.enter k args) W)
    (hS : ∀ W W', S W → Below w.heap.size W W' → S W')
    (hc : ∀ (c : UInt8) W, S W → Calls Tryz.prog k (#[.int .u8 (c.toNat : Int)] ++ caps) W fun e W' => e = .returned (.int .u8 ((g c).toNat : Int)) ∧ W = W')
    (h0 : S w) (hl : s.length ≤ 9223372036854775807) :
    Calls Tryz.prog 125 #[.string (bs s), .func (.func k) #[] caps] w fun e w' => e = .returned (.string (bs (s.map g))) ∧ Below w.heap.size w w' := by
  obtain ⟨cap, W, hv, hB, hW⟩ := bytes_new w s
  have HC := Lib.hid hc
  have HS := Lib.hid hS
  have hSW := hS _ _ h0 hW
  clear hc hS h0
  have hzW := hW.size
  go_enter Tryz.func125, Tryz.ntmps125
  go_wp2
  go_loopw [12] (fun x wr => ∃ j : Nat, x = .int .i64 j ∧ j ≤ s.length ∧ Bytes wr w.heap.size (part g s j) ∧ Below w.heap.size w wr ∧ S wr) (fun x _ => (s.length - intOf x).toNat)
  case atStart => exact ⟨0, rfl, by omega, by rw [part_zero]; exact hB, hW, hSW⟩
  case round =>
    obtain ⟨j, rfl, hj, hBj, hWj, hSj⟩ := hrel
    have hzj := hWj.size
    by_cases hjl : j < s.length
    · have hji : (j : Int) < s.length := by omega
      have hcj := hBj.1 j (by rw [part_len]; exact hjl)
      rw [part_at g s j hjl] at hcj
      have hset := hBj.set j (by rw [part_len]; exact hjl) (g (s.getD j 0))
      rw [part_set g s j hjl] at hset
      have hfz := hBj.2.1 j (by rw [part_len]; exact hjl)
      have hcl := HC.out (s.getD j 0)
      generalize s.getD j 0 = c at *
      generalize g c = c' at *
      have HSET := Lib.hid hset
      clear hset
      go_wp2_with fail
      refine (hcl _ hSj).mono ?_
      rintro e w2 ⟨rfl, rfl⟩
      have hBe : Below w.heap.size w (wr.setCell ⟨w.heap.size, j, none⟩ (.int .u8 (c'.toNat : Int))) := by go_grown
      have hBe2 : Below w.heap.size wr (wr.setCell ⟨w.heap.size, j, none⟩ (.int .u8 (c'.toNat : Int))) := by go_grown
      have hS2 := HS.out _ _ hSj hBe2
      go_wp2
      go_roundw
      case rel => exact ⟨j + 1, rfl, by omega, HSET, hBe, hS2⟩
      case measure => simp only [intOf]; omega
    · have hji : ¬ (j : Int) < s.length := by omega
      have hje : j = s.length := by omega
      rw [hje, part_end] at hBj
      have hcv := run_convert_bytes_back (P := Tryz.prog) wr 45 9 5 ⟨w.heap.size, 0, none⟩ cap (s.map g) Tryz.underlying45 Tryz.underlying5 Tryz.underlying9
        (fun i hi => by
          have := hBj.1 i hi
          rw [getD_at _ _ hi] at this
          rw [Addr.add_lit, Nat.zero_add]
          exact this)
      rw [List.length_map] at hcv
      clear hje
      go_wp2
      go_ret
      exact ⟨rfl, hWj⟩

end Go.Proofs.YthofogokpolhdaaGreatDoor.Style

namespace Go.Proofs.YthofogokpolhdaaGreatDoor.Style
open Go.RowKit Go.Shelf
set_option linter.unusedVariables false
set_option linter.unusedSimpArgs false

set_option maxRecDepth 100000 in
set_option maxHeartbeats 1000000 in
theorem raise_any (n : Int) (s : List UInt8) (w : World) (hS : Styles w) (hl : s.length ≤ 9223372036854775807) :
    Calls Tryz.prog 112 #[.int .i64 n, .string (bs s)] w fun e w' => e = .returned (.string (bs (upL (stZ n).fold s))) ∧ Below w.heap.size w w' := by
  have hO := of_any n w hS
  generalize isN n = b at hO
  generalize stZ n = x at hO
  obtain ⟨f, m, d, p, op, cl⟩ := x
  simp only [St.v] at hO
  show Calls _ _ _ _ fun e w' => e = .returned (.string (bs (s.map (up1 f)))) ∧ _
  clear hS
  go_enter Tryz.func112, Tryz.ntmps112
  go_wp2_with fail
  refine hO.mono ?_
  rintro e w1 ⟨rfl, hb1⟩
  have hz1 := hb1.size
  clear hO
  go_wp2_with fail
  have hL := (Lies.new w1 ⟨f, m, d, p, op, cl⟩ 43).1
  simp only at hL
  have hbV : Below w.heap.size w (w1.alloc (.cells #[.bool f, .int .u8 m, .int .u8 d, .int .u8 p, .int .u8 op, .int .u8 cl] 43)) := hb1.alloc hz1 _
  have hzV : w1.heap.size < (w1.alloc (.cells #[.bool f, .int .u8 m, .int .u8 d, .int .u8 p, .int .u8 op, .int .u8 cl] 43)).heap.size := by rw [World.size_alloc]; omega
  generalize w1.alloc (.cells #[.bool f, .int .u8 m, .int .u8 d, .int .u8 p, .int .u8 op, .int .u8 cl] 43) = V at *
  refine (through_any s 126 #[.pointer (some ⟨w1.heap.size, 0, none⟩)] (up1 f) (fun W => W.cell? ⟨w1.heap.size, 0, none⟩ = some (.bool f)) V (enters_of Tryz.func126 (by kernel_rfl) rfl)
    (fun W W' h hb => (World.cell?_of_block (a := ⟨w1.heap.size, 0, none⟩) (hb.block _ hzV)).trans h)
    (fun c W h => raise1_any f c w1.heap.size W h) hL hl).mono ?_
  rintro e w2 ⟨rfl, hb2⟩
  go_wp2
  go_ret
  exact ⟨rfl, hbV.trans (hb2.mono hbV.size)⟩

end Go.Proofs.YthofogokpolhdaaGreatDoor.Style

namespace Go.Proofs.YthofogokpolhdaaGreatDoor.Style
open Go.RowKit
set_option linter.unusedVariables false
set_option linter.unusedSimpArgs false

theorem ex_one : kindZ 3 42 = 4 := by decide
theorem ex_two : kindZ 1 42 = 0 := by decide
theorem ex_three : upL (stZ 4).fold [109, 111, 108] = [77, 79, 76] := by decide
attribute [local irreducible] kindZ upL stZ

def restN (x : Int) (n : Nat) : Nat := (x % (n : Int)).toNat
theorem rest_eq (x : Int) (n : Nat) : (x.tmod n + n) % (n : Int) = x % (n : Int) := by
  have h := Int.mul_tdiv_add_tmod x n
  rw [Int.add_emod_right]
  calc x.tmod n % n = (x.tmod n + n * x.tdiv n) % n := by rw [Int.add_mul_emod_self_left]
    _ = x % n := by rw [Int.add_comm, h]

theorem bs_extract (l : List UInt8) (i j : Nat) (hj : j ≤ l.length) : (bs l).extract i j = bs ((l.take j).drop i) := by
  apply ByteArray.ext
  simp [bs, ByteArray.data_extract]
  rw [List.take_drop]
  by_cases h : i ≤ j
  · congr 2; omega
  · rw [List.drop_eq_nil_of_le (by rw [List.length_take]; omega), List.drop_eq_nil_of_le (by rw [List.length_take]; omega)]

end Go.Proofs.YthofogokpolhdaaGreatDoor.Style


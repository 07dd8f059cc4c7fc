/-
  Contracts of lex.tokenAt's closure, lex.between, lex.made, lex.tokenAt.
-/
import Derived.Test.YthofogokpolhdaaGreatDoorXG
import Derived.Test.YthofogokpolhdaaGreatDoorY1X
import Derived.Deep.RegionHeld3
import Derived.Deep.Cut
namespace Go.Proofs.YthofogokpolhdaaGreatDoor.Toks
open Go.RowKit
open Go.Proofs.YthofogokpolhdaaGreatDoor.Style
set_option linter.unusedVariables false
set_option linter.unusedSimpArgs false

/-- How far a token may go, from a place on. -/
def farN (n k : Int) (r : List UInt8) : Nat :=
  if k = 1 ∨ k = 2 then goL n k r + 1 else if k = 9 then (if offL n r < r.length then offL n r + 2 else offL n r + 1) else 1

/-- What the closure has captured. -/
structure FarI (W : World) (b1 b2 b3 b4 : Nat) (p : Nat) (s : List UInt8) (n k : Int) : Prop where
  x1 : W.cell? ⟨b1, 0, none⟩ = some (.int .i64 (p : Int))
  x2 : W.cell? ⟨b2, 0, none⟩ = some (.string (bs s))
  x3 : W.cell? ⟨b3, 0, none⟩ = some (.int .i64 n)
  x4 : W.cell? ⟨b4, 0, none⟩ = some (.int .i64 k)
theorem FarI.go {W W' : World} {b1 b2 b3 b4 : Nat} {p : Nat} {s : List UInt8} {n k : Int} (h : FarI W b1 b2 b3 b4 p s n k) (hb : Below W.heap.size W W') : FarI W' b1 b2 b3 b4 p s n k :=
  ⟨(hb.cell (p := ⟨b1, 0, none⟩) (cell_lt h.x1)).trans h.x1, (hb.cell (p := ⟨b2, 0, none⟩) (cell_lt h.x2)).trans h.x2, (hb.cell (p := ⟨b3, 0, none⟩) (cell_lt h.x3)).trans h.x3, (hb.cell (p := ⟨b4, 0, none⟩) (cell_lt h.x4)).trans h.x4⟩

/-- How the world stands in the closure. -/
structure FarW (w W : World) (b1 b2 b3 b4 : Nat) (p : Nat) (s : List UInt8) (n k : Int) : Prop where
  below : Below w.heap.size w W
  sts : Styles W
  fr : FarI W b1 b2 b3 b4 p s n k
theorem FarW.go {w W W' : World} {b1 b2 b3 b4 : Nat} {p : Nat} {s : List UInt8} {n k : Int} (h : FarW w W b1 b2 b3 b4 p s n k) (hb : Below W.heap.size W W') : FarW w W' b1 b2 b3 b4 p s n k :=
  ⟨h.below.trans (hb.mono h.below.size), h.sts.go hb, h.fr.go hb⟩
theorem FarW.drew {w W : World} {b1 b2 b3 b4 : Nat} {p : Nat} {s : List UInt8} {n k : Int} (h : FarW w W b1 b2 b3 b4 p s n k) : FarW w W.drew b1 b2 b3 b4 p s n k := h.go (Below.refl _ _).drew
theorem FarW.cells {w W : World} {b1 b2 b3 b4 : Nat} {p : Nat} {s : List UInt8} {n k : Int} (h : FarW w W b1 b2 b3 b4 p s n k) :
    W.cell? ⟨b2, 0, none⟩ = some (.string (bs s)) ∧ W.cell? ⟨b3, 0, none⟩ = some (.int .i64 n) := ⟨h.fr.x2, h.fr.x3⟩

set_option maxRecDepth 100000 in
set_option maxHeartbeats 2000000 in
theorem far_run (b1 b2 b3 b4 p : Nat) (s : List UInt8) (n k : Int) (w : World) (hS : Styles w) (hF : FarI w b1 b2 b3 b4 p s n k) (hp : p < s.length) (hl : s.length ≤ 1000) (hk : k = 1 ∨ k = 2) :
    Calls Tryz.prog 101 #[.pointer (some ⟨b1, 0, none⟩), .pointer (some ⟨b2, 0, none⟩), .pointer (some ⟨b3, 0, none⟩), .pointer (some ⟨b4, 0, none⟩)] w fun e w' => e = .returned (.int .i64 ((p + 1 + goL n k (s.drop (p + 1)) : Nat) : Int)) ∧ Below w.heap.size w w' := by
  have hzi : ((bs s).size : Int) = (s.length : Int) := by rw [bs_size]
  have hli : (s.length : Int) ≤ 1000 := by omega
  have hK := kind_any n
  have hrl : p + 1 + goL n k (s.drop (p + 1)) ≤ s.length := by
    have := run_le (isK n k) (s.drop (p + 1))
    rw [List.length_drop] at this
    show p + 1 + runL _ _ ≤ _
    omega
  have hR : Hid (∀ i, i ≤ goL n k (s.drop (p + 1)) → p + 1 + i < s.length → ((kindZ n ((s.getD (p + 1 + i) 0).toNat : Int) == k) = true ↔ i < goL n k (s.drop (p + 1)))) := by
    intro i hi hi2
    have := run_succ (isK n k) (s.drop (p + 1)) i hi (by rw [List.length_drop]; omega)
    rw [show (s.drop (p + 1)).getD i 0 = s.getD (p + 1 + i) 0 by rw [List.getD_eq_getElem?_getD, List.getElem?_drop, List.getD_eq_getElem?_getD]] at this
    exact this
  generalize goL n k (s.drop (p + 1)) = m at *
  have hA : FarW w w b1 b2 b3 b4 p s n k := ⟨Below.refl _ _, hS, hF⟩
  obtain ⟨x1, x2, x3, x4⟩ := hF
  clear hS
  rcases hk with rfl | rfl
  all_goals
    go_enter Tryz.func101, Tryz.ntmps101
    go_wp2
    go_step3
    go_wp2
    go_step3
    go_wp2
    clear x1 x2 x3 x4
    go_loopw [5] (fun x wr => ∃ i : Nat, x = .int .i64 ((p + 1 + i : Nat) : Int) ∧ i ≤ m ∧ FarW w wr b1 b2 b3 b4 p s n _) (fun x _ => (s.length - intOf x).toNat)
    case atStart => exact ⟨0, by rw [Nat.add_zero]; rfl, by omega, hA⟩
    case round =>
      clear hA
      obtain ⟨i, rfl, hi, hA⟩ := hrel
      obtain ⟨x1, x2, x3, x4⟩ := hA.fr
      by_cases hil : p + 1 + i < s.length
      · have hr := hR.out i hi hil
        generalize hq : p + 1 + i = q at *
        have HQ := Lib.hid hq
        clear hq
        have hii : (q : Int) < s.length := by omega
        have hib : q < (bs s).size := by rw [bs_size]; exact hil
        obtain ⟨c, hc⟩ : ∃ c, s.getD q 0 = c := ⟨_, rfl⟩
        have hcb : (bs s)[q] = c := (bs_at s q hib).trans hc
        rw [hc] at hr
        have HR := Lib.hid hr
        clear hr
        clear hc
        have hc1 : (c.toNat : Int) ≤ 255 := by have := c.toNat_lt; omega
        go_upto_region 4 with fail
        go_region_held3 (fun v => v.cell? ⟨b2, 0, none⟩ = some (.string (bs s)) ∧ v.cell? ⟨b3, 0, none⟩ = some (.int .i64 n))
          (first | with_reducible exact hA.cells | with_reducible exact hA.drew.cells | go_keep)
          (first | (go_at_call_of 100 (Value.int IntKind.u8 (c.toNat : Int)); (refine (hK (c.toNat : Int) _ (by first | with_reducible exact hA.sts | with_reducible exact hA.drew.sts) (by omega) hc1).mono ?_); rintro e u ⟨rfl, hb⟩; (first | (replace hA := hA.go hb) | (replace hA := hA.drew.go hb)); clear hb))
        clear x1 x2 x3 x4
        have x4 := hA.fr.x4
        generalize kindZ n (c.toNat : Int) = z at *
        cases e : (z == _) with
        | true =>
          have HI := HR.out.1 e
          clear HR
          go_wp2
          go_roundw
          case rel => exact ⟨i + 1, by have := HQ.out; simp; omega, by omega, hA⟩
          case measure => simp only [intOf]; omega
        | false =>
          have HI : Hid (i = m) := by
            show _ = _
            rcases Nat.lt_or_ge i m with h | h
            · rw [HR.out.2 h] at e; cases e
            · omega
          clear HR
          go_wp2
          try rw [Exit.noGoto_ret]
          go_ret
          exact ⟨by have := HQ.out; have := HI.out; simp; omega, hA.below⟩
      · have hii : ¬ ((p + 1 + i : Nat) : Int) < s.length := by omega
        go_wp2
        try rw [Exit.noGoto_ret]
        go_ret
        exact ⟨by simp; omega, hA.below⟩

set_option maxRecDepth 100000 in
set_option maxHeartbeats 2000000 in
theorem far_note (b1 b2 b3 b4 p : Nat) (s : List UInt8) (n k : Int) (w : World) (hS : Styles w) (hF : FarI w b1 b2 b3 b4 p s n k) (hp : p < s.length) (hl : s.length ≤ 1000) (hk : k = 9) :
    Calls Tryz.prog 101 #[.pointer (some ⟨b1, 0, none⟩), .pointer (some ⟨b2, 0, none⟩), .pointer (some ⟨b3, 0, none⟩), .pointer (some ⟨b4, 0, none⟩)] w fun e w' => e = .returned (.int .i64 ((p + 1 + offL n (s.drop (p + 1)) + (if offL n (s.drop (p + 1)) < (s.drop (p + 1)).length then 1 else 0) : Nat) : Int)) ∧ Below w.heap.size w w' := by
  have hzi : ((bs s).size : Int) = (s.length : Int) := by rw [bs_size]
  have hli : (s.length : Int) ≤ 1000 := by omega
  have hK := kind_any n
  have hrl : p + 1 + offL n (s.drop (p + 1)) ≤ s.length := by
    have := run_le (noC n) (s.drop (p + 1))
    rw [List.length_drop] at this
    show p + 1 + runL _ _ ≤ _
    omega
  have hR : Hid (∀ i, i ≤ offL n (s.drop (p + 1)) → p + 1 + i < s.length → ((kindZ n ((s.getD (p + 1 + i) 0).toNat : Int) == 10) = false ↔ i < offL n (s.drop (p + 1)))) := by
    intro i hi hi2
    have := run_succ (noC n) (s.drop (p + 1)) i hi (by rw [List.length_drop]; omega)
    rw [show (s.drop (p + 1)).getD i 0 = s.getD (p + 1 + i) 0 by rw [List.getD_eq_getElem?_getD, List.getElem?_drop, List.getD_eq_getElem?_getD]] at this
    unfold noC kd at this
    rw [Bool.not_eq_true'] at this
    exact this
  rw [List.length_drop]
  generalize offL n (s.drop (p + 1)) = m at *
  have hA : FarW w w b1 b2 b3 b4 p s n k := ⟨Below.refl _ _, hS, hF⟩
  obtain ⟨x1, x2, x3, x4⟩ := hF
  clear hS
  subst hk
  all_goals
    go_enter Tryz.func101, Tryz.ntmps101
    go_wp2
    go_step3
    go_wp2
    go_step3
    go_wp2
    clear x1 x2 x3 x4
    go_loopw [5] (fun x wr => ∃ i : Nat, x = .int .i64 ((p + 1 + i : Nat) : Int) ∧ i ≤ m ∧ FarW w wr b1 b2 b3 b4 p s n _) (fun x _ => (s.length - intOf x).toNat)
    case atStart => exact ⟨0, by rw [Nat.add_zero]; rfl, by omega, hA⟩
    case round =>
      clear hA
      obtain ⟨i, rfl, hi, hA⟩ := hrel
      obtain ⟨x1, x2, x3, x4⟩ := hA.fr
      by_cases hil : p + 1 + i < s.length
      · have hr := hR.out i hi hil
        generalize hq : p + 1 + i = q at *
        have HQ := Lib.hid hq
        clear hq
        have hii : (q : Int) < s.length := by omega
        have hib : q < (bs s).size := by rw [bs_size]; exact hil
        obtain ⟨c, hc⟩ : ∃ c, s.getD q 0 = c := ⟨_, rfl⟩
        have hcb : (bs s)[q] = c := (bs_at s q hib).trans hc
        rw [hc] at hr
        have HR := Lib.hid hr
        clear hr
        clear hc
        have hc1 : (c.toNat : Int) ≤ 255 := by have := c.toNat_lt; omega
        go_upto_region 4 with fail
        go_region_held3 (fun v => v.cell? ⟨b2, 0, none⟩ = some (.string (bs s)) ∧ v.cell? ⟨b3, 0, none⟩ = some (.int .i64 n))
          (first | with_reducible exact hA.cells | with_reducible exact hA.drew.cells | go_keep)
          (first | (go_at_call_of 100 (Value.int IntKind.u8 (c.toNat : Int)); (refine (hK (c.toNat : Int) _ (by first | with_reducible exact hA.sts | with_reducible exact hA.drew.sts) (by omega) hc1).mono ?_); rintro e u ⟨rfl, hb⟩; (first | (replace hA := hA.go hb) | (replace hA := hA.drew.go hb)); clear hb))
        clear x1 x2 x3 x4
        have x4 := hA.fr.x4
        generalize kindZ n (c.toNat : Int) = z at *
        cases e : (z == 10) with
        | false =>
          have HI := HR.out.1 e
          clear HR
          go_wp2
          go_roundw
          case rel => exact ⟨i + 1, by have := HQ.out; simp; omega, by omega, hA⟩
          case measure => simp only [intOf]; omega
        | true =>
          have HI : Hid (i = m) := by
            show _ = _
            rcases Nat.lt_or_ge i m with h | h
            · rw [HR.out.2 h] at e; cases e
            · omega
          clear HR
          go_wp2
          try rw [Exit.noGoto_ret]
          go_ret
          exact ⟨by have := HQ.out; have := HI.out; rw [if_pos (by omega)]; simp; omega, hA.below⟩
      · have hii : ¬ ((p + 1 + i : Nat) : Int) < s.length := by omega
        go_wp2
        try rw [Exit.noGoto_ret]
        go_ret
        have HI : i = m := by omega
        subst HI
        exact ⟨by simp, hA.below⟩

set_option maxRecDepth 100000 in
set_option maxHeartbeats 2000000 in
theorem far_other (b1 b2 b3 b4 p : Nat) (s : List UInt8) (n k : Int) (w : World) (hS : Styles w) (hF : FarI w b1 b2 b3 b4 p s n k) (hp : p < s.length) (hl : s.length ≤ 1000) (hk : (k == 1) = false ∧ (k == 2) = false ∧ (k == 9) = false) :
    Calls Tryz.prog 101 #[.pointer (some ⟨b1, 0, none⟩), .pointer (some ⟨b2, 0, none⟩), .pointer (some ⟨b3, 0, none⟩), .pointer (some ⟨b4, 0, none⟩)] w fun e w' => e = .returned (.int .i64 ((p + 1 : Nat) : Int)) ∧ Below w.heap.size w w' := by
  have hzi : ((bs s).size : Int) = (s.length : Int) := by rw [bs_size]
  have hli : (s.length : Int) ≤ 1000 := by omega
  have hK := kind_any n
  have hA : FarW w w b1 b2 b3 b4 p s n k := ⟨Below.refl _ _, hS, hF⟩
  obtain ⟨x1, x2, x3, x4⟩ := hF
  clear hS
  obtain ⟨k1, k2, k9⟩ := hk
  all_goals
    go_enter Tryz.func101, Tryz.ntmps101
    go_wp2
    go_step3
    go_wp2
    go_step3
    go_wp2
    clear x1 x2 x3 x4
    go_loopw [5] (fun x wr => ∃ i : Nat, x = .int .i64 ((p + 1 + i : Nat) : Int) ∧ i ≤ 0 ∧ FarW w wr b1 b2 b3 b4 p s n _) (fun x _ => (s.length - intOf x).toNat)
    case atStart => exact ⟨0, by rw [Nat.add_zero]; rfl, by omega, hA⟩
    case round =>
      clear hA
      obtain ⟨i, rfl, hi, hA⟩ := hrel
      obtain ⟨x1, x2, x3, x4⟩ := hA.fr
      by_cases hil : p + 1 + i < s.length
      · generalize hq : p + 1 + i = q at *
        have HQ := Lib.hid hq
        clear hq
        have hii : (q : Int) < s.length := by omega
        have hib : q < (bs s).size := by rw [bs_size]; exact hil
        obtain ⟨c, hc⟩ : ∃ c, s.getD q 0 = c := ⟨_, rfl⟩
        have hcb : (bs s)[q] = c := (bs_at s q hib).trans hc
        clear hc
        have hc1 : (c.toNat : Int) ≤ 255 := by have := c.toNat_lt; omega
        go_upto_region 4 with fail
        go_region_held3 (fun v => v.cell? ⟨b2, 0, none⟩ = some (.string (bs s)) ∧ v.cell? ⟨b3, 0, none⟩ = some (.int .i64 n))
          (first | with_reducible exact hA.cells | with_reducible exact hA.drew.cells | go_keep)
          (first | (go_at_call_of 100 (Value.int IntKind.u8 (c.toNat : Int)); (refine (hK (c.toNat : Int) _ (by first | with_reducible exact hA.sts | with_reducible exact hA.drew.sts) (by omega) hc1).mono ?_); rintro e u ⟨rfl, hb⟩; (first | (replace hA := hA.go hb) | (replace hA := hA.drew.go hb)); clear hb))
        clear x1 x2 x3 x4
        have x4 := hA.fr.x4
        generalize kindZ n (c.toNat : Int) = z at *
        go_wp2
        try rw [Exit.noGoto_ret]
        go_ret
        exact ⟨by have := HQ.out; simp; omega, hA.below⟩
      · have hii : ¬ ((p + 1 + i : Nat) : Int) < s.length := by omega
        go_wp2
        try rw [Exit.noGoto_ret]
        go_ret
        exact ⟨by simp; omega, hA.below⟩

end Go.Proofs.YthofogokpolhdaaGreatDoor.Toks

/-
  Contracts of lex.tokenAt's closure, lex.between, lex.made, lex.tokenAt. Contracts of lex.between, lex.made, lex.tokenAt.
-/
import Derived.Test.YthofogokpolhdaaGreatDoorXG
import Derived.Test.YthofogokpolhdaaGreatDoorY1X
import Derived.Deep.RegionHeld3
import Derived.Deep.Cut
import Derived.Test.YthofogokpolhdaaGreatDoorShelf
import Derived.Lib.AtoiErrMem
namespace Go.Proofs.YthofogokpolhdaaGreatDoor.Toks
open Go.RowKit
open Go.Proofs.YthofogokpolhdaaGreatDoor.Style
set_option linter.unusedVariables false
set_option linter.unusedSimpArgs false

/-- How far a token may go, from a place on. -/
def farN (n k : Int) (r : List UInt8) : Nat :=
  if k = 1 ∨ k = 2 then goL n k r + 1 else if k = 9 then (if offL n r < r.length then offL n r + 2 else offL n r + 1) else 1

/-- What the closure has captured. -/
structure FarI (W : World) (b1 b2 b3 b4 : Nat) (p : Nat) (s : List UInt8) (n k : Int) : Prop where
  x1 : W.cell? ⟨b1, 0, none⟩ = some (.int .i64 (p : Int))
  x2 : W.cell? ⟨b2, 0, none⟩ = some (.string (bs s))
  x3 : W.cell? ⟨b3, 0, none⟩ = some (.int .i64 n)
  x4 : W.cell? ⟨b4, 0, none⟩ = some (.int .i64 k)
theorem FarI.go {W W' : World} {b1 b2 b3 b4 : Nat} {p : Nat} {s : List UInt8} {n k : Int} (h : FarI W b1 b2 b3 b4 p s n k) (hb : Below W.heap.size W W') : FarI W' b1 b2 b3 b4 p s n k :=
  ⟨(hb.cell (p := ⟨b1, 0, none⟩) (cell_lt h.x1)).trans h.x1, (hb.cell (p := ⟨b2, 0, none⟩) (cell_lt h.x2)).trans h.x2, (hb.cell (p := ⟨b3, 0, none⟩) (cell_lt h.x3)).trans h.x3, (hb.cell (p := ⟨b4, 0, none⟩) (cell_lt h.x4)).trans h.x4⟩

/-- How the world stands in the closure. -/
structure FarW (w W : World) (b1 b2 b3 b4 : Nat) (p : Nat) (s : List UInt8) (n k : Int) : Prop where
  below : Below w.heap.size w W
  sts : Styles W
  fr : FarI W b1 b2 b3 b4 p s n k
theorem FarW.go {w W W' : World} {b1 b2 b3 b4 : Nat} {p : Nat} {s : List UInt8} {n k : Int} (h : FarW w W b1 b2 b3 b4 p s n k) (hb : Below W.heap.size W W') : FarW w W' b1 b2 b3 b4 p s n k :=
  ⟨h.below.trans (hb.mono h.below.size), h.sts.go hb, h.fr.go hb⟩
theorem FarW.drew {w W : World} {b1 b2 b3 b4 : Nat} {p : Nat} {s : List UInt8} {n k : Int} (h : FarW w W b1 b2 b3 b4 p s n k) : FarW w W.drew b1 b2 b3 b4 p s n k := h.go (Below.refl _ _).drew
theorem FarW.cells {w W : World} {b1 b2 b3 b4 : Nat} {p : Nat} {s : List UInt8} {n k : Int} (h : FarW w W b1 b2 b3 b4 p s n k) :
    W.cell? ⟨b2, 0, none⟩ = some (.string (bs s)) ∧ W.cell? ⟨b3, 0, none⟩ = some (.int .i64 n) := ⟨h.fr.x2, h.fr.x3⟩

set_option maxRecDepth 100000 in
set_option maxHeartbeats 2000000 in
theorem far_run (b1 b2 b3 b4 p : Nat) (s : List UInt8) (n k : Int) (w : World) (hS : Styles w) (hF : FarI w b1 b2 b3 b4 p s n k) (hp : p < s.length) (hl : s.length ≤ 1000) (hk : k = 1 ∨ k = 2) :
    Calls Tryz.prog 101 #[.pointer (some ⟨b1, 0, none⟩), .pointer (some ⟨b2, 0, none⟩), .pointer (some ⟨b3, 0, none⟩), .pointer (some ⟨b4, 0, none⟩)] w fun e w' => e = .returned (.int .i64 ((p + 1 + goL n k (s.drop (p + 1)) : Nat) : Int)) ∧ Below w.heap.size w w' := by
  have hzi : ((bs s).size : Int) = (s.length : Int) := by rw [bs_size]
  have hli : (s.length : Int) ≤ 1000 := by omega
  have hK := kind_any n
  have hrl : p + 1 + goL n k (s.drop (p + 1)) ≤ s.length := by
    have := run_le (isK n k) (s.drop (p + 1))
    rw [List.length_drop] at this
    show p + 1 + runL _ _ ≤ _
    omega
  have hR : Hid (∀ i, i ≤ goL n k (s.drop (p + 1)) → p + 1 + i < s.length → ((kindZ n ((s.getD (p + 1 + i) 0).toNat : Int) == k) = true ↔ i < goL n k (s.drop (p + 1)))) := by
    intro i hi hi2
    have := run_succ (isK n k) (s.drop (p + 1)) i hi (by rw [List.length_drop]; omega)
    rw [show (s.drop (p + 1)).getD i 0 = s.getD (p + 1 + i) 0 by rw [List.getD_eq_getElem?_getD, List.getElem?_drop, List.getD_eq_getElem?_getD]] at this
    exact this
  generalize goL n k (s.drop (p + 1)) = m at *
  have hA : FarW w w b1 b2 b3 b4 p s n k := ⟨Below.refl _ _, hS, hF⟩
  obtain ⟨x1, x2, x3, x4⟩ := hF
  clear hS
  rcases hk with rfl | rfl
  all_goals
    go_enter Tryz.func101, Tryz.ntmps101
    go_wp2
    go_step3
    go_wp2
    go_step3
    go_wp2
    clear x1 x2 x3 x4
    go_loopw [5] (fun x wr => ∃ i : Nat, x = .int .i64 ((p + 1 + i : Nat) : Int) ∧ i ≤ m ∧ FarW w wr b1 b2 b3 b4 p s n _) (fun x _ => (s.length - intOf x).toNat)
    case atStart => exact ⟨0, by rw [Nat.add_zero]; rfl, by omega, hA⟩
    case round =>
      clear hA
      obtain ⟨i, rfl, hi, hA⟩ := hrel
      obtain ⟨x1, x2, x3, x4⟩ := hA.fr
      by_cases hil : p + 1 + i < s.length
      · have hr := hR.out i hi hil
        generalize hq : p + 1 + i = q at *
        have HQ := Lib.hid hq
        clear hq
        have hii : (q : Int) < s.length := by omega
        have hib : q < (bs s).size := by rw [bs_size]; exact hil
        obtain ⟨c, hc⟩ : ∃ c, s.getD q 0 = c := ⟨_, rfl⟩
        have hcb : (bs s)[q] = c := (bs_at s q hib).trans hc
        rw [hc] at hr
        have HR := Lib.hid hr
        clear hr
        clear hc
        have hc1 : (c.toNat : Int) ≤ 255 := by have := c.toNat_lt; omega
        go_upto_region 4 with fail
        go_region_held3 (fun v => v.cell? ⟨b2, 0, none⟩ = some (.string (bs s)) ∧ v.cell? ⟨b3, 0, none⟩ = some (.int .i64 n))
          (first | with_reducible exact hA.cells | with_reducible exact hA.drew.cells | go_keep)
          (first | (go_at_call_of 100 (Value.int IntKind.u8 (c.toNat : Int)); (refine (hK (c.toNat : Int) _ (by first | with_reducible exact hA.sts | with_reducible exact hA.drew.sts) (by omega) hc1).mono ?_); rintro e u ⟨rfl, hb⟩; (first | (replace hA := hA.go hb) | (replace hA := hA.drew.go hb)); clear hb))
        clear x1 x2 x3 x4
        have x4 := hA.fr.x4
        generalize kindZ n (c.toNat : Int) = z at *
        cases e : (z == _) with
        | true =>
          have HI := HR.out.1 e
          clear HR
          go_wp2
          go_roundw
          case rel => exact ⟨i + 1, by have := HQ.out; simp; omega, by omega, hA⟩
          case measure => simp only [intOf]; omega
        | false =>
          have HI : Hid (i = m) := by
            show _ = _
            rcases Nat.lt_or_ge i m with h | h
            · rw [HR.out.2 h] at e; cases e
            · omega
          clear HR
          go_wp2
          try rw [Exit.noGoto_ret]
          go_ret
          exact ⟨by have := HQ.out; have := HI.out; simp; omega, hA.below⟩
      · have hii : ¬ ((p + 1 + i : Nat) : Int) < s.length := by omega
        go_wp2
        try rw [Exit.noGoto_ret]
        go_ret
        exact ⟨by simp; omega, hA.below⟩

set_option maxRecDepth 100000 in
set_option maxHeartbeats 2000000 in
theorem far_note (b1 b2 b3 b4 p : Nat) (s : List UInt8) (n k : Int) (w : World) (hS : Styles w) (hF : FarI w b1 b2 b3 b4 p s n k) (hp : p < s.length) (hl : s.length ≤ 1000) (hk : k = 9) :
    Calls Tryz.prog 101 #[.pointer (some ⟨b1, 0, none⟩), .pointer (some ⟨b2, 0, none⟩), .pointer (some ⟨b3, 0, none⟩), .pointer (some ⟨b4, 0, none⟩)] w fun e w' => e = .returned (.int .i64 ((p + 1 + offL n (s.drop (p + 1)) + (if offL n (s.drop (p + 1)) < (s.drop (p + 1)).length then 1 else 0) : Nat) : Int)) ∧ Below w.heap.size w w' := by
  have hzi : ((bs s).size : Int) = (s.length : Int) := by rw [bs_size]
  have hli : (s.length : Int) ≤ 1000 := by omega
  have hK := kind_any n
  have hrl : p + 1 + offL n (s.drop (p + 1)) ≤ s.length := by
    have := run_le (noC n) (s.drop (p + 1))
    rw [List.length_drop] at this
    show p + 1 + runL _ _ ≤ _
    omega
  have hR : Hid (∀ i, i ≤ offL n (s.drop (p + 1)) → p + 1 + i < s.length → ((kindZ n ((s.getD (p + 1 + i) 0).toNat : Int) == 10) = false ↔ i < offL n (s.drop (p + 1)))) := by
    intro i hi hi2
    have := run_succ (noC n) (s.drop (p + 1)) i hi (by rw [List.length_drop]; omega)
    rw [show (s.drop (p + 1)).getD i 0 = s.getD (p + 1 + i) 0 by rw [List.getD_eq_getElem?_getD, List.getElem?_drop, List.getD_eq_getElem?_getD]] at this
    unfold noC kd at this
    rw [Bool.not_eq_true'] at this
    exact this
  rw [List.length_drop]
  generalize offL n (s.drop (p + 1)) = m at *
  have hA : FarW w w b1 b2 b3 b4 p s n k := ⟨Below.refl _ _, hS, hF⟩
  obtain ⟨x1, x2, x3, x4⟩ := hF
  clear hS
  subst hk
  all_goals
    go_enter Tryz.func101, Tryz.ntmps101
    go_wp2
    go_step3
    go_wp2
    go_step3
    go_wp2
    clear x1 x2 x3 x4
    go_loopw [5] (fun x wr => ∃ i : Nat, x = .int .i64 ((p + 1 + i : Nat) : Int) ∧ i ≤ m ∧ FarW w wr b1 b2 b3 b4 p s n _) (fun x _ => (s.length - intOf x).toNat)
    case atStart => exact ⟨0, by rw [Nat.add_zero]; rfl, by omega, hA⟩
    case round =>
      clear hA
      obtain ⟨i, rfl, hi, hA⟩ := hrel
      obtain ⟨x1, x2, x3, x4⟩ := hA.fr
      by_cases hil : p + 1 + i < s.length
      · have hr := hR.out i hi hil
        generalize hq : p + 1 + i = q at *
        have HQ := Lib.hid hq
        clear hq
        have hii : (q : Int) < s.length := by omega
        have hib : q < (bs s).size := by rw [bs_size]; exact hil
        obtain ⟨c, hc⟩ : ∃ c, s.getD q 0 = c := ⟨_, rfl⟩
        have hcb : (bs s)[q] = c := (bs_at s q hib).trans hc
        rw [hc] at hr
        have HR := Lib.hid hr
        clear hr
        clear hc
        have hc1 : (c.toNat : Int) ≤ 255 := by have := c.toNat_lt; omega
        go_upto_region 4 with fail
        go_region_held3 (fun v => v.cell? ⟨b2, 0, none⟩ = some (.string (bs s)) ∧ v.cell? ⟨b3, 0, none⟩ = some (.int .i64 n))
          (first | with_reducible exact hA.cells | with_reducible exact hA.drew.cells | go_keep)
          (first | (go_at_call_of 100 (Value.int IntKind.u8 (c.toNat : Int)); (refine (hK (c.toNat : Int) _ (by first | with_reducible exact hA.sts | with_reducible exact hA.drew.sts) (by omega) hc1).mono ?_); rintro e u ⟨rfl, hb⟩; (first | (replace hA := hA.go hb) | (replace hA := hA.drew.go hb)); clear hb))
        clear x1 x2 x3 x4
        have x4 := hA.fr.x4
        generalize kindZ n (c.toNat : Int) = z at *
        cases e : (z == 10) with
        | false =>
          have HI := HR.out.1 e
          clear HR
          go_wp2
          go_roundw
          case rel => exact ⟨i + 1, by have := HQ.out; simp; omega, by omega, hA⟩
          case measure => simp only [intOf]; omega
        | true =>
          have HI : Hid (i = m) := by
            show _ = _
            rcases Nat.lt_or_ge i m with h | h
            · rw [HR.out.2 h] at e; cases e
            · omega
          clear HR
          go_wp2
          try rw [Exit.noGoto_ret]
          go_ret
          exact ⟨by have := HQ.out; have := HI.out; rw [if_pos (by omega)]; simp; omega, hA.below⟩
      · have hii : ¬ ((p + 1 + i : Nat) : Int) < s.length := by omega
        go_wp2
        try rw [Exit.noGoto_ret]
        go_ret
        have HI : i = m := by omega
        subst HI
        exact ⟨by simp, hA.below⟩

set_option maxRecDepth 100000 in
set_option maxHeartbeats 2000000 in
theorem far_other (b1 b2 b3 b4 p : Nat) (s : List UInt8) (n k : Int) (w : World) (hS : Styles w) (hF : FarI w b1 b2 b3 b4 p s n k) (hp : p < s.length) (hl : s.length ≤ 1000) (hk : (k == 1) = false ∧ (k == 2) = false ∧ (k == 9) = false) :
    Calls Tryz.prog 101 #[.pointer (some ⟨b1, 0, none⟩), .pointer (some ⟨b2, 0, none⟩), .pointer (some ⟨b3, 0, none⟩), .pointer (some ⟨b4, 0, none⟩)] w fun e w' => e = .returned (.int .i64 ((p + 1 : Nat) : Int)) ∧ Below w.heap.size w w' := by
  have hzi : ((bs s).size : Int) = (s.length : Int) := by rw [bs_size]
  have hli : (s.length : Int) ≤ 1000 := by omega
  have hK := kind_any n
  have hA : FarW w w b1 b2 b3 b4 p s n k := ⟨Below.refl _ _, hS, hF⟩
  obtain ⟨x1, x2, x3, x4⟩ := hF
  clear hS
  obtain ⟨k1, k2, k9⟩ := hk
  all_goals
    go_enter Tryz.func101, Tryz.ntmps101
    go_wp2
    go_step3
    go_wp2
    go_step3
    go_wp2
    clear x1 x2 x3 x4
    go_loopw [5] (fun x wr => ∃ i : Nat, x = .int .i64 ((p + 1 + i : Nat) : Int) ∧ i ≤ 0 ∧ FarW w wr b1 b2 b3 b4 p s n _) (fun x _ => (s.length - intOf x).toNat)
    case atStart => exact ⟨0, by rw [Nat.add_zero]; rfl, by omega, hA⟩
    case round =>
      clear hA
      obtain ⟨i, rfl, hi, hA⟩ := hrel
      obtain ⟨x1, x2, x3, x4⟩ := hA.fr
      by_cases hil : p + 1 + i < s.length
      · generalize hq : p + 1 + i = q at *
        have HQ := Lib.hid hq
        clear hq
        have hii : (q : Int) < s.length := by omega
        have hib : q < (bs s).size := by rw [bs_size]; exact hil
        obtain ⟨c, hc⟩ : ∃ c, s.getD q 0 = c := ⟨_, rfl⟩
        have hcb : (bs s)[q] = c := (bs_at s q hib).trans hc
        clear hc
        have hc1 : (c.toNat : Int) ≤ 255 := by have := c.toNat_lt; omega
        go_upto_region 4 with fail
        go_region_held3 (fun v => v.cell? ⟨b2, 0, none⟩ = some (.string (bs s)) ∧ v.cell? ⟨b3, 0, none⟩ = some (.int .i64 n))
          (first | with_reducible exact hA.cells | with_reducible exact hA.drew.cells | go_keep)
          (first | (go_at_call_of 100 (Value.int IntKind.u8 (c.toNat : Int)); (refine (hK (c.toNat : Int) _ (by first | with_reducible exact hA.sts | with_reducible exact hA.drew.sts) (by omega) hc1).mono ?_); rintro e u ⟨rfl, hb⟩; (first | (replace hA := hA.go hb) | (replace hA := hA.drew.go hb)); clear hb))
        clear x1 x2 x3 x4
        have x4 := hA.fr.x4
        generalize kindZ n (c.toNat : Int) = z at *
        go_wp2
        try rw [Exit.noGoto_ret]
        go_ret
        exact ⟨by have := HQ.out; simp; omega, hA.below⟩
      · have hii : ¬ ((p + 1 + i : Nat) : Int) < s.length := by omega
        go_wp2
        try rw [Exit.noGoto_ret]
        go_ret
        exact ⟨by simp; omega, hA.below⟩

end Go.Proofs.YthofogokpolhdaaGreatDoor.Toks

namespace Go.Proofs.YthofogokpolhdaaGreatDoor.Toks
open Go.RowKit
open Go.Proofs.YthofogokpolhdaaGreatDoor.Style
open Go.Proofs.YthofogokpolhdaaGreatDoor.Texts (val isDig val_nil val_cons val_le)
set_option linter.unusedVariables false
set_option linter.unusedSimpArgs false

/-! ### Numbers -/

theorem parseM_over (M : Nat) (hM : M ≤ 18446744073709551615) : ∀ (l : List UInt8) (acc : Nat), acc ≤ M → (∀ c ∈ l, isDig c) → M < val acc l → Lib.parseUintM M acc l = .range
  | [], acc, ha, _, h => by rw [val_nil] at h; omega
  | c :: r, acc, ha, hd, h => by
    have hc : isDig c := hd c (by simp)
    rw [val_cons] at h
    simp only [Lib.parseUintM]
    rw [if_pos (by exact hc)]
    split
    · rfl
    · split
      · rfl
      · exact parseM_over M hM r _ (by omega) (fun c h => hd c (by simp [h])) h
theorem parse_digits (l : List UInt8) (hl : l ≠ []) (hd : ∀ c ∈ l, isDig c) : Lib.parseIntB 64 l = if val 0 l ≤ 9223372036854775807 then .ok (val 0 l : Int) else .range := by
  cases l with
  | nil => exact absurd rfl hl
  | cons c r =>
    have hc : isDig c := hd c (by simp)
    unfold isDig at hc
    simp only [Lib.parseIntB]
    rw [if_neg (by omega)]
    unfold Lib.parseUintB
    rw [if_neg hl]
    by_cases h1 : val 0 (c :: r) ≤ 18446744073709551615
    · rw [Texts.parseM_dig _ (by decide) _ _ hd h1]
      simp only
      by_cases h2 : val 0 (c :: r) ≤ 9223372036854775807
      · rw [if_pos h2, if_neg (by omega), if_neg (by omega), if_neg (by omega)]
      · rw [if_neg h2, if_pos ⟨by omega, by omega⟩]
    · rw [parseM_over _ (by decide) _ _ (by omega) hd (by omega)]
      simp only
      rw [if_neg (by omega)]
theorem sat_digits (l : List UInt8) (hl : l ≠ []) (hd : ∀ c ∈ l, isDig c) : Lib.intSat 64 l = 9223372036854775807 := by
  cases l with
  | nil => exact absurd rfl hl
  | cons c r =>
    have hc : isDig c := hd c (by simp)
    unfold isDig at hc
    unfold Lib.intSat
    rw [if_neg (by simp; omega)]
    rfl

/-- The package's variables. -/
def ErrAt (w : World) (b : Nat) : Prop := b < w.heap.size ∧ ∃ ev, w.cell? ⟨b, 0, none⟩ = some ev ∧ (ev = .nilIface ∨ ∃ te pe, ev = .iface te pe)
theorem ErrAt.block {w w' : World} {b : Nat} (h : ErrAt w b) (hs : w.heap.size ≤ w'.heap.size) (hb : w'.heap[b]? = w.heap[b]?) : ErrAt w' b := by
  obtain ⟨hz, ev, hc, he⟩ := h
  exact ⟨by omega, ev, cell_same hc hb, he⟩
structure Env (w : World) : Prop where
  sts : Styles w
  err : ErrAt w 2
theorem Env.go {w w' : World} (h : Env w) (hb : Below w.heap.size w w') : Env w' := ⟨h.sts.go hb, h.err.block hb.size (hb.block _ h.err.1)⟩
theorem Env.kept {lo l : Nat} {w w' : World} (h : Env w) (hk : Kept lo l w w') : Env w' := by
  obtain ⟨⟨⟨a, b, c, d, e⟩, hs⟩, he⟩ := h
  have h1 := he.1
  have k0 : w'.heap[0]? = w.heap[0]? := hk.glob _ (by omega) (by omega)
  have k2 : w'.heap[2]? = w.heap[2]? := hk.glob _ (by omega) (by omega)
  exact ⟨⟨⟨a.block k0, b.block k0, c.block k0, d.block k0, e.block k0⟩, Nat.lt_of_lt_of_le hs hk.size⟩, he.block hk.size k2⟩
theorem Env.same {w w' : World} (h : Env w) (hs : w.heap.size ≤ w'.heap.size) (hk : ∀ k, k < 3 → w'.heap[k]? = w.heap[k]?) : Env w' := by
  obtain ⟨⟨⟨a, b, c, d, e⟩, hz⟩, he⟩ := h
  have k0 : w'.heap[0]? = w.heap[0]? := hk _ (by omega)
  have k2 : w'.heap[2]? = w.heap[2]? := hk _ (by omega)
  exact ⟨⟨⟨a.block k0, b.block k0, c.block k0, d.block k0, e.block k0⟩, Nat.lt_of_lt_of_le hz hs⟩, he.block hs k2⟩

theorem pint_any (l : List UInt8) (w : World) (hE : Env w) (hl : l ≠ []) (hd : ∀ c ∈ l, isDig c) (hs : l.length ≤ 1000) :
    Calls Tryz.prog 113 #[.string (bs l), .int .i64 10, .int .i64 64] w fun e w' => ∃ ev, e = .returned (.tuple #[.int .i64 (if val 0 l ≤ 9223372036854775807 then (val 0 l : Int) else 9223372036854775807), ev]) ∧ (if val 0 l ≤ 9223372036854775807 then ev = .nilIface else ∃ t a, ev = .iface t a) ∧ Below w.heap.size w w' := by
  have hz : (bs l).size ≤ 1000 := by rw [bs_size]; exact hs
  have hd' : (bs l).data.toList = l := rfl
  have hp := parse_digits l hl hd
  by_cases h : val 0 l ≤ 9223372036854775807
  · simp only [if_pos h] at hp ⊢
    refine (Tryz.strconv_ParseInt_10_at64_ok (bs l) (by omega) _ (by rw [hd']; exact hp) w).mono ?_
    rintro e w' ⟨rfl, rfl | ⟨t, rfl⟩⟩
    · exact ⟨_, rfl, rfl, Below.refl _ _⟩
    · exact ⟨_, rfl, rfl, Lib.bytesWorld_below _ _ _⟩
  · simp only [if_neg h] at hp ⊢
    obtain ⟨_, ev, hc, he⟩ := hE.err
    refine (Tryz.strconv_ParseInt_10_at64_range (bs l) (by omega) (by rw [hd']; exact hp) ev w hc he).mono ?_
    rintro e w' ⟨N, rfl, _, _, hb⟩
    rw [hd', sat_digits l hl hd]
    exact ⟨_, rfl, ⟨_, _, rfl⟩, hb⟩

/-! ### How far -/

theorem far_any (b1 b2 b3 b4 p : Nat) (s : List UInt8) (n k : Int) (w : World) (hS : Styles w) (hF : FarI w b1 b2 b3 b4 p s n k) (hp : p < s.length) (hl : s.length ≤ 1000) :
    Calls Tryz.prog 101 #[.pointer (some ⟨b1, 0, none⟩), .pointer (some ⟨b2, 0, none⟩), .pointer (some ⟨b3, 0, none⟩), .pointer (some ⟨b4, 0, none⟩)] w fun e w' => e = .returned (.int .i64 ((p + farN n k (s.drop (p + 1)) : Nat) : Int)) ∧ Below w.heap.size w w' := by
  unfold farN
  by_cases h1 : k = 1 ∨ k = 2
  · rw [if_pos h1]
    have := far_run b1 b2 b3 b4 p s n k w hS hF hp hl h1
    rwa [show p + 1 + goL n k (s.drop (p + 1)) = p + (goL n k (s.drop (p + 1)) + 1) by omega] at this
  · rw [if_neg h1]
    by_cases h9 : k = 9
    · rw [if_pos h9]
      have := far_note b1 b2 b3 b4 p s n k w hS hF hp hl h9
      split
      · rename_i h
        rw [if_pos h] at this
        rwa [show p + 1 + offL n (s.drop (p + 1)) + 1 = p + (offL n (s.drop (p + 1)) + 2) by omega] at this
      · rename_i h
        rw [if_neg h] at this
        rwa [show p + 1 + offL n (s.drop (p + 1)) + 0 = p + (offL n (s.drop (p + 1)) + 1) by omega] at this
    · rw [if_neg h9]
      exact far_other b1 b2 b3 b4 p s n k w hS hF hp hl ⟨by simp; omega, by simp; omega, by simpa using h9⟩
theorem far_le (n k : Int) (r : List UInt8) : 1 ≤ farN n k r ∧ farN n k r ≤ r.length + 1 := by
  unfold farN goL offL
  have h1 := run_le (isK n k) r
  have h2 := run_le (noC n) r
  repeat' split
  all_goals omega

/-! ### What is made of it -/

/-- What stands in a note that begins so. -/
def betT (n : Int) (t : List UInt8) : List UInt8 × Bool := if kd n (t.getD (t.length - 1) 0) = 10 then ((t.take (t.length - 1)).drop 1, plainL (stZ n) ((t.take (t.length - 1)).drop 1)) else ([], false)

set_option maxRecDepth 100000 in
set_option maxHeartbeats 2000000 in
theorem between_any (n : Int) (t : List UInt8) (w : World) (hS : Styles w) (h1 : 1 ≤ t.length) (hl : t.length ≤ 1000) (h2 : t.length = 1 → kd n (t.getD 0 0) ≠ 10) :
    Calls Tryz.prog 114 #[.int .i64 n, .string (bs t)] w fun e w' => e = .returned (.tuple #[.string (bs (betT n t).1), .bool (betT n t).2]) ∧ Below w.heap.size w w' := by
  obtain ⟨q, hq⟩ : ∃ q, t.length = q + 1 := ⟨t.length - 1, by omega⟩
  have hzi : ((bs t).size : Int) = (q : Int) + 1 := by rw [bs_size]; omega
  have hli : (q : Int) ≤ 1000 := by omega
  have hib : q < (bs t).size := by rw [bs_size]; omega
  obtain ⟨c, hc⟩ : ∃ c, t.getD q 0 = c := ⟨_, rfl⟩
  have hcb : (bs t)[q] = c := (bs_at t q hib).trans hc
  have hc1 : (c.toNat : Int) ≤ 255 := by have := c.toNat_lt; omega
  have hK := kind_any n (c.toNat : Int) w hS (by omega) hc1
  have HB : Hid (betT n t = if kindZ n (c.toNat : Int) = 10 then ((t.take q).drop 1, plainL (stZ n) ((t.take q).drop 1)) else ([], false)) := by
    show _ = _
    unfold betT
    rw [show t.length - 1 = q by omega, hc]; rfl
  have hq0 : q = 0 → kindZ n (c.toNat : Int) ≠ 10 := fun h => by
    subst h; rw [hc] at h2; exact h2 (by omega)
  have hx := bs_extract t 1 q (by omega)
  have hP := fun W hW => plain_any n ((t.take q).drop 1) W hW (by rw [List.length_drop, List.length_take]; omega)
  generalize kindZ n (c.toNat : Int) = z at *
  clear h1 hl h2 hc hq
  by_cases e : z = 10
  · subst e
    have hq1 : 1 ≤ q := by
      rcases Nat.eq_zero_or_pos q with h | h
      · exact absurd rfl (hq0 h)
      · exact h
    have hq1i : (1 : Int) ≤ q := by omega
    have HB' : Hid (betT n t = ((t.take q).drop 1, plainL (stZ n) ((t.take q).drop 1))) := by
      show _ = _
      rw [HB.out, if_pos rfl]
    rw [HB'.out]
    clear hq0 HB HB'
    generalize (t.take q).drop 1 = x at *
    generalize plainL (stZ n) x = b at *
    go_enter Tryz.func114, Tryz.ntmps114
    go_wp2_with fail
    refine hK.mono ?_
    rintro e w1 ⟨rfl, hb1⟩
    have hS1 := hS.go hb1
    go_wp2_with fail
    refine (hP w1 hS1).mono ?_
    rintro e w2 ⟨rfl, hb2⟩
    go_wp2
    refine bodyPost_ret (v := .tuple #[.string (bs x), .bool b]) (by simp [results, Tryz.results114, go_sem]) rfl ⟨rfl, ?_⟩
    exact hb1.trans (hb2.mono hb1.size)
  · have eb : (z == 10) = false := by simpa using e
    rw [HB.out, if_neg e]
    clear hq0 HB e hP hx
    go_enter Tryz.func114, Tryz.ntmps114
    go_wp2_with fail
    refine hK.mono ?_
    rintro e w1 ⟨rfl, hb1⟩
    go_wp2
    refine bodyPost_ret (v := .tuple #[.string (bs []), .bool false]) (by simp [results, Tryz.results114, go_sem]; rfl) rfl ⟨rfl, ?_⟩
    exact hb1

/-- The token, without its place, of a text that begins with a byte of that kind. -/
def madeT (n k : Int) (t : List UInt8) : Tok × Bool :=
  if k = 0 ∨ k = 10 then (⟨0, 0, [], 0⟩, false) else if k = 1 then (⟨1, 0, upL (stZ n).fold t, 0⟩, true)
  else if k = 2 then (⟨2, 0, t, if val 0 t ≤ 9223372036854775807 then (val 0 t : Int) else 9223372036854775807⟩, decide (val 0 t ≤ 9223372036854775807))
  else if k = 9 then (⟨9, 0, (betT n t).1, 0⟩, (betT n t).2) else (⟨k, 0, t, 0⟩, true)

/-- The block b holds a token alone. -/
def TokBox (V : World) (b : Nat) (x : Tok) : Prop := Grid V b 4 1 (fun _ j => x.cell j)
theorem TokBox.new (V : World) (x : Tok) (t : TypeId) : TokBox (V.alloc (.cells x.cs t)) V.heap.size x := by
  refine Grid.new V _ 4 1 _ _ fun i hi j hj => ?_
  have : i = 0 := by omega
  subst this
  rw [Nat.zero_mul, Nat.zero_add]
  unfold Tok.cell
  rw [Array.getElem?_eq_getElem (by exact hj)]
  rfl
theorem TokBox.cells {V : World} {b : Nat} {x : Tok} (h : TokBox V b x) :
    V.cell? ⟨b, 0, none⟩ = some (.int .i64 x.kind) ∧ V.cell? ⟨b, 1, none⟩ = some (.int .i64 (x.pos : Int)) ∧ V.cell? ⟨b, 2, none⟩ = some (.string (bs x.text)) ∧ V.cell? ⟨b, 3, none⟩ = some (.int .i64 x.num) := by
  have h' : ∀ j, j < 4 → V.cell? ⟨b, 0 * 4 + j, none⟩ = some (x.cell j) := fun j hj => (show Grid V b 4 1 (fun _ j => x.cell j) from h).1 0 (by omega) j hj
  simp only [Nat.zero_mul, Nat.zero_add] at h'
  exact ⟨h' 0 (by omega), h' 1 (by omega), h' 2 (by omega), h' 3 (by omega)⟩
theorem TokBox.fz {V : World} {b : Nat} {x : Tok} (h : TokBox V b x) : V.frozen? ⟨b, 0, none⟩ = false ∧ V.frozen? ⟨b, 1, none⟩ = false ∧ V.frozen? ⟨b, 2, none⟩ = false ∧ V.frozen? ⟨b, 3, none⟩ = false := ⟨h.2.1 0, h.2.1 1, h.2.1 2, h.2.1 3⟩
theorem TokBox.go {w w' : World} {b : Nat} {x : Tok} (h : TokBox w b x) (hb : Below w.heap.size w w') : TokBox w' b x := Grid.go h hb
theorem TokBox.put {W : World} {b : Nat} {x : Tok} (h : TokBox W b x) (y : Tok) : TokBox ((((W.setCell ⟨b, 0, none⟩ (.int .i64 y.kind)).setCell ⟨b, 1, none⟩ (.int .i64 (y.pos : Int))).setCell ⟨b, 2, none⟩ (.string (bs y.text))).setCell ⟨b, 3, none⟩ (.int .i64 y.num)) b y := by
  have g := (((Grid.set h 0 0 (by omega) (by omega) (.int .i64 y.kind)).set 0 1 (by omega) (by omega) (.int .i64 (y.pos : Int))).set 0 2 (by omega) (by omega) (.string (bs y.text))).set 0 3 (by omega) (by omega) (.int .i64 y.num)
  refine Grid.ext g fun i hi j hj => ?_
  have : i = 0 := by omega
  subst this
  match j, hj with
  | 0, _ => rfl
  | 1, _ => rfl
  | 2, _ => rfl
  | 3, _ => rfl
theorem below_put {W : World} {b B : Nat} {w : World} (h : Below B w W) (hb : B ≤ b) (y : Tok) : Below B w ((((W.setCell ⟨b, 0, none⟩ (.int .i64 y.kind)).setCell ⟨b, 1, none⟩ (.int .i64 (y.pos : Int))).setCell ⟨b, 2, none⟩ (.string (bs y.text))).setCell ⟨b, 3, none⟩ (.int .i64 y.num)) :=
  (((h.setCell (p := ⟨b, 0, none⟩) hb _).setCell (p := ⟨b, 1, none⟩) hb _).setCell (p := ⟨b, 2, none⟩) hb _).setCell (p := ⟨b, 3, none⟩) hb _

theorem fill {W w : World} {b : Nat} {x : Tok} (h : TokBox W b x) (hb : Below w.heap.size w W) (hw : w.heap.size ≤ b) (k : Int) (u : List UInt8) (v : Int) :
    (((((W.setCell ⟨b, 0, none⟩ (.int .i64 k)).setCell ⟨b, 1, none⟩ (.int .i64 0)).setCell ⟨b, 2, none⟩ (.string (bs u))).setCell ⟨b, 3, none⟩ (.int .i64 v)).cell? ⟨b, 0, none⟩ = some (.int .i64 k) ∧ ((((W.setCell ⟨b, 0, none⟩ (.int .i64 k)).setCell ⟨b, 1, none⟩ (.int .i64 0)).setCell ⟨b, 2, none⟩ (.string (bs u))).setCell ⟨b, 3, none⟩ (.int .i64 v)).cell? ⟨b, 1, none⟩ = some (.int .i64 0) ∧ ((((W.setCell ⟨b, 0, none⟩ (.int .i64 k)).setCell ⟨b, 1, none⟩ (.int .i64 0)).setCell ⟨b, 2, none⟩ (.string (bs u))).setCell ⟨b, 3, none⟩ (.int .i64 v)).cell? ⟨b, 2, none⟩ = some (.string (bs u)) ∧ ((((W.setCell ⟨b, 0, none⟩ (.int .i64 k)).setCell ⟨b, 1, none⟩ (.int .i64 0)).setCell ⟨b, 2, none⟩ (.string (bs u))).setCell ⟨b, 3, none⟩ (.int .i64 v)).cell? ⟨b, 3, none⟩ = some (.int .i64 v)) ∧ Below w.heap.size w ((((W.setCell ⟨b, 0, none⟩ (.int .i64 k)).setCell ⟨b, 1, none⟩ (.int .i64 0)).setCell ⟨b, 2, none⟩ (.string (bs u))).setCell ⟨b, 3, none⟩ (.int .i64 v)) :=
  ⟨(h.put ⟨k, 0, u, v⟩).cells, below_put hb hw ⟨k, 0, u, v⟩⟩

set_option maxRecDepth 100000 in
set_option maxHeartbeats 2000000 in
theorem made_any (n k : Int) (t : List UInt8) (w : World) (hE : Env w) (h1 : t ≠ []) (hl : t.length ≤ 1000) (h2 : k = 2 → ∀ c ∈ t, isDig c) (h9 : k = 9 → t.length = 1 → kd n (t.getD 0 0) ≠ 10) :
    Calls Tryz.prog 102 #[.int .i64 n, .int .i64 k, .string (bs t)] w fun e w' => e = .returned (.tuple #[(madeT n k t).1.v, .bool (madeT n k t).2]) ∧ Below w.heap.size w w' := by
  unfold madeT Tok.v
  have hu : Below w.heap.size w (w.alloc (.cells #[.int .i64 0, .int .i64 0, .string ⟨#[]⟩, .int .i64 0] 71)) := by go_grown
  have hE0 := hE.go hu
  have hbx0 : TokBox (w.alloc (.cells #[.int .i64 0, .int .i64 0, .string ⟨#[]⟩, .int .i64 0] 71)) w.heap.size ⟨0, 0, [], 0⟩ := TokBox.new w ⟨0, 0, [], 0⟩ 71
  by_cases h0 : k = 0 ∨ k = 10
  · rw [if_pos h0]
    rcases h0 with rfl | rfl
    all_goals
      go_enter Tryz.func102, Tryz.ntmps102
      go_wp2
      refine bodyPost_ret (v := .tuple #[.agg #[.int .i64 0, .int .i64 0, .string (bs []), .int .i64 0], .bool false]) (by simp [results, Tryz.results102, go_sem]; rfl) rfl ⟨rfl, ?_⟩
      go_grown
  rw [if_neg h0]
  by_cases k1 : k = 1
  · subst k1
    rw [if_pos rfl]
    have hR := raise_any n t _ hE0.sts (by omega)
    generalize upL (stZ n).fold t = u at *
    clear h0 h2 h9
    go_enter Tryz.func102, Tryz.ntmps102
    go_wp2_with fail
    refine hR.mono ?_
    rintro e w1 ⟨rfl, hb1⟩
    replace hbx0 := hbx0.go hb1
    replace hb1 := hu.trans (hb1.mono hu.size)
    obtain ⟨y0, y1, y2, y3⟩ := hbx0.cells
    obtain ⟨f0, f1, f2, f3⟩ := hbx0.fz
    obtain ⟨⟨z0, z1, z2, z3⟩, hB⟩ := fill hbx0 hb1 (Nat.le_refl _) 1 u 0
    go_wp2
    refine bodyPost_ret (v := .tuple #[.agg #[.int .i64 1, .int .i64 0, .string (bs u), .int .i64 0], .bool true]) (by simp [results, Tryz.results102, go_sem, z0, z1, z2, z3]) rfl ⟨rfl, ?_⟩
    exact hB
  rw [if_neg k1]
  by_cases k2 : k = 2
  · subst k2
    rw [if_pos rfl]
    have hP := pint_any t _ hE0 h1 (h2 rfl) hl
    generalize val 0 t = v at *
    by_cases hv : v ≤ 9223372036854775807
    · simp only [if_pos hv] at hP ⊢
      rw [decide_eq_true hv]
      have hvi : (v : Int) ≤ 9223372036854775807 := by omega
      clear hv
      go_enter Tryz.func102, Tryz.ntmps102
      go_wp2_with fail
      refine hP.mono ?_
      rintro e w1 ⟨ev, rfl, rfl, hb1⟩
      replace hbx0 := hbx0.go hb1
      replace hb1 := hu.trans (hb1.mono hu.size)
      obtain ⟨y0, y1, y2, y3⟩ := hbx0.cells
      obtain ⟨f0, f1, f2, f3⟩ := hbx0.fz
      obtain ⟨⟨z0, z1, z2, z3⟩, hB⟩ := fill hbx0 hb1 (Nat.le_refl _) 2 t v
      go_wp2
      go_region_with (fail)
      go_wp2
      generalize ((((w1.setCell ⟨w.heap.size, 0, none⟩ (.int .i64 2)).setCell ⟨w.heap.size, 1, none⟩ (.int .i64 0)).setCell ⟨w.heap.size, 2, none⟩ (.string (bs t))).setCell ⟨w.heap.size, 3, none⟩ (.int .i64 (v : Int))) = W2 at *
      have u0 : W2.drew.cell? ⟨w.heap.size, 0, none⟩ = some (.int .i64 2) := z0
      have u1 : W2.drew.cell? ⟨w.heap.size, 1, none⟩ = some (.int .i64 0) := z1
      have u2 : W2.drew.cell? ⟨w.heap.size, 2, none⟩ = some (.string (bs t)) := z2
      have u3 : W2.drew.cell? ⟨w.heap.size, 3, none⟩ = some (.int .i64 (v : Int)) := z3
      refine bodyPost_ret (v := .tuple #[.agg #[.int .i64 2, .int .i64 0, .string (bs t), .int .i64 (v : Int)], .bool true]) (by simp [results, Tryz.results102, go_sem, u0, u1, u2, u3]) rfl ⟨rfl, ?_⟩
      exact hB.drew
    · simp only [if_neg hv] at hP ⊢
      rw [decide_eq_false hv]
      clear hv
      go_enter Tryz.func102, Tryz.ntmps102
      go_wp2_with fail
      refine hP.mono ?_
      rintro e w1 ⟨ev, rfl, ⟨t', a', rfl⟩, hb1⟩
      replace hbx0 := hbx0.go hb1
      replace hb1 := hu.trans (hb1.mono hu.size)
      obtain ⟨y0, y1, y2, y3⟩ := hbx0.cells
      obtain ⟨f0, f1, f2, f3⟩ := hbx0.fz
      obtain ⟨⟨z0, z1, z2, z3⟩, hB⟩ := fill hbx0 hb1 (Nat.le_refl _) 2 t 9223372036854775807
      go_wp2
      go_region_with (fail)
      go_wp2
      generalize ((((w1.setCell ⟨w.heap.size, 0, none⟩ (.int .i64 2)).setCell ⟨w.heap.size, 1, none⟩ (.int .i64 0)).setCell ⟨w.heap.size, 2, none⟩ (.string (bs t))).setCell ⟨w.heap.size, 3, none⟩ (.int .i64 9223372036854775807)) = W2 at *
      have u0 : W2.drew.cell? ⟨w.heap.size, 0, none⟩ = some (.int .i64 2) := z0
      have u1 : W2.drew.cell? ⟨w.heap.size, 1, none⟩ = some (.int .i64 0) := z1
      have u2 : W2.drew.cell? ⟨w.heap.size, 2, none⟩ = some (.string (bs t)) := z2
      have u3 : W2.drew.cell? ⟨w.heap.size, 3, none⟩ = some (.int .i64 9223372036854775807) := z3
      refine bodyPost_ret (v := .tuple #[.agg #[.int .i64 2, .int .i64 0, .string (bs t), .int .i64 9223372036854775807], .bool false]) (by simp [results, Tryz.results102, go_sem, u0, u1, u2, u3]) rfl ⟨rfl, ?_⟩
      exact hB.drew
  rw [if_neg k2]
  by_cases k9 : k = 9
  · subst k9
    rw [if_pos rfl]
    have hB := between_any n t _ hE0.sts (by cases t with | nil => exact absurd rfl h1 | cons c r => simp) hl (h9 rfl)
    generalize betT n t = u at *
    obtain ⟨u, b⟩ := u
    clear h0 h2 h9
    go_enter Tryz.func102, Tryz.ntmps102
    go_wp2_with fail
    refine hB.mono ?_
    rintro e w1 ⟨rfl, hb1⟩
    replace hbx0 := hbx0.go hb1
    replace hb1 := hu.trans (hb1.mono hu.size)
    obtain ⟨y0, y1, y2, y3⟩ := hbx0.cells
    obtain ⟨f0, f1, f2, f3⟩ := hbx0.fz
    obtain ⟨⟨z0, z1, z2, z3⟩, hB⟩ := fill hbx0 hb1 (Nat.le_refl _) 9 u 0
    go_wp2
    refine bodyPost_ret (v := .tuple #[.agg #[.int .i64 9, .int .i64 0, .string (bs u), .int .i64 0], .bool b]) (by simp [results, Tryz.results102, go_sem, z0, z1, z2, z3]) rfl ⟨rfl, ?_⟩
    exact hB
  rw [if_neg k9]
  have e0 : (k == 0) = false := by simp; omega
  have e10 : (k == 10) = false := by simp; omega
  have e1 : (k == 1) = false := by simpa using k1
  have e2 : (k == 2) = false := by simpa using k2
  have e9 : (k == 9) = false := by simpa using k9
  clear h0 k1 k2 k9 h2 h9 h1
  go_enter Tryz.func102, Tryz.ntmps102
  go_wp2
  refine bodyPost_ret (v := .tuple #[.agg #[.int .i64 k, .int .i64 0, .string (bs t), .int .i64 0], .bool true]) (by simp [results, Tryz.results102, go_sem]) rfl ⟨rfl, ?_⟩
  go_grown

end Go.Proofs.YthofogokpolhdaaGreatDoor.Toks


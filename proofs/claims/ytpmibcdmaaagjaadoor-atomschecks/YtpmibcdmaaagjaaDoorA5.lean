/-
  Contracts of atoms.rightTerm, rightWorth.
-/
import Derived.Test.YtpmibcdmaaagjaaDoorA4
namespace Go.Proofs.YtpmibcdmaaagjaaDoor.Atoms
open Go.RowKit
set_option linter.unusedVariables false
set_option linter.unusedSimpArgs false

def Row.c5 (r : Row) : C5 := ⟨r.c0, r.c1, r.c2, r.c3, r.c4⟩
def Pre.c5 (r : Pre) : C5 := ⟨r.c0, r.c1, r.c2, r.c3, r.c4⟩
/-- Numbers and texts that there are. -/
structure Row.Fine (r : Row) : Prop where
  codes : r.c5.Fine
  num : r.num ≤ 9223372036854775807
  den : r.den ≤ 9223372036854775807
  ts : r.ts.length ≤ 9223372036854775807

set_option maxRecDepth 100000 in
set_option maxHeartbeats 2000000 in
theorem rightTerm_any (t : Int × Int) (rows : List Row) (S : Nat → Value) (b i c : Nat) (w : World) (hi : i ≤ rows.length) (hA : Grid w b 12 rows.length (cellA rows S)) (hl : rows.length ≤ 9223372036854775807) :
    Calls Tryd.prog 32 #[.agg #[.int .i64 t.1, .int .i64 t.2], .slice (some ⟨b, 0, none⟩) i c] w fun e w' => e = .returned (.bool (termB rows i t)) ∧ Below w.heap.size w w' := by
  obtain ⟨p, x⟩ := t
  have hB : Below w.heap.size w (w.alloc (.cells #[.int .i64 p, .int .i64 x] 47)) := by go_grown
  have hA2 := hA.go hB
  show Calls Tryd.prog 32 #[.agg #[.int .i64 p, .int .i64 x], .slice (some ⟨b, 0, none⟩) i c] w _
  by_cases h1 : p < 0
  · have e : termB rows i (p, x) = false := by unfold termB; rw [if_pos (.inl h1)]
    rw [e]; clear e
    go_enter Tryd.func32, Tryd.ntmps32
    go_wp2
    go_ret
    exact ⟨rfl, hB⟩
  by_cases h2 : (i : Int) ≤ p
  · have e : termB rows i (p, x) = false := by unfold termB; rw [if_pos (.inr (.inl h2))]
    rw [e]; clear e
    go_enter Tryd.func32, Tryd.ntmps32
    go_wp2
    go_ret
    exact ⟨rfl, hB⟩
  obtain ⟨q, rfl⟩ : ∃ q : Nat, p = (q : Int) := ⟨p.toNat, by omega⟩
  have hq : q < i := by omega
  have hcell := hA2.1 q (by omega) 6 (by omega)
  obtain ⟨g, hg⟩ : ∃ g, (rows.getD q default).tag = g := ⟨_, rfl⟩
  have hc : cellA rows S q 6 = .int .i64 g := by rw [← hg]; rfl
  rw [hc] at hcell
  have hqi : (q : Int) < i := by omega
  by_cases h3 : g = 0
  · have e : termB rows i ((q : Int), x) = decide (x ≠ 0 ∧ -9 ≤ x ∧ x ≤ 9) := by
      unfold termB
      rw [if_neg]
      simp only [Int.toNat_natCast, hg]
      omega
    rw [e]
    have eg : (g != 0) = false := by simp [h3]
    clear h3 hg hc e
    by_cases hx : x = 0
    · have e : decide (x ≠ 0 ∧ -9 ≤ x ∧ x ≤ 9) = false := by simp [hx]
      rw [e]
      have ex : (x != 0) = false := by simp [hx]
      clear e hx
      go_enter Tryd.func32, Tryd.ntmps32
      go_wp2
      go_ret
      exact ⟨rfl, hB⟩
    · have e : decide (x ≠ 0 ∧ -9 ≤ x ∧ x ≤ 9) = decide (-9 ≤ x ∧ x ≤ 9) := by simp [hx]
      rw [e]
      have ex : (x != 0) = true := by simpa using hx
      have hw := fun V => within_any x 9 V (by omega) (by omega)
      generalize decide (-9 ≤ x ∧ x ≤ 9) = r at hw ⊢
      clear e hx
      go_enter Tryd.func32, Tryd.ntmps32
      go_wp2_with (go_at_call 33; refine (hw _).mono ?_; rintro e w' ⟨rfl, rfl⟩)
      go_ret
      exact ⟨rfl, hB⟩
  · have e : termB rows i ((q : Int), x) = false := by
      unfold termB
      rw [if_pos]
      simp only [Int.toNat_natCast, hg]
      exact .inr (.inr h3)
    rw [e]
    have eg : (g != 0) = true := by simpa using h3
    clear h3 hg hc e
    go_enter Tryd.func32, Tryd.ntmps32
    go_wp2
    go_ret
    exact ⟨rfl, hB⟩

theorem worth_base {r : Row} (h : 0 ≤ r.tag ∧ r.tag ≤ 99) (hb : 0 ≤ r.base ∧ r.base < 7) : worthB r = decide (r.num = 1 ∧ r.den = 1 ∧ r.ten = 0 ∧ r.tag = 0 ∧ r.ts.length = 0) := by
  unfold worthB
  rw [if_neg (by omega), if_pos hb]

set_option maxRecDepth 100000 in
set_option maxHeartbeats 4000000 in
theorem rightWorth_any (r : Row) (o : Option Addr) (c : Nat) (w : World) (hT : Frac.OfTen w) (hf : r.Fine) :
    Calls Tryd.prog 31 #[.agg (r.cs (.slice o r.ts.length c))] w fun e w' => e = .returned (.bool (worthB r)) ∧ Below w.heap.size w w' := by
  have hB : Below w.heap.size w (w.alloc (.cells #[.string (bs r.c0), .string (bs r.c1), .string (bs r.c2), .string (bs r.c3), .string (bs r.c4), .bool r.m, .int .i64 r.tag, .int .i64 r.base, .int .i64 r.num, .int .i64 r.den, .int .i64 r.ten, .slice o r.ts.length c] 40)) := by go_grown
  have h1 := hf.num
  have h2 := hf.den
  have h3 := hf.ts
  clear hf
  simp only [Row.cs]
  by_cases hg : r.tag < 0
  · have e : worthB r = false := by unfold worthB; rw [if_pos (.inl hg)]
    rw [e]; clear e
    go_enter Tryd.func31, Tryd.ntmps31
    go_wp2
    go_ret
    exact ⟨rfl, hB⟩
  by_cases hg2 : 99 < r.tag
  · have e : worthB r = false := by unfold worthB; rw [if_pos (.inr hg2)]
    rw [e]; clear e
    go_enter Tryd.func31, Tryd.ntmps31
    go_wp2
    go_ret
    exact ⟨rfl, hB⟩
  by_cases hb : 0 ≤ r.base ∧ r.base < 7
  · rw [worth_base (by omega) hb]
    obtain ⟨hb0, hb1⟩ := hb
    by_cases n1 : r.num = 1
    · by_cases d1 : r.den = 1
      · by_cases t0 : r.ten = 0
        · by_cases g0 : r.tag = 0
          · by_cases l0 : r.ts.length = 0
            · have e : decide (r.num = 1 ∧ r.den = 1 ∧ r.ten = 0 ∧ r.tag = 0 ∧ r.ts.length = 0) = true := by simp only [n1, d1, t0, g0, l0]; rfl
              rw [e]
              have q1 : (r.num == 1) = true := by simpa using n1
              have q2 : (r.den == 1) = true := by simpa using d1
              have q3 : (r.ten == 0) = true := by simpa using t0
              have q4 : (r.tag == 0) = true := by simpa using g0
              have q5 : ((r.ts.length : Int) == 0) = true := by rw [l0]; rfl
              clear e n1 d1 t0 g0 l0
              go_enter Tryd.func31, Tryd.ntmps31
              go_wp2
              go_ret
              exact ⟨rfl, hB⟩
            · have e : decide (r.num = 1 ∧ r.den = 1 ∧ r.ten = 0 ∧ r.tag = 0 ∧ r.ts.length = 0) = false := by rw [decide_eq_false_iff_not]; rintro ⟨_, _, _, _, h⟩; exact l0 h
              rw [e]
              have q1 : (r.num == 1) = true := by simpa using n1
              have q2 : (r.den == 1) = true := by simpa using d1
              have q3 : (r.ten == 0) = true := by simpa using t0
              have q4 : (r.tag == 0) = true := by simpa using g0
              have q5 : ((r.ts.length : Int) == 0) = false := by rw [beq_eq_false_iff_ne]; omega
              clear e n1 d1 t0 g0 l0
              go_enter Tryd.func31, Tryd.ntmps31
              go_wp2
              go_ret
              exact ⟨rfl, hB⟩
          · have e : decide (r.num = 1 ∧ r.den = 1 ∧ r.ten = 0 ∧ r.tag = 0 ∧ r.ts.length = 0) = false := by rw [decide_eq_false_iff_not]; rintro ⟨_, _, _, h, _⟩; exact g0 h
            rw [e]
            have q1 : (r.num == 1) = true := by simpa using n1
            have q2 : (r.den == 1) = true := by simpa using d1
            have q3 : (r.ten == 0) = true := by simpa using t0
            have q4 : (r.tag == 0) = false := by simpa using g0
            clear e n1 d1 t0 g0
            go_enter Tryd.func31, Tryd.ntmps31
            go_wp2
            go_ret
            exact ⟨rfl, hB⟩
        · have e : decide (r.num = 1 ∧ r.den = 1 ∧ r.ten = 0 ∧ r.tag = 0 ∧ r.ts.length = 0) = false := by rw [decide_eq_false_iff_not]; rintro ⟨_, _, h, _, _⟩; exact t0 h
          rw [e]
          have q1 : (r.num == 1) = true := by simpa using n1
          have q2 : (r.den == 1) = true := by simpa using d1
          have q3 : (r.ten == 0) = false := by simpa using t0
          clear e n1 d1 t0
          go_enter Tryd.func31, Tryd.ntmps31
          go_wp2
          go_ret
          exact ⟨rfl, hB⟩
      · have e : decide (r.num = 1 ∧ r.den = 1 ∧ r.ten = 0 ∧ r.tag = 0 ∧ r.ts.length = 0) = false := by rw [decide_eq_false_iff_not]; rintro ⟨_, h, _, _, _⟩; exact d1 h
        rw [e]
        have q1 : (r.num == 1) = true := by simpa using n1
        have q2 : (r.den == 1) = false := by simpa using d1
        clear e n1 d1
        go_enter Tryd.func31, Tryd.ntmps31
        go_wp2
        go_ret
        exact ⟨rfl, hB⟩
    · have e : decide (r.num = 1 ∧ r.den = 1 ∧ r.ten = 0 ∧ r.tag = 0 ∧ r.ts.length = 0) = false := by rw [decide_eq_false_iff_not]; rintro ⟨h, _, _, _, _⟩; exact n1 h
      rw [e]
      have q1 : (r.num == 1) = false := by simpa using n1
      clear e n1
      go_enter Tryd.func31, Tryd.ntmps31
      go_wp2
      go_ret
      exact ⟨rfl, hB⟩
  by_cases hm : r.base = -1
  · by_cases h9 : 9 < r.ts.length
    · have e : worthB r = false := by unfold worthB; rw [if_neg (by omega), if_neg hb, if_pos (.inr h9)]
      rw [e]; clear e hb
      have q : (9 : Int) < r.ts.length := by omega
      have qb : (r.base != -1) = false := by simp [hm]
      have b0 : r.base < 0 := by omega
      clear hm h9
      go_enter Tryd.func31, Tryd.ntmps31
      go_wp2
      go_ret
      exact ⟨rfl, hB⟩
    · have e : worthB r = decide ((Frac.makeG r.num r.den r.ten).e = 0 ∧ (Frac.makeG r.num r.den r.ten).n ≠ 0) := by unfold worthB; rw [if_neg (by omega), if_neg hb, if_neg (by omega)]
      rw [e]; clear e hb
      have q : (r.ts.length : Int) ≤ 9 := by omega
      have qb : (r.base != -1) = false := by simp [hm]
      have b0 : r.base < 0 := by omega
      have hmk := Frac.make_any r.num r.den r.ten _ (hT.below hB) h1 h2
      generalize Frac.makeG r.num r.den r.ten = G at hmk ⊢
      clear hm h9
      obtain ⟨gn, gd, gt, ge⟩ := G
      simp only [Frac.Got.v] at hmk
      show Calls _ _ _ _ fun e w' => e = .returned (.bool (decide (ge = 0 ∧ gn ≠ 0))) ∧ Below w.heap.size w w'
      generalize hv : decide (ge = 0 ∧ gn ≠ 0) = v
      have HV := Lib.hid hv
      clear hv
      go_enter Tryd.func31, Tryd.ntmps31
      go_wp2_with fail
      refine hmk.mono ?_
      rintro e w2 ⟨rfl, hb⟩
      replace hB := hB.trans (hb.mono hB.size)
      by_cases e0 : ge = 0
      · by_cases n0 : gn = 0
        · have e : decide (ge = 0 ∧ gn ≠ 0) = false := by simp [n0]
          have HE := Lib.hid e
          have q1 : (ge == 0) = true := by simpa using e0
          have q2 : (gn != 0) = false := by simp [n0]
          clear e e0 n0
          go_wp2
          go_ret
          exact ⟨by rw [← HV.out, HE.out]; rfl, hB.alloc (by have := hB.size; omega) _⟩
        · have e : decide (ge = 0 ∧ gn ≠ 0) = true := by simp [e0, n0]
          have HE := Lib.hid e
          have q1 : (ge == 0) = true := by simpa using e0
          have q2 : (gn != 0) = true := by simpa using n0
          clear e e0 n0
          go_wp2
          go_ret
          exact ⟨by rw [← HV.out, HE.out]; rfl, hB.alloc (by have := hB.size; omega) _⟩
      · have e : decide (ge = 0 ∧ gn ≠ 0) = false := by simp [e0]
        have HE := Lib.hid e
        have q1 : (ge == 0) = false := by simpa using e0
        clear e e0
        go_wp2
        go_ret
        exact ⟨by rw [← HV.out, HE.out]; rfl, hB.alloc (by have := hB.size; omega) _⟩
  · have e : worthB r = false := by unfold worthB; rw [if_neg (by omega), if_neg hb, if_pos (.inl hm)]
    rw [e]; clear e
    have qb : (r.base != -1) = true := by simpa using hm
    clear hm
    by_cases b0 : r.base < 0
    · clear hb
      go_enter Tryd.func31, Tryd.ntmps31
      go_wp2
      go_ret
      exact ⟨rfl, hB⟩
    · have b7 : 7 ≤ r.base := by omega
      clear hb
      go_enter Tryd.func31, Tryd.ntmps31
      go_wp2
      go_ret
      exact ⟨rfl, hB⟩

end Go.Proofs.YtpmibcdmaaagjaaDoor.Atoms

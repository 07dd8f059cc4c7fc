/-
  drachmlaw16.EditOne.
-/
import Derived.Test.YtlfpfijhimngmaaEE
namespace Go.Proofs.Ytlfpfijhimngmaa.Edits
open Go.RowKit
set_option linter.unusedVariables false
set_option linter.unusedSimpArgs false

/-- The law's arguments in their boxes. -/
structure OneBox (B : Nat) (a b : ByteArray) (n m : Int) (W : World) : Prop where
  c0 : W.cell? ⟨B, 0, none⟩ = some (.string a)
  c1 : W.cell? ⟨B, 1, none⟩ = some (.string b)
  c2 : W.cell? ⟨B + 1, 0, none⟩ = some (.int .i64 n)
  c3 : W.cell? ⟨B + 1, 1, none⟩ = some (.int .i64 m)
theorem OneBox.go {B : Nat} {a b : ByteArray} {n m : Int} {W V : World} (h : OneBox B a b n m W) (hb : Below W.heap.size W V) : OneBox B a b n m V :=
  ⟨(hb.cell (p := ⟨B, 0, none⟩) (cell_lt h.c0)).trans h.c0, (hb.cell (p := ⟨B, 1, none⟩) (cell_lt h.c1)).trans h.c1, (hb.cell (p := ⟨B + 1, 0, none⟩) (cell_lt h.c2)).trans h.c2, (hb.cell (p := ⟨B + 1, 1, none⟩) (cell_lt h.c3)).trans h.c3⟩

theorem one_byte (w : World) (x : Int) : (convert 39 9 (.slice (some ⟨w.heap.size, 0, none⟩) 1 1)).run Try.prog (w.alloc (.cells #[.int .u8 x] 5)) = .ok (.string (bs [UInt8.ofNat x.toNat])) (w.alloc (.cells #[.int .u8 x] 5)) := by
  refine run_convert_bytes_arg _ 39 5 (by kernel_rfl) (by kernel_rfl) w.heap.size 0 1 1 [x] rfl ?_ 9 (by kernel_rfl)
  intro i hi
  have h0 : i = 0 := by omega
  subst h0
  simp [go_sem]

theorem byte_conv (w W : World) (c : UInt8) (h : W.cell? ⟨w.heap.size, 0, none⟩ = some (.int .u8 (c.toNat : Int))) : (convert 39 9 (.slice (some ⟨w.heap.size, 0, none⟩) 1 1)).run Try.prog W = .ok (.string (bs [c])) W := by
  have := run_convert_bytes_arg (P := Try.prog) W 39 5 (by kernel_rfl) (by kernel_rfl) w.heap.size 0 1 1 [(c.toNat : Int)] rfl (by
    intro i hi
    have h0 : i = 0 := by omega
    subst h0
    exact h) 9 (by kernel_rfl)
  have e : strOfNums [(c.toNat : Int)] = bs [c] := by simp [strOfNums, bs]
  rw [this, e]

/-- What is left of a number by a divisor. -/
theorem rest_pos (n : Int) (d : Nat) (hd : 0 < d) : ∃ (r : Int) (k : Nat), n.tmod (d : Int) = r ∧ -((d : Int) - 1) ≤ r ∧ r ≤ (d : Int) - 1 ∧ (r + ((d : Int) - 1) + 1).tmod (d : Int) = (k : Int) ∧ (r + ((d : Int) - 1) + 1) % (d : Int) = (k : Int) ∧ k < d := by
  have hd' : (0 : Int) < (d : Int) := by omega
  have h1 := Int.tmod_lt_of_pos n hd'
  have h2 : -(d : Int) < n.tmod (d : Int) := by
    have := Int.lt_tmod_of_pos n hd'
    exact this
  have h3 : 0 ≤ n.tmod (d : Int) + ((d : Int) - 1) + 1 := by omega
  have h4 := Int.emod_nonneg (n.tmod (d : Int) + ((d : Int) - 1) + 1) (by omega : (d : Int) ≠ 0)
  have h5 := Int.emod_lt_of_pos (n.tmod (d : Int) + ((d : Int) - 1) + 1) hd'
  refine ⟨n.tmod (d : Int), ((n.tmod (d : Int) + ((d : Int) - 1) + 1) % (d : Int)).toNat, rfl, by omega, by omega, ?_, by omega, by omega⟩
  rw [Int.tmod_eq_emod_of_nonneg h3]
  omega

/-- t was made of s by a step, or is s. -/
def OneWay (s t : List UInt8) : Prop := Way 1 s t ∨ s = t
theorem one_lev {s t : List UInt8} (x : List UInt8) (h : OneWay s t) : ((lev s t : Nat) : Int) = (if s = t then 0 else 1) ∧ ((lev (x ++ s) (x ++ t) : Nat) : Int) = (if s = t then 0 else 1) ∧ ((lev (s ++ x) (t ++ x) : Nat) : Int) = (if s = t then 0 else 1) := by
  rcases h with h | rfl
  · rw [lev_one h, ahead_one x h, behind_one x h]
    by_cases e : s = t
    · simp [e]
    · simp [e]
  · simp [(lev_zero _ _).mpr]

set_option maxRecDepth 100000 in
set_option maxHeartbeats 1000000 in
theorem one_walk (a b : List UInt8) (n m : Int) (c : UInt8) (w : World) (ha : a.length ≤ 9223372036854775807) (hb : b.length ≤ 9223372036854775807) (hn0 : -9223372036854775808 ≤ n) (hn1 : n ≤ 9223372036854775807) (hm0 : -9223372036854775808 ≤ m) (hm1 : m ≤ 9223372036854775807) :
    Calls Try.prog 7 #[.agg #[.string (bs a), .string (bs b)], .agg #[.int .i64 n, .int .i64 m], .int .u8 (c.toNat : Int)] w fun e w' => e = .returned (.bool true) ∧ Below w.heap.size w w' := by
  have hsa := fun W => short_any a W ha
  have hsb := fun W => short_any b W hb
  have la : (a.take 24).length ≤ 24 := by rw [List.length_take]; omega
  have lb : (b.take 24).length ≤ 24 := by rw [List.length_take]; omega
  generalize a.take 24 = s at *
  generalize b.take 24 = x at *
  clear ha hb
  have hzs : (bs s).size = s.length := bs_size s
  have hzx : (bs x).size = x.length := bs_size x
  obtain ⟨r, k, r1, r2, r3, r4, r5, r6⟩ := rest_pos n (s.length + 1) (by omega)
  obtain ⟨u, h, u1, u2, u3, u4, u5, u6⟩ := rest_pos m 3 (by omega)
  rw [show (((s.length + 1 : Nat) : Int)) = (s.length : Int) + 1 from by omega] at r1 r2 r3 r4 r5
  rw [show r + ((s.length : Int) + 1 - 1) + 1 = r + (s.length : Int) + 1 from by omega] at r4 r5
  rw [show (((3 : Nat) : Int)) = 3 from rfl] at u1 u2 u3 u4 u5
  rw [show u + ((3 : Int) - 1) + 1 = u + 3 from by omega] at u4 u5
  go_enter Try.func7, Try.ntmps7
  go_wp2_with fail
  refine (awake_yes _).mono ?_
  rintro e w1 ⟨rfl, hB1⟩
  have hO : OneBox w.heap.size (bs a) (bs b) n m w1 := OneBox.go ⟨by simp [go_sem], by simp [go_sem], by simp [go_sem], by simp [go_sem]⟩ hB1
  have hB2 : Below w.heap.size w w1 := by
    have h0 : Below w.heap.size w ((w.alloc (.cells #[.string (bs a), .string (bs b)] 37)).alloc (.cells #[.int .i64 n, .int .i64 m] 38)) := by go_grown
    exact h0.trans (hB1.mono h0.size)
  have c0 := hO.c0
  have c1 := hO.c1
  have c2 := hO.c2
  have c3 := hO.c3
  clear hB1
  go_wp2_with fail
  refine (hsa _).mono ?_
  rintro e w2 ⟨rfl, rfl⟩
  by_cases hk : k < s.length
  · have hki : (k : Int) < (s.length : Int) := by omega
    rcases (show h = 0 ∨ h = 1 ∨ h = 2 by omega) with rfl | rfl | rfl
    · simp only [Int.ofNat_zero] at u4 u5
      have he1 : (bs s).extract 0 k = bs (s.take k) := bs_extract s 0 k
      have he2 : (bs s).extract (k + 1) s.length = bs (s.drop (k + 1)) := by rw [bs_extract, List.take_of_length_le (Nat.le_refl _)]
      have he2' : (bs s).extract k s.length = bs (s.drop k) := by rw [bs_extract, List.take_of_length_le (Nat.le_refl _)]
      have hs1 : (bs (s.take k)).size ≤ 24 := by rw [bs_size, List.length_take]; omega
      have hs2 : (bs (s.drop (k + 1))).size ≤ 24 := by rw [bs_size, List.length_drop]; omega
      have hs3 : (bs (s.drop k)).size ≤ 24 := by rw [bs_size, List.length_drop]; omega

      have ha1 := bs_app (s.take k) (s.drop (k + 1))
      have hway : OneWay s (s.take k ++ s.drop (k + 1)) := .inl (way_out s k hk)
      have tlen0 : (s.take k ++ s.drop (k + 1)).length ≤ 25 := by rw [List.length_append, List.length_take, List.length_drop]; omega
      generalize s.take k ++ s.drop (k + 1) = t at *
      have hs4 : ¬ (9223372036854775807 < (bs (s.take k)).size + (bs (s.drop (k + 1))).size) := by omega
      go_upto_region 10 with fail
      go_quiet (fail)

      have hb5 : Below w1.heap.size w1 (w1.drewN nq) := below_drewN (Below.refl _ _) _
      replace hO := hO.go hb5
      replace hB2 := hB2.trans (hb5.mono hB2.size)
      clear hb5 c0 c1 c2 c3
      have c1 := hO.c1
      generalize w1.drewN nq = W1 at *

      have tl := one_lev x hway
      have tq : ((bs s).toList == (bs t).toList) = decide (s = t) := by rw [bs_toList, bs_toList, Bool.eq_iff_iff]; simp
      have tlen : t.length ≤ 25 := tlen0
      have l1 := fun W => distance_any s t W (by omega) (by omega)
      have l2 := fun W => distance_any (x ++ s) (x ++ t) W (by rw [List.length_append]; omega) (by rw [List.length_append]; omega)
      have l3 := fun W => distance_any (s ++ x) (t ++ x) W (by rw [List.length_append]; omega) (by rw [List.length_append]; omega)
      rw [tl.1] at l1
      rw [tl.2.1] at l2
      rw [tl.2.2] at l3
      have k1 := bs_app x s
      have k2 := bs_app x t
      have k3 := bs_app s x
      have k4 := bs_app t x
      have hzt : (bs t).size = t.length := bs_size t
      try clear hv0 hv1 hv2
      have z1 : ¬ (9223372036854775807 < (bs x).size + (bs s).size) := by omega
      have z2 : ¬ (9223372036854775807 < (bs x).size + (bs t).size) := by omega
      have z3 : ¬ (9223372036854775807 < (bs s).size + (bs x).size) := by omega
      have z4 : ¬ (9223372036854775807 < (bs t).size + (bs x).size) := by omega
      clear tl hway
      cases hdq : decide (s = t) with
      | true =>
        have hst : s = t := of_decide_eq_true hdq
        rw [if_pos hst] at l1 l2 l3
        rw [hdq] at tq
        clear hst hdq
        go_wp2_with fail
        refine (hsb _).mono ?_
        rintro e w2 ⟨rfl, rfl⟩
        clear hsb
        go_wp2_with fail
        refine (l1 _).mono ?_
        rintro e w3 ⟨rfl, hB3⟩
        have hB4 := hB2.trans (hB3.mono hB2.size)
        clear hB3 hB2
        go_wp2_with fail
        refine (l2 _).mono ?_
        rintro e w4 ⟨rfl, hB5⟩
        have hB6 := hB4.trans (hB5.mono hB4.size)
        clear hB5 hB4
        go_wp2_with fail
        refine (l3 _).mono ?_
        rintro e w5 ⟨rfl, hB7⟩
        have HB := Lib.hid (hB6.trans (hB7.mono hB6.size))
        clear hB7 hB6
        go_wp2
        go_ret
        exact ⟨rfl, HB.out⟩
      | false =>
        have hst : ¬ s = t := of_decide_eq_false hdq
        rw [if_neg hst] at l1 l2 l3
        rw [hdq] at tq
        clear hst hdq
        go_wp2_with fail
        refine (hsb _).mono ?_
        rintro e w2 ⟨rfl, rfl⟩
        clear hsb
        go_wp2_with fail
        refine (l1 _).mono ?_
        rintro e w3 ⟨rfl, hB3⟩
        have hB4 := hB2.trans (hB3.mono hB2.size)
        clear hB3 hB2
        go_wp2_with fail
        refine (l2 _).mono ?_
        rintro e w4 ⟨rfl, hB5⟩
        have hB6 := hB4.trans (hB5.mono hB4.size)
        clear hB5 hB4
        go_wp2_with fail
        refine (l3 _).mono ?_
        rintro e w5 ⟨rfl, hB7⟩
        have HB := Lib.hid (hB6.trans (hB7.mono hB6.size))
        clear hB7 hB6
        go_wp2
        go_ret
        exact ⟨rfl, HB.out⟩
    · simp only [Int.ofNat_one] at u4 u5
      have he1 : (bs s).extract 0 k = bs (s.take k) := bs_extract s 0 k
      have he2 : (bs s).extract (k + 1) s.length = bs (s.drop (k + 1)) := by rw [bs_extract, List.take_of_length_le (Nat.le_refl _)]
      have he2' : (bs s).extract k s.length = bs (s.drop k) := by rw [bs_extract, List.take_of_length_le (Nat.le_refl _)]
      have hs1 : (bs (s.take k)).size ≤ 24 := by rw [bs_size, List.length_take]; omega
      have hs2 : (bs (s.drop (k + 1))).size ≤ 24 := by rw [bs_size, List.length_drop]; omega
      have hs3 : (bs (s.drop k)).size ≤ 24 := by rw [bs_size, List.length_drop]; omega

      have hone : (bs [c]).size = 1 := rfl
      have hv0 := byte_conv w1 (w1.alloc (.cells #[.int .u8 (c.toNat : Int)] 5)) c (by simp [go_sem])
      have hv1 := byte_conv w1 (w1.alloc (.cells #[.int .u8 (c.toNat : Int)] 5)).drew c (by simp [go_sem])
      have hv2 := byte_conv w1 (w1.drew.alloc (.cells #[.int .u8 (c.toNat : Int)] 5)) c (by simp [go_sem])

      have ha0 := bs_app (s.take k) [c]
      have ha1 := bs_app (s.take k ++ [c]) (s.drop k)
      have hway : OneWay s (s.take k ++ [c] ++ s.drop k) := .inl (by rw [List.append_assoc]; exact way_put s k c)
      have tlen0 : (s.take k ++ [c] ++ s.drop k).length ≤ 25 := by rw [List.length_append, List.length_append, List.length_take, List.length_drop, List.length_singleton]; omega
      have hs5 : (bs (s.take k ++ [c])).size ≤ 25 := by rw [bs_size, List.length_append, List.length_take, List.length_singleton]; omega
      generalize s.take k ++ [c] ++ s.drop k = t at *
      have hs4 : ¬ (9223372036854775807 < (bs (s.take k)).size + 1) := by omega
      have hkl : k ≤ s.length := by omega
      have hk00 : 0 ≤ (k : Int) := by omega
      have hkl1 : (k : Int) ≤ (s.length : Int) := by omega
      have hs6 : ¬ (9223372036854775807 < (bs (s.take k ++ [c])).size + (bs (s.drop k)).size) := by omega
      clear he2
      go_upto_region 12 with fail
      go_region_with (fail)

      have hb5 : Below w1.heap.size w1 ((w1.alloc (.cells #[.int .u8 (c.toNat : Int)] 5)).drew) := ((Below.refl _ _).alloc (Nat.le_refl _) _).drew
      replace hO := hO.go hb5
      replace hB2 := hB2.trans (hb5.mono hB2.size)
      clear hb5 c0 c1 c2 c3
      have c1 := hO.c1
      generalize (w1.alloc (.cells #[.int .u8 (c.toNat : Int)] 5)).drew = W1 at *

      have tl := one_lev x hway
      have tq : ((bs s).toList == (bs t).toList) = decide (s = t) := by rw [bs_toList, bs_toList, Bool.eq_iff_iff]; simp
      have tlen : t.length ≤ 25 := tlen0
      have l1 := fun W => distance_any s t W (by omega) (by omega)
      have l2 := fun W => distance_any (x ++ s) (x ++ t) W (by rw [List.length_append]; omega) (by rw [List.length_append]; omega)
      have l3 := fun W => distance_any (s ++ x) (t ++ x) W (by rw [List.length_append]; omega) (by rw [List.length_append]; omega)
      rw [tl.1] at l1
      rw [tl.2.1] at l2
      rw [tl.2.2] at l3
      have k1 := bs_app x s
      have k2 := bs_app x t
      have k3 := bs_app s x
      have k4 := bs_app t x
      have hzt : (bs t).size = t.length := bs_size t
      try clear hv0 hv1 hv2
      have z1 : ¬ (9223372036854775807 < (bs x).size + (bs s).size) := by omega
      have z2 : ¬ (9223372036854775807 < (bs x).size + (bs t).size) := by omega
      have z3 : ¬ (9223372036854775807 < (bs s).size + (bs x).size) := by omega
      have z4 : ¬ (9223372036854775807 < (bs t).size + (bs x).size) := by omega
      clear tl hway
      cases hdq : decide (s = t) with
      | true =>
        have hst : s = t := of_decide_eq_true hdq
        rw [if_pos hst] at l1 l2 l3
        rw [hdq] at tq
        clear hst hdq
        go_wp2_with fail
        refine (hsb _).mono ?_
        rintro e w2 ⟨rfl, rfl⟩
        clear hsb
        go_wp2_with fail
        refine (l1 _).mono ?_
        rintro e w3 ⟨rfl, hB3⟩
        have hB4 := hB2.trans (hB3.mono hB2.size)
        clear hB3 hB2
        go_wp2_with fail
        refine (l2 _).mono ?_
        rintro e w4 ⟨rfl, hB5⟩
        have hB6 := hB4.trans (hB5.mono hB4.size)
        clear hB5 hB4
        go_wp2_with fail
        refine (l3 _).mono ?_
        rintro e w5 ⟨rfl, hB7⟩
        have HB := Lib.hid (hB6.trans (hB7.mono hB6.size))
        clear hB7 hB6
        go_wp2
        go_ret
        exact ⟨rfl, HB.out⟩
      | false =>
        have hst : ¬ s = t := of_decide_eq_false hdq
        rw [if_neg hst] at l1 l2 l3
        rw [hdq] at tq
        clear hst hdq
        go_wp2_with fail
        refine (hsb _).mono ?_
        rintro e w2 ⟨rfl, rfl⟩
        clear hsb
        go_wp2_with fail
        refine (l1 _).mono ?_
        rintro e w3 ⟨rfl, hB3⟩
        have hB4 := hB2.trans (hB3.mono hB2.size)
        clear hB3 hB2
        go_wp2_with fail
        refine (l2 _).mono ?_
        rintro e w4 ⟨rfl, hB5⟩
        have hB6 := hB4.trans (hB5.mono hB4.size)
        clear hB5 hB4
        go_wp2_with fail
        refine (l3 _).mono ?_
        rintro e w5 ⟨rfl, hB7⟩
        have HB := Lib.hid (hB6.trans (hB7.mono hB6.size))
        clear hB7 hB6
        go_wp2
        go_ret
        exact ⟨rfl, HB.out⟩
    · have u7 : (u + 3).tmod 3 = 2 := u4
      have u8 : (u + 3) % 3 = 2 := u5
      clear u4 u5
      have hk0 : 0 ≤ (k : Int) + 1 := by omega
      have hk1 : k + 1 ≤ s.length := by omega
      have hk2 : (k : Int) + 1 ≤ (s.length : Int) := by omega
      have hk3 : IntKind.i64.wrap ((k : Int) + 1) = (k : Int) + 1 := by rw [IntKind.wrap_i64]; omega
      have he1 : (bs s).extract 0 k = bs (s.take k) := bs_extract s 0 k
      have he2 : (bs s).extract (k + 1) s.length = bs (s.drop (k + 1)) := by rw [bs_extract, List.take_of_length_le (Nat.le_refl _)]
      have he2' : (bs s).extract k s.length = bs (s.drop k) := by rw [bs_extract, List.take_of_length_le (Nat.le_refl _)]
      have hs1 : (bs (s.take k)).size ≤ 24 := by rw [bs_size, List.length_take]; omega
      have hs2 : (bs (s.drop (k + 1))).size ≤ 24 := by rw [bs_size, List.length_drop]; omega
      have hs3 : (bs (s.drop k)).size ≤ 24 := by rw [bs_size, List.length_drop]; omega

      have hone : (bs [c]).size = 1 := rfl
      have hv0 := byte_conv w1 (w1.alloc (.cells #[.int .u8 (c.toNat : Int)] 5)) c (by simp [go_sem])
      have hv1 := byte_conv w1 (w1.alloc (.cells #[.int .u8 (c.toNat : Int)] 5)).drew c (by simp [go_sem])
      have hv2 := byte_conv w1 (w1.drew.alloc (.cells #[.int .u8 (c.toNat : Int)] 5)) c (by simp [go_sem])

      have ha0 := bs_app (s.take k) [c]
      have ha1 := bs_app (s.take k ++ [c]) (s.drop (k + 1))
      have hway : OneWay s (s.take k ++ [c] ++ s.drop (k + 1)) := .inl (by rw [List.append_assoc]; exact way_turn s k c hk)
      have tlen0 : (s.take k ++ [c] ++ s.drop (k + 1)).length ≤ 25 := by rw [List.length_append, List.length_append, List.length_take, List.length_drop, List.length_singleton]; omega
      have hs5 : (bs (s.take k ++ [c])).size ≤ 25 := by rw [bs_size, List.length_append, List.length_take, List.length_singleton]; omega
      generalize s.take k ++ [c] ++ s.drop (k + 1) = t at *
      have hs4 : ¬ (9223372036854775807 < (bs (s.take k)).size + 1) := by omega
      have hkl : k ≤ s.length := by omega
      have hk00 : 0 ≤ (k : Int) := by omega
      have hkl1 : (k : Int) ≤ (s.length : Int) := by omega
      have hs6 : ¬ (9223372036854775807 < (bs (s.take k ++ [c])).size + (bs (s.drop (k + 1))).size) := by omega
      clear he2'
      go_upto_region 7 with fail
      go_region_with (fail)

      have hb5 : Below w1.heap.size w1 ((w1.alloc (.cells #[.int .u8 (c.toNat : Int)] 5)).drew) := ((Below.refl _ _).alloc (Nat.le_refl _) _).drew
      replace hO := hO.go hb5
      replace hB2 := hB2.trans (hb5.mono hB2.size)
      clear hb5 c0 c1 c2 c3
      have c1 := hO.c1
      generalize (w1.alloc (.cells #[.int .u8 (c.toNat : Int)] 5)).drew = W1 at *

      have tl := one_lev x hway
      have tq : ((bs s).toList == (bs t).toList) = decide (s = t) := by rw [bs_toList, bs_toList, Bool.eq_iff_iff]; simp
      have tlen : t.length ≤ 25 := tlen0
      have l1 := fun W => distance_any s t W (by omega) (by omega)
      have l2 := fun W => distance_any (x ++ s) (x ++ t) W (by rw [List.length_append]; omega) (by rw [List.length_append]; omega)
      have l3 := fun W => distance_any (s ++ x) (t ++ x) W (by rw [List.length_append]; omega) (by rw [List.length_append]; omega)
      rw [tl.1] at l1
      rw [tl.2.1] at l2
      rw [tl.2.2] at l3
      have k1 := bs_app x s
      have k2 := bs_app x t
      have k3 := bs_app s x
      have k4 := bs_app t x
      have hzt : (bs t).size = t.length := bs_size t
      try clear hv0 hv1 hv2
      have z1 : ¬ (9223372036854775807 < (bs x).size + (bs s).size) := by omega
      have z2 : ¬ (9223372036854775807 < (bs x).size + (bs t).size) := by omega
      have z3 : ¬ (9223372036854775807 < (bs s).size + (bs x).size) := by omega
      have z4 : ¬ (9223372036854775807 < (bs t).size + (bs x).size) := by omega
      clear tl hway
      cases hdq : decide (s = t) with
      | true =>
        have hst : s = t := of_decide_eq_true hdq
        rw [if_pos hst] at l1 l2 l3
        rw [hdq] at tq
        clear hst hdq
        go_wp2_with fail
        refine (hsb _).mono ?_
        rintro e w2 ⟨rfl, rfl⟩
        clear hsb
        go_wp2_with fail
        refine (l1 _).mono ?_
        rintro e w3 ⟨rfl, hB3⟩
        have hB4 := hB2.trans (hB3.mono hB2.size)
        clear hB3 hB2
        go_wp2_with fail
        refine (l2 _).mono ?_
        rintro e w4 ⟨rfl, hB5⟩
        have hB6 := hB4.trans (hB5.mono hB4.size)
        clear hB5 hB4
        go_wp2_with fail
        refine (l3 _).mono ?_
        rintro e w5 ⟨rfl, hB7⟩
        have HB := Lib.hid (hB6.trans (hB7.mono hB6.size))
        clear hB7 hB6
        go_wp2
        go_ret
        exact ⟨rfl, HB.out⟩
      | false =>
        have hst : ¬ s = t := of_decide_eq_false hdq
        rw [if_neg hst] at l1 l2 l3
        rw [hdq] at tq
        clear hst hdq
        go_wp2_with fail
        refine (hsb _).mono ?_
        rintro e w2 ⟨rfl, rfl⟩
        clear hsb
        go_wp2_with fail
        refine (l1 _).mono ?_
        rintro e w3 ⟨rfl, hB3⟩
        have hB4 := hB2.trans (hB3.mono hB2.size)
        clear hB3 hB2
        go_wp2_with fail
        refine (l2 _).mono ?_
        rintro e w4 ⟨rfl, hB5⟩
        have hB6 := hB4.trans (hB5.mono hB4.size)
        clear hB5 hB4
        go_wp2_with fail
        refine (l3 _).mono ?_
        rintro e w5 ⟨rfl, hB7⟩
        have HB := Lib.hid (hB6.trans (hB7.mono hB6.size))
        clear hB7 hB6
        go_wp2
        go_ret
        exact ⟨rfl, HB.out⟩
  · have hki : ¬ (k : Int) < (s.length : Int) := by omega
    rcases (show h = 0 ∨ h = 1 ∨ h = 2 by omega) with rfl | rfl | rfl
    · simp only [Int.ofNat_zero] at u4 u5
      have l1 := fun W => distance_any s s W (by omega) (by omega)
      have l2 := fun W => distance_any (x ++ s) (x ++ s) W (by rw [List.length_append]; omega) (by rw [List.length_append]; omega)
      have l3 := fun W => distance_any (s ++ x) (s ++ x) W (by rw [List.length_append]; omega) (by rw [List.length_append]; omega)
      rw [(lev_zero s s).mpr rfl] at l1
      rw [(lev_zero _ _).mpr rfl] at l2
      rw [(lev_zero _ _).mpr rfl] at l3
      have k1 := bs_app x s
      have k3 := bs_app s x
      have z1 : ¬ (9223372036854775807 < (bs x).size + (bs s).size) := by omega
      have z3 : ¬ (9223372036854775807 < (bs s).size + (bs x).size) := by omega

      go_wp2_with fail
      refine (hsb _).mono ?_
      rintro e w2 ⟨rfl, rfl⟩
      clear hsb
      go_wp2_with fail
      refine (l1 _).mono ?_
      rintro e w3 ⟨rfl, hB3⟩
      have hB4 := hB2.trans (hB3.mono hB2.size)
      clear hB3 hB2
      go_wp2_with fail
      refine (l2 _).mono ?_
      rintro e w4 ⟨rfl, hB5⟩
      have hB6 := hB4.trans (hB5.mono hB4.size)
      clear hB5 hB4
      go_wp2_with fail
      refine (l3 _).mono ?_
      rintro e w5 ⟨rfl, hB7⟩
      have HB := Lib.hid (hB6.trans (hB7.mono hB6.size))
      clear hB7 hB6
      go_wp2
      go_ret
      exact ⟨rfl, HB.out⟩
    · simp only [Int.ofNat_one] at u4 u5
      have he1 : (bs s).extract 0 k = bs (s.take k) := bs_extract s 0 k
      have he2 : (bs s).extract (k + 1) s.length = bs (s.drop (k + 1)) := by rw [bs_extract, List.take_of_length_le (Nat.le_refl _)]
      have he2' : (bs s).extract k s.length = bs (s.drop k) := by rw [bs_extract, List.take_of_length_le (Nat.le_refl _)]
      have hs1 : (bs (s.take k)).size ≤ 24 := by rw [bs_size, List.length_take]; omega
      have hs2 : (bs (s.drop (k + 1))).size ≤ 24 := by rw [bs_size, List.length_drop]; omega
      have hs3 : (bs (s.drop k)).size ≤ 24 := by rw [bs_size, List.length_drop]; omega

      have hone : (bs [c]).size = 1 := rfl
      have hv0 := byte_conv w1 (w1.alloc (.cells #[.int .u8 (c.toNat : Int)] 5)) c (by simp [go_sem])
      have hv1 := byte_conv w1 (w1.alloc (.cells #[.int .u8 (c.toNat : Int)] 5)).drew c (by simp [go_sem])
      have hv2 := byte_conv w1 (w1.drew.alloc (.cells #[.int .u8 (c.toNat : Int)] 5)) c (by simp [go_sem])

      have ha0 := bs_app (s.take k) [c]
      have ha1 := bs_app (s.take k ++ [c]) (s.drop k)
      have hway : OneWay s (s.take k ++ [c] ++ s.drop k) := .inl (by rw [List.append_assoc]; exact way_put s k c)
      have tlen0 : (s.take k ++ [c] ++ s.drop k).length ≤ 25 := by rw [List.length_append, List.length_append, List.length_take, List.length_drop, List.length_singleton]; omega
      have hs5 : (bs (s.take k ++ [c])).size ≤ 25 := by rw [bs_size, List.length_append, List.length_take, List.length_singleton]; omega
      generalize s.take k ++ [c] ++ s.drop k = t at *
      have hs4 : ¬ (9223372036854775807 < (bs (s.take k)).size + 1) := by omega
      have hkl : k ≤ s.length := by omega
      have hk00 : 0 ≤ (k : Int) := by omega
      have hkl1 : (k : Int) ≤ (s.length : Int) := by omega
      have hs6 : ¬ (9223372036854775807 < (bs (s.take k ++ [c])).size + (bs (s.drop k)).size) := by omega
      clear he2
      go_upto_region 12 with fail
      go_region_with (fail)

      have hb5 : Below w1.heap.size w1 ((w1.alloc (.cells #[.int .u8 (c.toNat : Int)] 5)).drew) := ((Below.refl _ _).alloc (Nat.le_refl _) _).drew
      replace hO := hO.go hb5
      replace hB2 := hB2.trans (hb5.mono hB2.size)
      clear hb5 c0 c1 c2 c3
      have c1 := hO.c1
      generalize (w1.alloc (.cells #[.int .u8 (c.toNat : Int)] 5)).drew = W1 at *

      have tl := one_lev x hway
      have tq : ((bs s).toList == (bs t).toList) = decide (s = t) := by rw [bs_toList, bs_toList, Bool.eq_iff_iff]; simp
      have tlen : t.length ≤ 25 := tlen0
      have l1 := fun W => distance_any s t W (by omega) (by omega)
      have l2 := fun W => distance_any (x ++ s) (x ++ t) W (by rw [List.length_append]; omega) (by rw [List.length_append]; omega)
      have l3 := fun W => distance_any (s ++ x) (t ++ x) W (by rw [List.length_append]; omega) (by rw [List.length_append]; omega)
      rw [tl.1] at l1
      rw [tl.2.1] at l2
      rw [tl.2.2] at l3
      have k1 := bs_app x s
      have k2 := bs_app x t
      have k3 := bs_app s x
      have k4 := bs_app t x
      have hzt : (bs t).size = t.length := bs_size t
      try clear hv0 hv1 hv2
      have z1 : ¬ (9223372036854775807 < (bs x).size + (bs s).size) := by omega
      have z2 : ¬ (9223372036854775807 < (bs x).size + (bs t).size) := by omega
      have z3 : ¬ (9223372036854775807 < (bs s).size + (bs x).size) := by omega
      have z4 : ¬ (9223372036854775807 < (bs t).size + (bs x).size) := by omega
      clear tl hway
      cases hdq : decide (s = t) with
      | true =>
        have hst : s = t := of_decide_eq_true hdq
        rw [if_pos hst] at l1 l2 l3
        rw [hdq] at tq
        clear hst hdq
        go_wp2_with fail
        refine (hsb _).mono ?_
        rintro e w2 ⟨rfl, rfl⟩
        clear hsb
        go_wp2_with fail
        refine (l1 _).mono ?_
        rintro e w3 ⟨rfl, hB3⟩
        have hB4 := hB2.trans (hB3.mono hB2.size)
        clear hB3 hB2
        go_wp2_with fail
        refine (l2 _).mono ?_
        rintro e w4 ⟨rfl, hB5⟩
        have hB6 := hB4.trans (hB5.mono hB4.size)
        clear hB5 hB4
        go_wp2_with fail
        refine (l3 _).mono ?_
        rintro e w5 ⟨rfl, hB7⟩
        have HB := Lib.hid (hB6.trans (hB7.mono hB6.size))
        clear hB7 hB6
        go_wp2
        go_ret
        exact ⟨rfl, HB.out⟩
      | false =>
        have hst : ¬ s = t := of_decide_eq_false hdq
        rw [if_neg hst] at l1 l2 l3
        rw [hdq] at tq
        clear hst hdq
        go_wp2_with fail
        refine (hsb _).mono ?_
        rintro e w2 ⟨rfl, rfl⟩
        clear hsb
        go_wp2_with fail
        refine (l1 _).mono ?_
        rintro e w3 ⟨rfl, hB3⟩
        have hB4 := hB2.trans (hB3.mono hB2.size)
        clear hB3 hB2
        go_wp2_with fail
        refine (l2 _).mono ?_
        rintro e w4 ⟨rfl, hB5⟩
        have hB6 := hB4.trans (hB5.mono hB4.size)
        clear hB5 hB4
        go_wp2_with fail
        refine (l3 _).mono ?_
        rintro e w5 ⟨rfl, hB7⟩
        have HB := Lib.hid (hB6.trans (hB7.mono hB6.size))
        clear hB7 hB6
        go_wp2
        go_ret
        exact ⟨rfl, HB.out⟩
    · have u7 : (u + 3).tmod 3 = 2 := u4
      have u8 : (u + 3) % 3 = 2 := u5
      clear u4 u5
      have l1 := fun W => distance_any s s W (by omega) (by omega)
      have l2 := fun W => distance_any (x ++ s) (x ++ s) W (by rw [List.length_append]; omega) (by rw [List.length_append]; omega)
      have l3 := fun W => distance_any (s ++ x) (s ++ x) W (by rw [List.length_append]; omega) (by rw [List.length_append]; omega)
      rw [(lev_zero s s).mpr rfl] at l1
      rw [(lev_zero _ _).mpr rfl] at l2
      rw [(lev_zero _ _).mpr rfl] at l3
      have k1 := bs_app x s
      have k3 := bs_app s x
      have z1 : ¬ (9223372036854775807 < (bs x).size + (bs s).size) := by omega
      have z3 : ¬ (9223372036854775807 < (bs s).size + (bs x).size) := by omega

      go_wp2_with fail
      refine (hsb _).mono ?_
      rintro e w2 ⟨rfl, rfl⟩
      clear hsb
      go_wp2_with fail
      refine (l1 _).mono ?_
      rintro e w3 ⟨rfl, hB3⟩
      have hB4 := hB2.trans (hB3.mono hB2.size)
      clear hB3 hB2
      go_wp2_with fail
      refine (l2 _).mono ?_
      rintro e w4 ⟨rfl, hB5⟩
      have hB6 := hB4.trans (hB5.mono hB4.size)
      clear hB5 hB4
      go_wp2_with fail
      refine (l3 _).mono ?_
      rintro e w5 ⟨rfl, hB7⟩
      have HB := Lib.hid (hB6.trans (hB7.mono hB6.size))
      clear hB7 hB6
      go_wp2
      go_ret
      exact ⟨rfl, HB.out⟩

theorem one_law (a b : ByteArray) (n m c : Int) (w : World) (ha : a.size ≤ maxLen) (hb : b.size ≤ maxLen) (hn : -9223372036854775808 ≤ n ∧ n ≤ 9223372036854775807) (hm : -9223372036854775808 ≤ m ∧ m ≤ 9223372036854775807) (hc : 0 ≤ c ∧ c ≤ 255) :
    Calls Try.prog 7 #[.agg #[.string a, .string b], .agg #[.int .i64 n, .int .i64 m], .int .u8 c] w fun e w' => e = .returned (.bool true) ∧ Below w.heap.size w w' := by
  rw [← bs_of a, ← bs_of b]
  have := one_walk a.data.toList b.data.toList n m (UInt8.ofNat c.toNat) w (len_of a ha) (len_of b hb) hn.1 hn.2 hm.1 hm.2
  rw [show (((UInt8.ofNat c.toNat).toNat : Nat) : Int) = c from by rw [UInt8.toNat_ofNat']; omega] at this
  exact this

end Go.Proofs.Ytlfpfijhimngmaa.Edits

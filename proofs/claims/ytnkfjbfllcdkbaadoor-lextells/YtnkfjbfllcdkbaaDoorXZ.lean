/-
  Contract of the law's tells; the walk of LexTells.
-/
import Derived.Test.YtnkfjbfllcdkbaaDoorXY
namespace Go.Proofs.YtnkfjbfllcdkbaaDoor.Toks
open Go.RowKit Go.Shelf
open Go.Proofs.YtnkfjbfllcdkbaaDoor.Style
set_option linter.unusedVariables false
set_option linter.unusedSimpArgs false
attribute [local irreducible] toks lexErr lexAt lexToks lexL

theorem toks_le2 (n : Int) (s : List UInt8) : (toks n s).length ≤ s.length := by
  unfold toks
  rw [List.length_map]
  exact lex_len n s
theorem lexToks_le (n : Int) (s : List UInt8) : (lexToks n s).length ≤ s.length := by
  unfold lexToks
  split
  · exact toks_le2 n s
  · simp
theorem all_fld0 (a b : Value) (w : World) : (Instr.field 40 (.agg #[a, b]) 0).run Tryd.prog w = .ok a w := by kernel_rfl

set_option maxRecDepth 100000 in
set_option maxHeartbeats 4000000 in
theorem tells_any (n : Int) (s : List UInt8) (w : World) (hE : Env w) (hl : s.length ≤ 1000) :
    Calls Tryd.prog 7 #[.int .i64 n, .string (bs s)] w fun e w' => e = .returned (.bool true) ∧ Below w.heap.size w w' := by
  have hLx := fun W hW => (lex_any n s W hW hl).mono (fun e w' h => (⟨h.out, h.below⟩ : (∃ o c, e = .returned (.tuple #[.slice o (lexToks n s).length c, .int .i64 (lexAt n s : Int), .int .i64 (lexErr n s)]) ∧ ToksAt w' (.slice o (lexToks n s).length c) (lexToks n s) ∧ Above W.heap.size (.slice o (lexToks n s).length c)) ∧ Below W.heap.size W w'))
  have hRl := fun W => rlex_any n s W hl
  have hEc := fun W hW => (eachL_any n s W hW hl).mono (fun e w' h => (⟨h.out, h.below⟩ : (∃ o c, e = .returned (.slice o (toks n s).length c) ∧ ToksAt w' (.slice o (toks n s).length c) (toks n s) ∧ Above W.heap.size (.slice o (toks n s).length c)) ∧ Below W.heap.size W w'))
  have hRe := fun W => reach_any n s W hl
  have la := toks_le2 n s
  have lb := lexToks_le n s
  have hS1 := fun o1 o2 c1 c2 W h1 h2 => same_yes (lexToks n s) o1 o2 c1 c2 W h1 h2 (by omega)
  have hS2 := fun o1 o2 c1 c2 W h1 h2 => same_yes (toks n s) o1 o2 c1 c2 W h1 h2 (by omega)
  have hf0 := all_fld0
  generalize toks n s = T at *
  generalize lexToks n s = L at *
  generalize lexErr n s = er at *
  generalize lexAt n s = at0 at *
  generalize endL 0 (lexL n 0 s) = en at *
  go_enter Tryd.func7, Tryd.ntmps7
  go_wp2_with fail
  refine (hLx w hE).mono ?_
  rintro e w1 ⟨⟨o1, c1, rfl, hT1, _⟩, hb1⟩
  have hE1 := hE.go hb1
  clear hLx hE
  go_wp2_with fail
  refine (hRl w1).mono ?_
  rintro e w2 ⟨⟨o2, c2, rfl, hT2⟩, hb2⟩
  have hE2 := hE1.go hb2
  have hT12 := hT1.go hb2
  have hB2 := hb1.trans (hb2.mono hb1.size)
  clear hRl hE1 hT1 hb1 hb2
  have hu : Below w2.heap.size w2 (w2.alloc (.cells #[.slice o2 L.length c2, .int .i64 (at0 : Int), .int .i64 er] 35)) := (Below.refl _ _).alloc (Nat.le_refl _) _
  have hE3 := hE2.go hu
  have hT13 := hT12.go hu
  have hT23 := hT2.go hu
  have hB3 := hB2.trans (hu.mono hB2.size)
  have m0 : (w2.alloc (.cells #[.slice o2 L.length c2, .int .i64 (at0 : Int), .int .i64 er] 35)).cell? ⟨w2.heap.size, 0, none⟩ = some (.slice o2 L.length c2) := by simp [go_sem]
  have m1 : (w2.alloc (.cells #[.slice o2 L.length c2, .int .i64 (at0 : Int), .int .i64 er] 35)).cell? ⟨w2.heap.size, 1, none⟩ = some (.int .i64 (at0 : Int)) := by simp [go_sem]
  have m2 : (w2.alloc (.cells #[.slice o2 L.length c2, .int .i64 (at0 : Int), .int .i64 er] 35)).cell? ⟨w2.heap.size, 2, none⟩ = some (.int .i64 er) := by simp [go_sem]
  clear hE2 hT12 hT2 hB2 hu
  go_wp2_with fail
  generalize w2.alloc (.cells #[.slice o2 L.length c2, .int .i64 (at0 : Int), .int .i64 er] 35) = W3 at *
  refine (hS1 _ _ _ _ W3 hT13 hT23).mono ?_
  rintro e w4 ⟨rfl, hb4⟩
  have hE4 := hE3.go hb4
  have hB4 := hB3.trans (hb4.mono hB3.size)
  have n0 := (hb4.cell (p := ⟨w2.heap.size, 0, none⟩) (cell_lt m0)).trans m0
  have n1 := (hb4.cell (p := ⟨w2.heap.size, 1, none⟩) (cell_lt m0)).trans m1
  have n2 := (hb4.cell (p := ⟨w2.heap.size, 2, none⟩) (cell_lt m0)).trans m2
  clear m0 m1 m2 hE3 hB3 hS1 hT13 hT23 hb4
  go_wp2_with fail
  refine (hEc w4 hE4).mono ?_
  rintro e w5 ⟨⟨o5, c5, rfl, hT5, _⟩, hb5⟩
  have hB5 := hB4.trans (hb5.mono hB4.size)
  have m0 := (hb5.cell (p := ⟨w2.heap.size, 0, none⟩) (cell_lt n0)).trans n0
  have m1 := (hb5.cell (p := ⟨w2.heap.size, 1, none⟩) (cell_lt n0)).trans n1
  have m2 := (hb5.cell (p := ⟨w2.heap.size, 2, none⟩) (cell_lt n0)).trans n2
  clear n0 n1 n2 hE4 hB4 hEc hb5
  go_wp2_with fail
  refine (hRe w5).mono ?_
  rintro e w6 ⟨⟨o6, c6, rfl, hT6, _⟩, hb6⟩
  have hB6 := hB5.trans (hb6.mono hB5.size)
  have hT56 := hT5.go hb6
  have n0 := (hb6.cell (p := ⟨w2.heap.size, 0, none⟩) (cell_lt m0)).trans m0
  have n1 := (hb6.cell (p := ⟨w2.heap.size, 1, none⟩) (cell_lt m0)).trans m1
  have n2 := (hb6.cell (p := ⟨w2.heap.size, 2, none⟩) (cell_lt m0)).trans m2
  clear m0 m1 m2 hB5 hRe hb6 hT5
  go_wp2_with fail
  refine (hS2 _ _ _ _ w6 hT56 hT6).mono ?_
  rintro e w7 ⟨rfl, hb7⟩
  have hB7 := hB6.trans (hb7.mono hB6.size)
  have m0 := (hb7.cell (p := ⟨w2.heap.size, 0, none⟩) (cell_lt n0)).trans n0
  have m1 := (hb7.cell (p := ⟨w2.heap.size, 1, none⟩) (cell_lt n0)).trans n1
  have m2 := (hb7.cell (p := ⟨w2.heap.size, 2, none⟩) (cell_lt n0)).trans n2
  clear n0 n1 n2 hB6 hS2 hb7 hT56 hT6
  go_wp2_with fail
  go_ret
  exact ⟨rfl, hB7⟩

/-- A text, so many times. -/
def repL (s : List UInt8) : Nat → List UInt8
  | 0 => []
  | k + 1 => repL s k ++ s
theorem repL_length (s : List UInt8) : ∀ k, (repL s k).length = k * s.length
  | 0 => by simp [repL]
  | k + 1 => by simp only [repL, List.length_append, repL_length s k, Nat.add_mul, Nat.one_mul]
/-- The box of the law's texts. -/
structure QT (w W : World) (s0 t0 : List UInt8) : Prop where
  below : Below w.heap.size w W
  q0 : W.cell? ⟨w.heap.size, 0, none⟩ = some (.string (bs s0))
  q1 : W.cell? ⟨w.heap.size, 1, none⟩ = some (.string (bs t0))
  env : Env W
theorem QT.go {w W W' : World} {s0 t0 : List UInt8} (h : QT w W s0 t0) (hb : Below W.heap.size W W') : QT w W' s0 t0 :=
  ⟨h.below.trans (hb.mono h.below.size), (hb.cell (p := ⟨w.heap.size, 0, none⟩) (cell_lt h.q0)).trans h.q0, (hb.cell (p := ⟨w.heap.size, 1, none⟩) (cell_lt h.q0)).trans h.q1, h.env.go hb⟩
theorem bs_cat (a b : List UInt8) : bs a ++ bs b = bs (a ++ b) := by
  apply ByteArray.ext
  simp [bs, ByteArray.data_append]

set_option maxRecDepth 100000 in
set_option maxHeartbeats 4000000 in
theorem tells_walk (n often : Int) (s0 t0 : List UInt8) (w : World) (hE : Env w) (hs0 : s0.length ≤ 9223372036854775807) (ht0 : t0.length ≤ 9223372036854775807) :
    Calls Tryd.prog 3 #[.int .i64 n, .agg #[.string (bs s0), .string (bs t0)], .int .i64 often] w fun e w' => e = .returned (.bool true) ∧ Below w.heap.size w w' := by
  obtain ⟨u, hu0⟩ : ∃ u, s0.take 60 = u := ⟨_, rfl⟩
  obtain ⟨v, hv0⟩ : ∃ v, t0.take 60 = v := ⟨_, rfl⟩
  have lu : u.length ≤ 60 := by rw [← hu0, List.length_take]; omega
  have lv : v.length ≤ 60 := by rw [← hv0, List.length_take]; omega
  have hs1 := fun W => short_any s0 60 W hs0 (by omega)
  rw [hu0] at hs1
  have ht1 := fun W => short_any t0 60 W ht0 (by omega)
  rw [hv0] at ht1
  have hop := bs_cat u v
  obtain ⟨s, hs⟩ : ∃ s, u ++ v = s := ⟨_, rfl⟩
  have ls : s.length ≤ 120 := by rw [← hs, List.length_append]; omega
  rw [hs] at hop
  have HOP := Lib.hid hop
  clear hop hs hu0 hv0
  have zu : (bs u).size ≤ 60 := by rw [bs_size]; exact lu
  have zv : (bs v).size ≤ 60 := by rw [bs_size]; exact lv
  have hR6 := fun W => rest_any often 6 W (by omega) (by omega)
  have hr6 := restN_lt often 6 (by omega)
  generalize restN often 6 = r at hR6 hr6
  have hR8 := fun W => rest_any n 8 W (by omega) (by omega)
  have hr8 := restN_lt n 8 (by omega)
  generalize restN n 8 = k at hR8 hr8
  have hki : (k : Int) < 8 := by omega
  have hT1 := fun W hW => tells_any n s W hW (by omega)
  have hT2 := fun W hW => tells_any ((k : Int) - 1) s W hW (by omega)
  have hT3 := fun (j : Nat) (hj : j ≤ 6) W hW => tells_any ((k : Int) - 1) (repL s j) W hW (by rw [repL_length]; have := Nat.mul_le_mul hj ls; omega)
  have HC : Hid (∀ j, bs (repL s j) ++ bs s = bs (repL s (j + 1))) := fun j => bs_cat _ _
  have HZ : Hid (∀ j, j ≤ 6 → (bs (repL s j)).size + (bs s).size ≤ 1000) := by
    intro j hj
    rw [bs_size, bs_size, repL_length]
    have := Nat.mul_le_mul hj ls
    omega
  have hu : Below w.heap.size w (w.alloc (.cells #[.string (bs s0), .string (bs t0)] 22)) := by go_grown
  have hQ : QT w (w.alloc (.cells #[.string (bs s0), .string (bs t0)] 22)) s0 t0 := ⟨hu, by simp [go_sem], by simp [go_sem], hE.go hu⟩
  go_enter Tryd.func3, Tryd.ntmps3
  go_wp2_with fail
  generalize w.alloc (.cells #[.string (bs s0), .string (bs t0)] 22) = W0 at *
  refine (awake_yes W0 hQ.env).mono ?_
  rintro e w1 ⟨rfl, hb1⟩
  have hQ1 := hQ.go hb1
  have c0 := hQ1.q0
  have c1 := hQ1.q1
  clear hb1 hQ hu
  go_wp2_with fail
  go_quiet (first | (go_at_call_of 5 (Value.string (bs s0)); exact Calls.quiet_of_same ((hs1 _).mono fun e w' h => ⟨h.1, h.2.symm⟩)) | (go_at_call_of 5 (Value.string (bs t0)); exact Calls.quiet_of_same ((ht1 _).mono fun e w' h => ⟨h.1, h.2.symm⟩)))
  have hQ2 := hQ1.go (drawsN (Below.refl w1.heap.size w1) nq)
  generalize w1.drewN nq = W2 at *
  clear hs1 ht1 c0 c1 hQ1
  go_wp2_with fail
  rw [show bs u ++ bs v = bs s from HOP.out]
  clear HOP zu zv
  go_loopw [9, 10] (fun a b wr => ∃ i : Nat, a = .string (bs (repL s i)) ∧ b = .int .i64 (i : Int) ∧ i ≤ r + 1 ∧ W2 = wr) (fun _ b _ => ((r : Int) + 1 - intOf b).toNat)
  case atStart => exact ⟨0, rfl, rfl, by omega, rfl⟩
  case round =>
    obtain ⟨i, rfl, rfl, hi, rfl⟩ := hrel
    by_cases hir : i ≤ r
    · have hii : (i : Int) ≤ r := by omega
      have hcc := HC.out i
      have hzz := HZ.out i (by omega)
      have hci : (i : Int) ≤ 6 := by omega
      go_wp2_with fail
      refine (hR6 W2).mono ?_
      rintro e w3 ⟨rfl, rfl⟩
      go_wp2_with fail
      refine ⟨⟨i + 1, rfl, by simp, by omega, trivial⟩, by simp only [intOf]; omega⟩
    · have hii : ¬ (i : Int) ≤ r := by omega
      have hT3 := hT3 i (by omega)
      generalize repL s i = l at *
      clear HC HZ
      go_wp2_with fail
      refine (hR6 W2).mono ?_
      rintro e w3 ⟨rfl, rfl⟩
      clear hR6
      go_wp2_with fail
      refine (hT1 W2 hQ2.env).mono ?_
      rintro e w4 ⟨rfl, hb4⟩
      have hQ4 := hQ2.go hb4
      clear hT1 hQ2 hb4
      go_wp2_with fail
      refine (hR8 w4).mono ?_
      rintro e w5 ⟨rfl, rfl⟩
      go_wp2_with fail
      refine (hT2 w4 hQ4.env).mono ?_
      rintro e w5 ⟨rfl, hb5⟩
      have hQ5 := hQ4.go hb5
      clear hT2 hQ4 hb5
      go_wp2_with fail
      refine (hR8 w5).mono ?_
      rintro e w6 ⟨rfl, rfl⟩
      go_wp2_with fail
      refine (hT3 w5 hQ5.env).mono ?_
      rintro e w6 ⟨rfl, hb6⟩
      have hQ6 := hQ5.go hb6
      clear hT3 hQ5 hb6 hR8
      go_wp2_with fail
      go_ret
      exact ⟨rfl, hQ6.below⟩

theorem len_tt (s : ByteArray) (h : s.size ≤ maxLen) : s.data.toList.length ≤ 9223372036854775807 := by
  have : s.data.toList.length = s.size := by rw [Array.length_toList]; rfl
  have hm : maxLen ≤ 9223372036854775807 := by decide
  omega
theorem tells_law (n : Int) (s t : ByteArray) (often : Int) (w : World) (hE : Env w) (hn : -9223372036854775808 ≤ n ∧ n ≤ 9223372036854775807) (hs : s.size ≤ maxLen) (ht : t.size ≤ maxLen) (ho : -9223372036854775808 ≤ often ∧ often ≤ 9223372036854775807) :
    Calls Tryd.prog 3 #[.int .i64 n, .agg #[.string s, .string t], .int .i64 often] w fun e w' => e = .returned (.bool true) ∧ Below w.heap.size w w' := by
  have h := tells_walk n often s.data.toList t.data.toList w hE (len_tt s hs) (len_tt t ht)
  rw [bs_of, bs_of] at h
  exact h

end Go.Proofs.YtnkfjbfllcdkbaaDoor.Toks

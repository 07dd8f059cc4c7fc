/-
  Contracts of edit.Next, edit.Within, edit.Distance.
-/
import Derived.Test.YtlfpfijhimngmaaEB
import Derived.StillTailTactics
namespace Go.Proofs.Ytlfpfijhimngmaa.Edits
open Go.RowKit
set_option linter.unusedVariables false
set_option linter.unusedSimpArgs false

theorem Fill.row {w W : World} {b n : Nat} {v : Nat → Int} (h : Fill w b 0 n v W) (hi : ∀ j, w.frozen? ⟨b, j, none⟩ = false) : RowI W b n v :=
  ⟨h.inn, fun j => (h.ice j).trans (hi j), by have := h.lt; have := h.size; omega⟩

set_option maxHeartbeats 1000000 in
theorem next_none (s : List UInt8) (o : Option Addr) (n cr : Nat) (c : UInt8) (w : World) (hl : s.length ≤ 1000) (hn : n ≠ s.length + 1) (hn1 : n ≤ 9223372036854775807) :
    Calls Try.prog 18 #[.string (bs s), .slice o n cr, .int .u8 (c.toNat : Int)] w fun e w' => e = .returned (.slice none 0 0) ∧ w = w' := by
  have hz : (bs s).size = s.length := bs_size s
  have hb : ((n : Int) != (s.length : Int) + 1) = true := by rw [bne_iff_ne]; omega
  go_enter Try.func18, Try.ntmps18
  go_wp2
  go_ret
  exact ⟨rfl, rfl⟩

set_option maxHeartbeats 1000000 in
theorem next_any (s : List UInt8) (c : UInt8) (br or cr : Nat) (f : Nat → Int) (w : World) (hl : s.length ≤ 1000)
    (hr : Reads w br or (s.length + 1) f) (hf : ∀ j, j < s.length + 1 → 0 ≤ f j ∧ f j ≤ 100000000) :
    Calls Try.prog 18 #[.string (bs s), .slice (some ⟨br, or, none⟩) (s.length + 1) cr, .int .u8 (c.toNat : Int)] w fun e w' => e = .returned (.slice (some ⟨w.heap.size, 0, none⟩) (s.length + 1) (s.length + 1)) ∧ RowI w' w.heap.size (s.length + 1) (fillF (fun i => s.getD i 0) f c) ∧ Below w.heap.size w w' := by
  have hz : (bs s).size = s.length := bs_size s
  have hmk : ∀ W : World, (Instr.makeSlice 28 (.int .i64 ((s.length : Int) + 1)) (.int .i64 ((s.length : Int) + 1))).run Try.prog W = .ok (.slice (some ⟨W.heap.size, 0, none⟩) (s.length + 1) (s.length + 1)) (W.alloc (.cells (zeroRow (s.length + 1)) 3)) := fun W => make_row (s.length + 1) (by omega) W
  have h0 := RowI.zeros w 3 (s.length + 1) (zeroRow (s.length + 1)) (fun j hj => zeroRow_at _ j hj)
  have hb0 : Below w.heap.size w (w.alloc (.cells (zeroRow (s.length + 1)) 3)) := (Below.refl _ _).alloc (Nat.le_refl _) _
  have hlt := hr.lt (by omega)
  have hfill := fill_any s c w.heap.size 0 (s.length + 1) br or cr f (w.alloc (.cells (zeroRow (s.length + 1)) 3)) hl (hr.go hb0 hlt) (by omega) h0.lt (fun j hj => by rw [h0.cells j hj]; rfl) h0.open_ hf
  have HO := Lib.hid h0.open_
  have HB0 := Lib.hid hb0
  clear h0 hb0 hr hf
  go_enter Try.func18, Try.ntmps18
  go_wp2_with fail
  refine hfill.mono ?_
  rintro e w1 ⟨rfl, hF⟩
  have hR := hF.row HO.out
  have hB := HB0.out.trans (hF.below (Nat.le_refl _))
  have HR := Lib.hid hR
  have HB := Lib.hid hB
  clear hF hR hB hfill
  go_wp2
  go_ret
  exact ⟨rfl, HR.out, HB.out⟩

theorem max_if (m n : Nat) : (if m < n then (n : Int) else (m : Int)) = ((max m n : Nat) : Int) := by
  by_cases h : m < n
  · rw [if_pos h, Nat.max_eq_right (by omega)]
  · rw [if_neg h, Nat.max_eq_left (by omega)]
theorem min_if (m n : Nat) : (if n < m then (n : Int) else (m : Int)) = ((min m n : Nat) : Int) := by
  by_cases h : n < m
  · rw [if_pos h, Nat.min_eq_right (by omega)]
  · rw [if_neg h, Nat.min_eq_left (by omega)]

set_option maxHeartbeats 1000000 in
theorem within_off (a b : List UInt8) (k : Int) (w : World) (ha : a.length ≤ 200) (hb : b.length ≤ 200) (hk0 : -9223372036854775808 ≤ k) (hk1 : k ≤ 9223372036854775807) (hk : k < ((max a.length b.length : Nat) : Int) - ((min a.length b.length : Nat) : Int)) :
    Calls Try.prog 12 #[.string (bs a), .string (bs b), .int .i64 k] w fun e w' => e = .returned (.tuple #[.int .i64 0, .bool false]) ∧ Below w.heap.size w w' := by
  have hza : (bs a).size = a.length := bs_size a
  have hzb : (bs b).size = b.length := bs_size b
  have e1 := max_if a.length b.length
  have e2 := min_if a.length b.length
  have hM : max a.length b.length ≤ 200 := by omega
  have hN : min a.length b.length ≤ 200 := by omega
  generalize max a.length b.length = M at *
  generalize min a.length b.length = N at *
  go_enter Try.func12, Try.ntmps12
  go_wp2
  refine bodyPost_ret (v := .tuple #[.int .i64 0, .bool false]) (by simp [results, Try.results12, go_sem]) rfl ⟨rfl, Below.refl _ _⟩

/-- How far, within so many steps. -/
def WithinEnd (d k : Int) (e : Ending) : Prop := (d ≤ k ∧ e = .returned (.tuple #[.int .i64 d, .bool true])) ∨ (k < d ∧ e = .returned (.tuple #[.int .i64 0, .bool false]))

/-- While rows go on. -/
structure WithI (w : World) (b a : List UInt8) (K s p q : Nat) (f g : Nat → Int) (W : World) : Prop where
  row : RowI W p (b.length + 1) f
  next : RowI W q (b.length + 1) g
  ne : p ≠ q
  lp : w.heap.size ≤ p
  lq : w.heap.size ≤ q
  band : Band b a K s f g
  below : Below w.heap.size w W

theorem WithI.go {w : World} {b a : List UInt8} {K s p q : Nat} {f g : Nat → Int} {W V : World} (h : WithI w b a K s p q f g W) (hb : Below W.heap.size W V) : WithI w b a K s p q f g V :=
  ⟨h.row.go hb, h.next.go hb, h.ne, h.lp, h.lq, h.band, h.below.trans (hb.mono h.below.size)⟩
theorem fill_row {W V : World} {b o m n : Nat} {v g : Nat → Int} (h : Fill W b o m v V) (hg : RowI W b n g) (hm : o + m ≤ n) : RowI V b n (fun i => if o ≤ i ∧ i < o + m then v (i - o) else g i) := by
  refine ⟨fun j hj => ?_, fun j => (h.ice j).trans (hg.open_ j), by have := h.lt; have := h.size; omega⟩
  rw [Nat.zero_add]
  show _ = some (Value.int .i64 (if o ≤ j ∧ j < o + m then v (j - o) else g j))
  by_cases hc : o ≤ j ∧ j < o + m
  · rw [if_pos hc]
    have := h.inn (j - o) (by omega)
    rwa [Nat.add_sub_cancel' hc.1] at this
  · rw [if_neg hc, h.out j (by omega), hg.cell j hj]
theorem from_le {K s n m : Nat} (hs : s < m) (hm : m ≤ n + K) : fromN K s ≤ toN n K s := by unfold fromN toN; omega
theorem fill_with {w : World} {b a : List UInt8} {K s p q : Nat} {f g : Nat → Int} {W V : World} (h : WithI w b a K s p q f g W) (hs : s < a.length) (hm : a.length ≤ b.length + K)
    (hF : Fill W q (fromN K s) (toN b.length K s - fromN K s + 1) (fillF (fun i => ((b.take (toN b.length K s)).drop (fromN K s)).getD i 0) (fun j => f (fromN K s + j)) (a.getD s 0)) V) :
    WithI w b a K (s + 1) q p (stepF b K s f g (a.getD s 0)) f V := by
  have hle := from_le (n := b.length) hs hm
  have hT : toN b.length K s ≤ b.length := by unfold toN; omega
  have hb : Below w.heap.size w V := h.below.trans (hF.below h.lq)
  refine ⟨(fill_row hF h.next (by omega)).ext fun i hi => ?_, h.row.block hF.size (hF.block p h.row.lt h.ne), h.ne.symm, h.lq, h.lp, h.band.step hs, hb⟩
  unfold stepF
  by_cases hc : fromN K s ≤ i ∧ i ≤ toN b.length K s
  · rw [if_pos hc, if_pos ⟨hc.1, by omega⟩]
    refine fillF_ext _ _ (fun j hj => ?_) fun j hj => rfl
    rw [List.getD_eq_getElem?_getD, List.getD_eq_getElem?_getD, List.getElem?_drop, List.getElem?_take_of_lt (by omega)]
  · rw [if_neg hc, if_neg (by omega)]

theorem with_call {w : World} {b a : List UInt8} {K s p q : Nat} {f g : Nat → Int} {W : World} (h : WithI w b a K s p q f g W) (ha : a.length ≤ 200) (hb : b.length ≤ 200) (hs : s < a.length) (hm : a.length ≤ b.length + K) (F T L cn cr : Nat) (hF : fromN K s = F) (hT : toN b.length K s = T) (hL : L = T - F + 1) :
    Calls Try.prog 20 #[.slice (some ⟨q, F, none⟩) L cn, .slice (some ⟨p, F, none⟩) L cr, .string (bs ((b.take T).drop F)), .int .u8 ((a.getD s 0).toNat : Int)] W fun e w' => e = .returned (.tuple #[]) ∧ WithI w b a K (s + 1) q p (stepF b K s f g (a.getD s 0)) f w' := by
  subst hF hT hL
  have hle := from_le (n := b.length) hs hm
  have hT : toN b.length K s ≤ b.length := by unfold toN; omega
  have hlen : ((b.take (toN b.length K s)).drop (fromN K s)).length = toN b.length K s - fromN K s := by rw [List.length_drop, List.length_take]; omega
  have hr : Reads W p (fromN K s) (toN b.length K s - fromN K s + 1) (fun j => f (fromN K s + j)) := by
    have := h.row.cells.part (fromN K s) (toN b.length K s - fromN K s + 1) (by omega)
    rwa [Nat.zero_add] at this
  have := fill_any ((b.take (toN b.length K s)).drop (fromN K s)) (a.getD s 0) q (fromN K s) cn p (fromN K s) cr (fun j => f (fromN K s + j)) W (by rw [hlen]; omega) (by rw [hlen]; exact hr) h.ne h.next.lt
    (fun j hj => by rw [hlen] at hj; rw [h.next.cell _ (by omega)]; rfl) h.next.open_ (fun j hj => by
      rw [hlen] at hj
      have := h.band.fb (fromN K s + j) (by omega)
      omega)
  rw [hlen] at this
  refine this.mono ?_
  rintro e w' ⟨rfl, hF⟩
  exact ⟨rfl, fill_with h hs hm hF⟩
theorem with_least {w : World} {b a : List UInt8} {K s p q : Nat} {f g : Nat → Int} {W : World} (h : WithI w b a K (s + 1) q p f g W) (hb : b.length ≤ 200) (hs : s < a.length) (hm : a.length ≤ b.length + K) (F T L c : Nat) (hF : fromN K s = F) (hT : toN b.length K s = T) (hL : L = T - F + 1) (hc : L ≤ c) (hc1 : c ≤ 9223372036854775807) :
    Calls Try.prog 17 #[.slice (some ⟨q, F, none⟩) L c] W fun e w' => e = .returned (.int .i64 (minF (fun j => f (F + j)) (T - F))) ∧ W = w' := by
  subst hF hT hL
  have hle := from_le (n := b.length) hs hm
  have hT : toN b.length K s ≤ b.length := by unfold toN; omega
  have hr : Reads W q (fromN K s) (toN b.length K s - fromN K s + 1) (fun j => f (fromN K s + j)) := by
    have := h.row.cells.part (fromN K s) (toN b.length K s - fromN K s + 1) (by omega)
    rwa [Nat.zero_add] at this
  exact Least_any q (fromN K s) (toN b.length K s - fromN K s) c _ W hr (by omega) hc hc1
theorem with_far {w : World} {b a : List UInt8} {K s p q : Nat} {f g : Nat → Int} {W : World} (h : WithI w b a K s p q f g W) (hs : s < a.length) (F T : Nat) (hF : fromN K s = F) (hT : toN b.length K s = T)
    (hk : (K : Int) < minF (fun j => stepF b K s f g (a.getD s 0) (F + j)) (T - F)) : (K : Int) < ((lev a b : Nat) : Int) := by
  subst hF hT
  refine h.band.far hs fun i h1 h2 => ?_
  have := minF_le (fun j => stepF b K s f g (a.getD s 0) (fromN K s + j)) (toN b.length K s - fromN K s) (i - fromN K s) (by omega)
  simp only [Nat.add_sub_cancel' h1] at this
  omega

set_option maxRecDepth 100000 in
set_option maxHeartbeats 1000000 in
theorem within_on (a b : List UInt8) (k : Int) (K : Nat) (w : World) (ha : a.length ≤ 200) (hb : b.length ≤ 200) (hk0 : 0 ≤ k) (hk1 : k ≤ 9223372036854775807) (hK : (K : Int) = min k ((max a.length b.length : Nat) : Int)) (hk : ((max a.length b.length : Nat) : Int) - ((min a.length b.length : Nat) : Int) ≤ k) :
    Calls Try.prog 12 #[.string (bs a), .string (bs b), .int .i64 k] w fun e w' => WithinEnd ((lev a b : Nat) : Int) (K : Int) e ∧ Below w.heap.size w w' := by
  have hza : (bs a).size = a.length := bs_size a
  have hzb : (bs b).size = b.length := bs_size b
  have hst := fun W => start_any b W (by omega)
  have hmk : a.length ≤ b.length + K := by omega
  have e1 := max_if a.length b.length
  have e2 := min_if a.length b.length
  have hM : max a.length b.length ≤ 200 := by omega
  have hN : min a.length b.length ≤ 200 := by omega
  generalize max a.length b.length = M at *
  generalize min a.length b.length = N at *
  have e3 : (if (M : Int) < k then (M : Int) else k) = (K : Int) := (go_min (M : Int) k).trans hK.symm
  have hK2 : (K : Int) ≤ 200 := by omega
  have hk2 : ¬ (k < (M : Int) - (N : Int)) := by omega
  clear hK hk
  go_enter Try.func12, Try.ntmps12
  go_wp2_with fail
  refine (hst _).mono ?_
  rintro e w1 ⟨rfl, hR1, hB1⟩
  have hz1 := hR1.lt
  go_wp2_with fail
  refine (hst _).mono ?_
  rintro e w2 ⟨rfl, hR2, hB2⟩
  have hR1' := hR1.go hB2
  have hB := hB1.trans (hB2.mono hB1.size)
  have HB := Lib.hid hB
  have HR1 := Lib.hid hR1'
  have HR2 := Lib.hid hR2
  have hne : w.heap.size ≠ w1.heap.size := by omega
  have hle : w.heap.size ≤ w1.heap.size := by omega
  clear hR1 hR1' hR2 hB hB1 hB2 hst e1 e2 e3
  go_wp2
  go_loopw [10, 11, 40] (fun x y z wr => ∃ (s p q : Nat) (f g : Nat → Int), x = .slice (some ⟨p, 0, none⟩) (b.length + 1) (b.length + 1) ∧ y = .slice (some ⟨q, 0, none⟩) (b.length + 1) (b.length + 1) ∧ z = .int .i64 (s : Int) ∧ s ≤ a.length ∧ WithI w b a K s p q f g wr) (fun _ _ x _ => ((a.length : Int) - intOf x).toNat)
  case atStart => exact ⟨0, _, _, _, _, rfl, rfl, rfl, by omega, ⟨HR1.out, HR2.out, hne, Nat.le_refl _, hle, Band.start b a K, HB.out⟩⟩
  case round =>
    obtain ⟨s, p, q, f, g, rfl, rfl, rfl, hs, hI⟩ := hrel
    clear HR1 HR2 HB hne hle
    by_cases hsl : s < a.length
    · have hsi : (s : Int) < (a.length : Int) := by omega
      have hsb : s < (bs a).size := by omega
      have hby := bs_at a s hsb
      have hle := from_le (n := b.length) hsl hmk
      have hTn : toN b.length K s ≤ b.length := by unfold toN; omega
      obtain ⟨F, hF⟩ : ∃ F, fromN K s = F := ⟨_, rfl⟩
      obtain ⟨T, hT⟩ : ∃ T, toN b.length K s = T := ⟨_, rfl⟩
      have eF : (if K < s then (s : Int) - (K : Int) else 0) = (F : Int) := by rw [← hF]; unfold fromN; split <;> omega
      have eT : (if (s : Int) + 1 + (K : Int) < (b.length : Int) then (s : Int) + 1 + (K : Int) else (b.length : Int)) = (T : Int) := by rw [← hT]; unfold toN; split <;> omega
      rw [hF, hT] at hle
      rw [hT] at hTn
      have hcall := fun (W : World) (h : WithI w b a K s p q f g W) (L cn cr : Nat) (hL : L = T - F + 1) => with_call h ha hb hsl hmk F T L cn cr hF hT hL
      have hfar := with_far hI hsl F T hF hT
      have hleast := fun (W : World) (h : WithI w b a K (s + 1) q p (stepF b K s f g (a.getD s 0)) f W) (L c : Nat) (hL : L = T - F + 1) (hc : L ≤ c) (hc1 : c ≤ 9223372036854775807) => with_least h hb hsl hmk F T L c hF hT hL hc hc1
      generalize a.getD s 0 = ch at *
      have hext := bs_extract b F T
      have HC := Lib.hid hcall
      have HL := Lib.hid hleast
      have HFAR := Lib.hid hfar
      clear hcall hleast hfar hF hT
      have z1 : (F : Int) ≤ (T : Int) + 1 := by omega
      have z2 : (T : Int) + 1 ≤ (b.length : Int) + 1 := by omega
      have z3 : (F : Int) ≤ (T : Int) := by omega
      have z4 : (T : Int) ≤ (b.length : Int) := by omega
      have z5 : (0 : Int) ≤ (F : Int) := by omega
      have z6 : F ≤ T + 1 := by omega
      have z7 : T + 1 ≤ b.length + 1 := by omega
      have z8 : ¬ F = b.length + 1 := by omega
      have z9 : IntKind.i64.wrap ((T : Int) + 1) = (T : Int) + 1 := by rw [IntKind.wrap_i64]; omega
      go_upto_region 10 with fail
      go_still_tail 17, (by kernel_rfl)
      have hI2 : WithI w b a K s p q f g wr.drew := hI.go ((Below.refl _ _).drew)
      change wpList _ _ _ _ _ wr.drew
      generalize wr.drew = W2 at *
      go_wp2_with fail
      refine (HC.out _ hI2 _ _ _ (by omega)).mono ?_
      rintro e W3 ⟨rfl, hI3⟩
      clear hI hI2 HC eF eT hext hby
      go_wp2_with fail
      refine (HL.out _ hI3 _ _ (by omega) (by omega) (by omega)).mono ?_
      rintro e W4 ⟨rfl, rfl⟩
      clear HL
      have HI3 := Lib.hid hI3
      clear hI3
      by_cases hkm : (K : Int) < minF (fun j => stepF b K s f g ch (F + j)) (T - F)
      · have hd := HFAR.out hkm
        have HD := Lib.hid hd
        generalize minF (fun j => stepF b K s f g ch (F + j)) (T - F) = mf at *
        clear HFAR hd
        go_wp2
        refine bodyPost_ret (v := .tuple #[.int .i64 0, .bool false]) (by simp [results, Try.results12, go_sem]) rfl ⟨?_, HI3.out.below⟩
        exact .inr ⟨HD.out, rfl⟩
      · generalize minF (fun j => stepF b K s f g ch (F + j)) (T - F) = mf at *
        clear HFAR
        go_wp2
        go_roundw
        case rel => exact ⟨s + 1, q, p, stepF b K s f g ch, f, rfl, rfl, rfl, by omega, HI3.out⟩
        case measure => simp only [intOf]; omega
    · have hsi : ¬ (s : Int) < (a.length : Int) := by omega
      have hse : s = a.length := by omega
      subst hse
      have hcell := hI.row.cell b.length (by omega)
      have hdone := hI.band.done hmk
      have hBel := Lib.hid hI.below
      have HDONE := Lib.hid hdone
      clear hI hdone
      generalize f b.length = far at *
      by_cases hfk : far ≤ (K : Int)
      · go_wp2
        refine bodyPost_ret (v := .tuple #[.int .i64 far, .bool true]) (by simp [results, Try.results12, go_sem]) rfl ⟨?_, hBel.out⟩
        have := HDONE.out
        exact .inl ⟨by omega, by rw [show far = ((lev a b : Nat) : Int) from by omega]⟩
      · go_wp2
        refine bodyPost_ret (v := .tuple #[.int .i64 0, .bool false]) (by simp [results, Try.results12, go_sem]) rfl ⟨?_, hBel.out⟩
        have := HDONE.out
        exact .inr ⟨by omega, rfl⟩

/-- Whether it is within k steps, whichever k. -/
theorem within_any (a b : List UInt8) (k : Int) (w : World) (ha : a.length ≤ 200) (hb : b.length ≤ 200) (hk0 : -9223372036854775808 ≤ k) (hk1 : k ≤ 9223372036854775807) :
    Calls Try.prog 12 #[.string (bs a), .string (bs b), .int .i64 k] w fun e w' => WithinEnd ((lev a b : Nat) : Int) k e ∧ Below w.heap.size w w' := by
  have hg := lev_gap a b
  have hh := lev_high a b
  by_cases hk : k < ((max a.length b.length : Nat) : Int) - ((min a.length b.length : Nat) : Int)
  · refine (within_off a b k w ha hb hk0 hk1 hk).mono ?_
    rintro e w' ⟨rfl, hB⟩
    exact ⟨.inr ⟨by omega, rfl⟩, hB⟩
  · obtain ⟨K, hK⟩ : ∃ K : Nat, (K : Int) = min k ((max a.length b.length : Nat) : Int) := ⟨(min k ((max a.length b.length : Nat) : Int)).toNat, by omega⟩
    refine (within_on a b k K w ha hb (by omega) hk1 hK (by omega)).mono ?_
    rintro e w' ⟨h, hB⟩
    refine ⟨?_, hB⟩
    rcases h with ⟨h1, h2⟩ | ⟨h1, h2⟩
    · exact .inl ⟨by omega, h2⟩
    · exact .inr ⟨by omega, h2⟩

set_option maxRecDepth 100000 in
set_option maxHeartbeats 1000000 in
theorem distance_any (a b : List UInt8) (w : World) (ha : a.length ≤ 200) (hb : b.length ≤ 200) :
    Calls Try.prog 13 #[.string (bs a), .string (bs b)] w fun e w' => e = .returned (.int .i64 ((lev a b : Nat) : Int)) ∧ Below w.heap.size w w' := by
  have hW := fun (k : Int) (h0 : 0 ≤ k) (h1 : k ≤ 100000) (W : World) => within_any a b k W ha hb (by omega) (by omega)
  have hh : ((lev a b : Nat) : Int) ≤ 200 := by have := lev_high a b; omega
  have HW := Lib.hid hW
  clear hW
  obtain ⟨d, hd⟩ : ∃ d : Int, ((lev a b : Nat) : Int) = d := ⟨_, rfl⟩
  rw [hd] at HW hh ⊢
  clear hd ha hb
  go_enter Try.func13, Try.ntmps13
  go_wp2
  go_loopw [5] (fun x wr => ∃ k : Int, x = .int .i64 k ∧ 1 ≤ k ∧ k ≤ 400 ∧ (k < 2 * d ∨ k = 1) ∧ Below w.heap.size w wr) (fun x _ => (1000 - intOf x).toNat)
  case atStart => exact ⟨1, rfl, by omega, by omega, .inr rfl, Below.refl _ _⟩
  case round =>
    obtain ⟨k, rfl, hk1, hk2, hk3, hB⟩ := hrel
    have hcall := HW.out k (by omega) (by omega) wr
    go_wp2_with fail
    refine hcall.mono ?_
    rintro e w1 ⟨h, hB1⟩
    have HB := Lib.hid (hB.trans (hB1.mono hB.size))
    clear hB hB1 hcall
    rcases h with ⟨h1, rfl⟩ | ⟨h1, rfl⟩
    · clear hk3
      go_wp2
      go_ret
      exact ⟨rfl, HB.out⟩
    · have hk4 : k * 2 < 2 * d := by omega
      clear hk3
      go_wp2
      go_roundw
      case rel => exact ⟨k * 2, rfl, by omega, by omega, .inl hk4, HB.out⟩
      case measure => simp only [intOf]; omega

end Go.Proofs.Ytlfpfijhimngmaa.Edits

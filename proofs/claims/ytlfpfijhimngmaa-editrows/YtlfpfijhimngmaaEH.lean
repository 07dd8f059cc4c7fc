/-
  drachmlaw16.EditAny.
-/
import Derived.Test.YtlfpfijhimngmaaEG
import Derived.Test.YtlfpfijhimngmaaEE
import Derived.Laws.BitsAllLaws
import Derived.Laws.BitsLemmas
import Derived.Deep.CutBlock
namespace Go.Proofs.Ytlfpfijhimngmaa.Edits
open Go.RowKit Go.Shelf
set_option linter.unusedVariables false
set_option linter.unusedSimpArgs false

/-- What a row of any numbers becomes. -/
def nextI (s : List UInt8) (R : List Int) (c : UInt8) : List Int :=
  if R.length = s.length + 1 then listF (fillF (fun i => s.getD i 0) (fun i => R.getD i 0) c) (s.length + 1) else []
theorem enext_v (s : List UInt8) (R : List Int) (c : UInt8) (sv : Value) (w : World) (hV : NV w sv R) (hl : s.length ≤ 100) (hR : ∀ j, j < R.length → 0 ≤ R.getD j 0 ∧ R.getD j 0 ≤ 100000000) (hRl : R.length ≤ 1000) :
    Calls Try.prog 18 #[.string (bs s), sv, .int .u8 (c.toNat : Int)] w (NVEnd w (nextI s R c)) := by
  by_cases h : R.length = s.length + 1
  · obtain ⟨b, off, cc, rfl, hc, hr⟩ := hV.reads (by omega)
    unfold nextI
    rw [if_pos h]
    rw [h] at hr hR ⊢
    refine (next_any s c b off cc _ w (by omega) hr hR).mono ?_
    rintro e w' ⟨rfl, hRow, hB⟩
    exact ⟨_, rfl, NV.of_reads hRow.cells (Nat.le_refl _), hB⟩
  · obtain ⟨o, cc, rfl, hc, hr⟩ := hV
    unfold nextI
    rw [if_neg h]
    refine (next_none s o R.length cc c w (by omega) h (by omega)).mono ?_
    rintro e w' ⟨rfl, rfl⟩
    exact ⟨_, rfl, NV.nil _, Below.refl _ _⟩
theorem rnext_v (s : List UInt8) (R : List Int) (c : UInt8) (sv : Value) (w : World) (hV : NV w sv R) (hl : s.length ≤ 100) (hR : ∀ j, j < R.length → 0 ≤ R.getD j 0 ∧ R.getD j 0 ≤ 100000000) (hRl : R.length ≤ 1000) :
    Calls Try.prog 19 #[.string (bs s), sv, .int .u8 (c.toNat : Int)] w (NVEnd w (nextI s R c)) := by
  by_cases h : R.length = s.length + 1
  · obtain ⟨b, off, cc, rfl, hc, hr⟩ := hV.reads (by omega)
    unfold nextI
    rw [if_pos h]
    rw [h] at hr hR ⊢
    exact rnext_any s c b off cc _ w (by omega) hr hR
  · obtain ⟨o, cc, rfl, hc, hr⟩ := hV
    unfold nextI
    rw [if_neg h]
    refine (rnext_none s o R.length cc c w (by omega) h (by omega)).mono ?_
    rintro e w' ⟨rfl, rfl⟩
    exact ⟨_, rfl, NV.nil _, Below.refl _ _⟩
theorem nextI_len (s : List UInt8) (R : List Int) (c : UInt8) (hl : s.length ≤ 100) : (nextI s R c).length ≤ 1000 := by
  unfold nextI
  split
  · rw [listF_len]; omega
  · simp

/-- The value s is a slice that reads as these numbers, each of them an int. -/
def IV (w : World) (s : Value) (l : List Int) : Prop :=
  ∃ o c, s = .slice o l.length c ∧ l.length ≤ c ∧ ∀ i, i < l.length → ∃ b off, o = some ⟨b, off, none⟩ ∧ w.cell? ⟨b, off + i, none⟩ = some (.int .i64 (l.getD i 0)) ∧ -9223372036854775808 ≤ l.getD i 0 ∧ l.getD i 0 ≤ 9223372036854775807
theorem IV.go {w w' : World} {s : Value} {l : List Int} (h : IV w s l) (hb : Below w.heap.size w w') : IV w' s l := by
  obtain ⟨o, c, e, hc, h⟩ := h
  refine ⟨o, c, e, hc, fun i hi => ?_⟩
  obtain ⟨b, off, eo, h0, h1⟩ := h i hi
  exact ⟨b, off, eo, (hb.cell (p := ⟨b, _, none⟩) (cell_lt h0)).trans h0, h1⟩

/-- Numbers from 0 on. -/
def LowR (R : List Int) : Prop := ∀ j, j < R.length → 0 ≤ R.getD j 0 ∧ R.getD j 0 ≤ 1048575
theorem LowR.more {R : List Int} (h : LowR R) (x : Int) (h0 : 0 ≤ x) (h1 : x ≤ 1048575) : LowR (R ++ [x]) := by
  intro j hj
  rw [List.length_append, List.length_singleton] at hj
  by_cases e : j < R.length
  · rw [List.getD_eq_getElem?_getD, List.getElem?_append_left e, ← List.getD_eq_getElem?_getD]; exact h j e
  · have : j = R.length := by omega
    subst this
    rw [List.getD_eq_getElem?_getD, List.getElem?_append_right (Nat.le_refl _), Nat.sub_self]
    exact ⟨h0, h1⟩
/-- The law's row: k numbers. -/
structure AnyI (w0 : World) (o : Option Addr) (k c : Nat) (R : List Int) (W : World) : Prop where
  grow : GrowN w0 (.slice o k c) R W
  low : LowR R
  len : R.length = k
theorem AnyI.go {w0 W V : World} {o : Option Addr} {k c : Nat} {R : List Int} (h : AnyI w0 o k c R W) (hb : Below W.heap.size W V) : AnyI w0 o k c R V := ⟨h.grow.go hb, h.low, h.len⟩
theorem wrap_low (n : Nat) (h : n ≤ 1048575) : IntKind.i64.wrap (n : Int) = (n : Int) := by rw [IntKind.wrap_i64]; omega
theorem and_low (x : Int) : 0 ≤ bits .and .i64 x 1048575 ∧ bits .and .i64 x 1048575 ≤ 1048575 := by
  have h : (BitVec.ofInt 64 x &&& BitVec.ofInt 64 1048575).toNat ≤ 1048575 := by
    rw [BitVec.toNat_and]
    exact Nat.le_trans Nat.and_le_right (by decide)
  have e : bits .and .i64 x 1048575 = IntKind.i64.wrap ((BitVec.ofInt 64 x &&& BitVec.ofInt 64 1048575).toNat : Int) := rfl
  rw [e, wrap_low _ h]
  omega

/-- The first m numbers of R, and noughts. -/
def upR (R : List Int) (m : Nat) : Nat → Int := fun j => if j < m then R.getD j 0 else 0
theorem upR_put (R : List Int) (m j : Nat) : putF (upR R m) m (R.getD m 0) j = upR R (m + 1) j := by
  unfold putF upR
  by_cases e : j = m
  · subst e; rw [if_pos rfl, if_pos (by omega)]
  · rw [if_neg e]
    by_cases h : j < m
    · rw [if_pos h, if_pos (by omega)]
    · rw [if_neg h, if_neg (by omega)]
theorem upR_low {R : List Int} (h : LowR R) (m : Nat) (hm : m ≤ R.length) (n : Nat) : ∀ j, j < (listF (upR R m) n).length → 0 ≤ (listF (upR R m) n).getD j 0 ∧ (listF (upR R m) n).getD j 0 ≤ 100000000 := by
  intro j hj
  rw [listF_len] at hj
  rw [listF_at _ _ _ hj]
  unfold upR
  by_cases e : j < m
  · rw [if_pos e]; have := h j (by omega); omega
  · rw [if_neg e]; omega
/-- Both rows, filled up to the place m. -/
structure FullI (w0 : World) (o : Option Addr) (k c n b1 b2 : Nat) (R : List Int) (m : Nat) (W : World) : Prop where
  any : AnyI w0 o k c R W
  r1 : RowI W b1 n (upR R m)
  r2 : RowI W b2 n (upR R m)
  hm : m ≤ k

set_option maxRecDepth 100000 in
set_option maxHeartbeats 2000000 in
theorem any_walk (a : List UInt8) (sv : Value) (l : List Int) (c : UInt8) (w : World) (ha : a.length ≤ 9223372036854775807) (hV : IV w sv l) (hll : l.length ≤ 9223372036854775807) :
    Calls Try.prog 5 #[.string (bs a), sv, .int .u8 (c.toNat : Int)] w fun e w' => e = .returned (.bool true) ∧ Below w.heap.size w w' := by
  have hsa := fun W => short_any a W ha
  have la : (a.take 24).length ≤ 24 := by rw [List.length_take]; omega
  generalize a.take 24 = s at *
  clear ha
  have hzs : (bs s).size = s.length := bs_size s
  obtain ⟨o, cl, rfl, hcl, hv⟩ := hV
  go_enter Try.func5, Try.ntmps5
  go_wp2_with fail
  refine (awake_yes _).mono ?_
  rintro e w1 ⟨rfl, hB1⟩
  go_wp2_with fail
  refine (hsa _).mono ?_
  rintro e w2 ⟨rfl, rfl⟩
  clear hsa
  have hgn : AnyI w none 0 0 [] w1 := ⟨⟨.inl ⟨rfl, rfl⟩, fun a n c e => (by cases e), hB1⟩, fun j hj => absurd hj (Nat.not_lt_zero j), rfl⟩
  have HV := Lib.hid hv
  have HGN := Lib.hid hgn
  clear hv hB1 hgn
  go_upto_block 0 with fail
  go_cut [8] from 9 (fun x wx => ∃ (o1 : Option Addr) (k c1 : Nat) (R : List Int), x = .slice o1 k c1 ∧ AnyI w o1 k c1 R wx ∧ k ≤ 30)
  case first =>
    go_wp2
    go_loopw [8, 9] (fun x y wr => ∃ (o1 : Option Addr) (k c1 : Nat) (R : List Int), x = .slice o1 k c1 ∧ y = .int .i64 (k : Int) ∧ AnyI w o1 k c1 R wr ∧ k ≤ 30) (fun _ y _ => ((30 : Int) - intOf y).toNat)
    case atStart => exact ⟨_, _, _, _, rfl, rfl, HGN.out, by omega⟩
    case round =>
      obtain ⟨o1, k, c1, R, rfl, rfl, hI, hk⟩ := hrel
      clear HGN
      by_cases h1 : k < l.length
      · have h1i : (k : Int) < (l.length : Int) := by omega
        by_cases h2 : k < 30
        · have h2i : (k : Int) < 30 := by omega
          obtain ⟨b, off, rfl, hc, hc0, hc1⟩ := HV.out k h1
          have hcr := (hI.grow.below.cell (p := ⟨b, off + k, none⟩) (cell_lt hc)).trans hc
          have hbi := and_low (l.getD k 0)
          generalize l.getD k 0 = x at *
          obtain ⟨V, o2, c2, happ, hG2, _⟩ := hI.grow.more (by rw [hI.len]; omega) (bits .and .i64 x 1048575) wr.heap.size ((Below.refl _ _).alloc (Nat.le_refl _) _) (num_one wr _)
          have hI2 : AnyI w o2 (k + 1) c2 (R ++ [bits .and .i64 x 1048575]) V := ⟨hG2, hI.low.more _ hbi.1 hbi.2, by rw [List.length_append, hI.len]; rfl⟩
          have HI2 := Lib.hid hI2
          clear hI hI2 hG2 hbi hc
          go_wp2_with (first | (at_builtin; refine wpList_app rfl _ _ 28 28 rfl happ ?_) | fail)
          go_roundw
          case rel => exact ⟨o2, k + 1, c2, _, rfl, rfl, HI2.out, by omega⟩
          case measure => simp only [intOf]; omega
        · have h2i : ¬ (k : Int) < 30 := by omega
          go_wp2_with fail
          go_meet
          case rel => exact ⟨o1, k, c1, R, rfl, hI, hk⟩
      · have h1i : ¬ (k : Int) < (l.length : Int) := by omega
        go_wp2_with fail
        go_meet
        case rel => exact ⟨o1, k, c1, R, rfl, hI, hk⟩
  case rest =>
    obtain ⟨o1, k, c1, R, rfl, hI, hk⟩ := hcut
    clear HGN
    have hmk : ∀ W : World, (Instr.makeSlice 28 (.int .i64 ((s.length : Int) + 1)) (.int .i64 ((s.length : Int) + 1))).run Try.prog W = .ok (.slice (some ⟨W.heap.size, 0, none⟩) (s.length + 1) (s.length + 1)) (W.alloc (.cells (zeroRow (s.length + 1)) 3)) := fun W => make_row (s.length + 1) (by omega) W
    obtain ⟨W2, hW2⟩ : ∃ W2, (wc.alloc (.cells (zeroRow (s.length + 1)) 3)).alloc (.cells (zeroRow (s.length + 1)) 3) = W2 := ⟨_, rfl⟩
    have hz1 : (wc.alloc (.cells (zeroRow (s.length + 1)) 3)).heap.size = wc.heap.size + 1 := World.size_alloc _ _
    have hb2 : Below wc.heap.size wc W2 := by rw [← hW2]; exact ((Below.refl _ _).alloc (Nat.le_refl _) _).alloc (by omega) _
    have hr1 : RowI W2 wc.heap.size (s.length + 1) (upR R 0) := by
      rw [← hW2]
      exact (RowI.alloc (RowI.zeros wc 3 (s.length + 1) (zeroRow (s.length + 1)) (fun j hj => zeroRow_at _ j hj)) _).ext fun j _ => rfl
    have hr2 : RowI W2 (wc.heap.size + 1) (s.length + 1) (upR R 0) := by
      rw [← hW2, ← hz1]
      exact (RowI.zeros _ 3 (s.length + 1) (zeroRow (s.length + 1)) (fun j hj => zeroRow_at _ j hj)).ext fun j _ => rfl
    have hF0 : FullI w o1 k c1 (s.length + 1) wc.heap.size (wc.heap.size + 1) R 0 W2 := ⟨hI.go hb2, hr1, hr2, Nat.zero_le _⟩
    have HF0 := Lib.hid hF0
    have hrow : Hid (∀ j, j < k → ∃ b, o1 = some ⟨b, 0, none⟩ ∧ b < wc.heap.size) := fun j hj => by
      rcases hI.grow.at_ with ⟨h0, _⟩ | ⟨b, c0, e, _, _, hg⟩
      · rw [hI.len] at h0; omega
      · injection e with e
        exact ⟨b, e, hg.2.2⟩
    have hB := hI.grow.below.size
    clear hz1 hb2 hr1 hr2 hF0 hI HV
    go_upto_block 2 with fail
    go_cut [8] from 12 (fun x wx => x = .slice o1 k c1 ∧ ∃ m, FullI w o1 k c1 (s.length + 1) wc.heap.size (wc.heap.size + 1) R m wx)
    case first =>
      go_wp2
      clear hW2
      go_loopw [12] (fun y wr => ∃ m : Nat, y = .int .i64 (m : Int) ∧ FullI w o1 k c1 (s.length + 1) wc.heap.size (wc.heap.size + 1) R m wr) (fun y _ => ((30 : Int) - intOf y).toNat)
      case atStart => exact ⟨0, rfl, HF0.out⟩
      case round =>
        obtain ⟨m, rfl, hI⟩ := hrel
        clear HF0
        have hmk2 := hI.hm
        by_cases h1 : m < s.length + 1
        · have h1i : (m : Int) < (s.length : Int) + 1 := by omega
          by_cases h2 : m < k
          · have h2i : (m : Int) < (k : Int) := by omega
            obtain ⟨b, rfl, hblt⟩ := hrow.out m h2
            have hcell : wr.cell? ⟨b, m, none⟩ = some (.int .i64 (R.getD m 0)) := by
              rcases hI.any.grow.at_ with ⟨h0, _⟩ | ⟨b', c0, e, _, _, hg⟩
              · rw [hI.any.len] at h0; omega
              · injection e with e
                injection e with e
                injection e with e
                subst e
                have := hg.1 m (by rw [hI.any.len]; exact h2) 0 (by omega)
                rw [Nat.mul_one, Nat.add_zero] at this
                exact this
            have hs1 := hI.r1.set m h1 (R.getD m 0)
            have hs2 := (hI.r2.other wc.heap.size m (.int .i64 (R.getD m 0)) (by omega)).set m h1 (R.getD m 0)
            have hs3 := hs1.other (wc.heap.size + 1) m (.int .i64 (R.getD m 0)) (by omega)
            have hc1 := hI.r1.cell m h1
            have hc2 := hI.r2.cell m h1
            have hf1 := hI.r1.open_ m
            have hf2 := hI.r2.open_ m
            have hne1 : ¬ b = wc.heap.size := by omega
            have hne2 : ¬ b = wc.heap.size + 1 := by omega
            have hany : Hid (FullI w (some ⟨b, 0, none⟩) k c1 (s.length + 1) wc.heap.size (wc.heap.size + 1) R (m + 1) ((wr.setCell ⟨wc.heap.size, m, none⟩ (.int .i64 (R.getD m 0))).setCell ⟨wc.heap.size + 1, m, none⟩ (.int .i64 (R.getD m 0)))) := by
              refine ⟨?_, hs3.ext fun j _ => upR_put R m j, hs2.ext fun j _ => upR_put R m j, h2⟩
              refine ⟨⟨?_, hI.any.grow.above, ?_⟩, hI.any.low, hI.any.len⟩
              · rcases hI.any.grow.at_ with ⟨h0, h3⟩ | ⟨b', c0, e, h4, h5, hg⟩
                · exact .inl ⟨h0, h3⟩
                · injection e with e e2 e3
                  injection e with e
                  injection e with e
                  subst e e3
                  exact .inr ⟨b, c1, by rw [hI.any.len], h4, (h5.set _ _ _).set _ _ _, (hg.other _ _ _ (by omega)).other _ _ _ (by omega)⟩
              · exact (hI.any.grow.below.setCell (p := ⟨wc.heap.size, m, none⟩) (by show w.heap.size ≤ wc.heap.size; omega) _).setCell (p := ⟨wc.heap.size + 1, m, none⟩) (by show w.heap.size ≤ wc.heap.size + 1; omega) _
            generalize R.getD m 0 = x at *
            generalize upR R m m = y0 at *
            clear hI hs1 hs2 hs3
            go_wp2
            go_roundw
            case rel => exact ⟨m + 1, rfl, hany.out⟩
            case measure => simp only [intOf]; omega
          · have h2i : ¬ (m : Int) < (k : Int) := by omega
            go_wp2_with fail
            go_meet
            case rel => exact ⟨rfl, m, hI⟩
        · have h1i : ¬ (m : Int) < (s.length : Int) + 1 := by omega
          go_wp2_with fail
          go_meet
          case rel => exact ⟨rfl, m, hI⟩
    case rest =>
      obtain ⟨rfl, m, hI⟩ := hcut
      clear HF0 hW2 hrow
      obtain ⟨hA, hr1, hr2, hm⟩ := hI
      have hlen := hA.len
      have hlow := hA.low
      have n0 := hA.grow.at_.view
      have n1 := NV.of_reads hr1.cells (Nat.le_refl _)
      have n2 := NV.of_reads hr2.cells (Nat.le_refl _)
      have hlow1 : ∀ j, j < R.length → 0 ≤ R.getD j 0 ∧ R.getD j 0 ≤ 100000000 := fun j hj => by have := hlow j hj; omega
      have hlow2 := upR_low hlow m (by omega) (s.length + 1)
      have hl2 : (listF (upR R m) (s.length + 1)).length ≤ 1000 := by rw [listF_len]; omega
      have e1 := fun (sv : Value) (W : World) h => enext_v s R c sv W h (by omega) hlow1 (by omega)
      have r1 := fun (sv : Value) (W : World) h => rnext_v s R c sv W h (by omega) hlow1 (by omega)
      have e2 := fun (sv : Value) (W : World) h => enext_v s (listF (upR R m) (s.length + 1)) c sv W h (by omega) hlow2 hl2
      have r2 := fun (sv : Value) (W : World) h => rnext_v s (listF (upR R m) (s.length + 1)) c sv W h (by omega) hlow2 hl2
      have hb := hA.grow.below
      have q1 := nextI_len s R c (by omega)
      have q2 := nextI_len s (listF (upR R m) (s.length + 1)) c (by omega)
      generalize nextI s R c = N1 at *
      generalize nextI s (listF (upR R m) (s.length + 1)) c = N2 at *
      generalize listF (upR R m) (s.length + 1) = F at *
      clear hA hr1 hr2 hlow hlow1 hlow2 hmk
      go_wp2_with fail
      refine (e1 _ _ n0).mono ?_
      rintro e W3 ⟨v3, rfl, x3, b3⟩
      replace n0 := n0.go b3
      replace n1 := n1.go b3
      replace n2 := n2.go b3
      replace hb := hb.trans (b3.mono hb.size)
      clear b3
      go_wp2_with fail
      refine (r1 _ _ n0).mono ?_
      rintro e W4 ⟨v4, rfl, x4, b4⟩
      replace x3 := x3.go b4
      replace n1 := n1.go b4
      replace n2 := n2.go b4
      replace hb := hb.trans (b4.mono hb.size)
      clear b4 n0
      go_wp2_with fail
      refine (same_any _ _ _ _ _ x3 x4 q1 q1).mono ?_
      rintro e W5 ⟨rfl, b5⟩
      rw [decide_eq_true (rfl : N1 = N1)]
      replace n1 := n1.go b5
      replace n2 := n2.go b5
      replace hb := hb.trans (b5.mono hb.size)
      clear b5 x3 x4
      go_wp2_with fail
      refine (e2 _ _ n1).mono ?_
      rintro e W6 ⟨v6, rfl, x6, b6⟩
      replace n1 := n1.go b6
      replace n2 := n2.go b6
      replace hb := hb.trans (b6.mono hb.size)
      clear b6
      go_wp2_with fail
      refine (r2 _ _ n1).mono ?_
      rintro e W7 ⟨v7, rfl, x7, b7⟩
      replace x6 := x6.go b7
      replace n1 := n1.go b7
      replace n2 := n2.go b7
      replace hb := hb.trans (b7.mono hb.size)
      clear b7
      go_wp2_with fail
      refine (same_any _ _ _ _ _ x6 x7 q2 q2).mono ?_
      rintro e W8 ⟨rfl, b8⟩
      rw [decide_eq_true (rfl : N2 = N2)]
      replace n1 := n1.go b8
      replace n2 := n2.go b8
      replace hb := hb.trans (b8.mono hb.size)
      clear b8 x6 x7
      go_wp2_with fail
      refine (same_any _ _ _ _ _ n1 n2 hl2 hl2).mono ?_
      rintro e W9 ⟨rfl, b9⟩
      rw [decide_eq_true (rfl : F = F)]
      have HB := Lib.hid (hb.trans (b9.mono hb.size))
      clear b9 n1 n2 hb
      go_wp2
      go_ret
      exact ⟨rfl, HB.out⟩

theorem any_law (a : ByteArray) (sv : Value) (l : List Int) (c : Int) (w : World) (ha : a.size ≤ maxLen) (hV : IV w sv l) (hc : 0 ≤ c ∧ c ≤ 255) (hl : l.length ≤ 9223372036854775807) :
    Calls Try.prog 5 #[.string a, sv, .int .u8 c] w fun e w' => e = .returned (.bool true) ∧ Below w.heap.size w w' := by
  rw [← bs_of a]
  have := any_walk a.data.toList sv l (UInt8.ofNat c.toNat) w (len_of a ha) hV hl
  rw [show (((UInt8.ofNat c.toNat).toNat : Nat) : Int) = c from by rw [UInt8.toNat_ofNat']; omega] at this
  exact this

end Go.Proofs.Ytlfpfijhimngmaa.Edits

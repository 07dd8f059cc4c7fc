/-
  The document's Distance: a row of cells, filled by rows.
-/
import Derived.Test.YtlfpfijhimngmaaEE
namespace Go.Proofs.Ytlfpfijhimngmaa.Edits
open Go.RowKit
set_option linter.unusedVariables false
set_option linter.unusedSimpArgs false

/-- What stands at the place p: so many first bytes of both. -/
def cellD (a b : List UInt8) (p : Nat) : Int := ((lev (a.take (p / (b.length + 1))) (b.take (p % (b.length + 1))) : Nat) : Int)
theorem cellD_at (a b : List UInt8) (i k : Nat) (hk : k < b.length + 1) : cellD a b (i * (b.length + 1) + k) = ((lev (a.take i) (b.take k) : Nat) : Int) := by
  unfold cellD
  have h1 : (i * (b.length + 1) + k) / (b.length + 1) = i := by rw [Nat.add_comm, Nat.add_mul_div_right _ _ (by omega), Nat.div_eq_of_lt hk]; omega
  have h2 : (i * (b.length + 1) + k) % (b.length + 1) = k := by rw [Nat.add_comm, Nat.add_mul_mod_self_right, Nat.mod_eq_of_lt hk]
  rw [h1, h2]
/-- The first q cells. -/
def upD (a b : List UInt8) (q : Nat) : Nat → Int := fun p => if p < q then cellD a b p else 0
theorem upD_put (a b : List UInt8) (q j : Nat) : putF (upD a b q) q (cellD a b q) j = upD a b (q + 1) j := by
  unfold putF upD
  by_cases e : j = q
  · subst e; rw [if_pos rfl, if_pos (by omega)]
  · rw [if_neg e]
    by_cases h : j < q
    · rw [if_pos h, if_pos (by omega)]
    · rw [if_neg h, if_neg (by omega)]
theorem upD_at (a b : List UInt8) (q p : Nat) (h : p < q) : upD a b q p = cellD a b p := if_pos h
theorem cell_first (a b : List UInt8) (k : Nat) (hk : k < b.length + 1) : cellD a b k = (k : Int) := by
  have := cellD_at a b 0 k hk
  rw [Nat.zero_mul, Nat.zero_add, List.take_zero, lev_nil, List.length_take, Nat.min_eq_left (by omega)] at this
  exact this
theorem cell_left (a b : List UInt8) (i : Nat) (hi : i ≤ a.length) : cellD a b (i * (b.length + 1)) = (i : Int) := by
  have := cellD_at a b i 0 (by omega)
  rw [Nat.add_zero, List.take_zero, lev_nil', List.length_take, Nat.min_eq_left hi] at this
  exact this
theorem cell_in (a b : List UInt8) (j l : Nat) (hj : j < a.length) (hl : l < b.length) :
    cellD a b ((j + 1) * (b.length + 1) + (l + 1)) = min (cellD a b (j * (b.length + 1) + l) + (off (a.getD j 0) (b.getD l 0) : Nat)) (min (cellD a b (j * (b.length + 1) + (l + 1)) + 1) (cellD a b ((j + 1) * (b.length + 1) + l) + 1)) := by
  rw [cellD_at _ _ _ _ (by omega), cellD_at _ _ _ _ (by omega), cellD_at _ _ _ _ (by omega), cellD_at _ _ _ _ (by omega), take_next a j hj, take_next b l hl, lev_last, cast_min, cast_min]
  omega
theorem cell_low (a b : List UInt8) (p : Nat) (hl : a.length ≤ 100) (hb : b.length ≤ 100) : 0 ≤ cellD a b p ∧ cellD a b p ≤ 200 := by
  unfold cellD
  have := lev_high (a.take (p / (b.length + 1))) (b.take (p % (b.length + 1)))
  rw [List.length_take, List.length_take] at this
  omega

set_option maxRecDepth 100000 in
set_option maxHeartbeats 2000000 in
theorem rdist_any (a b : List UInt8) (w : World) (ha : a.length ≤ 100) (hb : b.length ≤ 100) :
    Calls Try.prog 11 #[.string (bs a), .string (bs b)] w fun e w' => e = .returned (.int .i64 ((lev a b : Nat) : Int)) ∧ Below w.heap.size w w' := by
  have hza : (bs a).size = a.length := bs_size a
  have hzb : (bs b).size = b.length := bs_size b
  obtain ⟨T, hT⟩ : ∃ T, (a.length + 1) * (b.length + 1) = T := ⟨_, rfl⟩
  have hTi : ((a.length : Int) + 1) * ((b.length : Int) + 1) = (T : Int) := by rw [← hT, Int.natCast_mul]; simp
  have hTm : T ≤ 101 * 101 := by rw [← hT]; exact Nat.mul_le_mul (by omega) (by omega)
  have hw : IntKind.i64.wrap (T : Int) = (T : Int) := by rw [IntKind.wrap_i64]; omega
  have hmk : ∀ W : World, (Instr.makeSlice 28 (.int .i64 (T : Int)) (.int .i64 (T : Int))).run Try.prog W = .ok (.slice (some ⟨W.heap.size, 0, none⟩) T T) (W.alloc (.cells (zeroRow T) 3)) := fun W => make_row T (by omega) W
  have h0 := RowI.zeros w 3 T (zeroRow T) (fun j hj => zeroRow_at _ j hj)
  have hb0 : Below w.heap.size w (w.alloc (.cells (zeroRow T) 3)) := (Below.refl _ _).alloc (Nat.le_refl _) _
  have H0 := Lib.hid h0
  have HB0 := Lib.hid hb0
  have HT := Lib.hid hT
  clear h0 hb0 hT
  go_enter Try.func11, Try.ntmps11
  go_wp2
  go_loopw [7] (fun x wr => ∃ i : Nat, x = .int .i64 (i : Int) ∧ i ≤ a.length + 1 ∧ RowI wr w.heap.size T (upD a b (i * (b.length + 1))) ∧ Below w.heap.size w wr) (fun x _ => ((a.length : Int) + 1 - intOf x).toNat)
  case atStart => exact ⟨0, rfl, by omega, H0.out.ext fun j _ => by simp [upD], HB0.out⟩
  case round =>
    obtain ⟨i, rfl, hi, hR, hB⟩ := hrel
    clear H0 HB0 hTi hmk hw
    by_cases hia : i ≤ a.length
    · have hii : (i : Int) ≤ (a.length : Int) := by omega
      have HR := Lib.hid hR
      have HB := Lib.hid hB
      clear hR hB
      go_wp2
      go_loopw [8] (fun x wr => ∃ k : Nat, x = .int .i64 (k : Int) ∧ k ≤ b.length + 1 ∧ RowI wr w.heap.size T (upD a b (i * (b.length + 1) + k)) ∧ Below w.heap.size w wr) (fun x _ => ((b.length : Int) + 1 - intOf x).toNat)
      case atStart => exact ⟨0, rfl, by omega, HR.out, HB.out⟩
      case round =>
        obtain ⟨k, rfl, hk, hR, hB⟩ := hrel
        clear HR HB
        by_cases hkb : k ≤ b.length
        · have hki : (k : Int) ≤ (b.length : Int) := by omega
          obtain ⟨Q, hQ⟩ : ∃ Q, i * (b.length + 1) + k = Q := ⟨_, rfl⟩
          have hQT : Q < T := by
            rw [← hQ, ← HT.out]
            have : (i + 1) * (b.length + 1) ≤ (a.length + 1) * (b.length + 1) := Nat.mul_le_mul_right _ (by omega)
            rw [Nat.add_mul] at this
            omega
          have hput := hR.set Q hQT (cellD a b Q)
          rw [hQ] at hR hput
          have HS := Lib.hid (hput.ext fun j _ => upD_put a b Q j)
          have HB := Lib.hid (hB.setCell (p := ⟨w.heap.size, Q, none⟩) (Nat.le_refl _) (.int .i64 (cellD a b Q)))
          have hcell := hR.cell Q hQT
          have hfz := hR.open_ Q
          have hQi : (Q : Int) < (T : Int) := by omega
          have HB0 := Lib.hid hB
          clear hput hB
          have HQ : Hid (i * (b.length + 1) + (k + 1) = Q + 1) := by show _ = _; omega
          by_cases hi0 : i = 0
          · subst hi0
            have hkQ : k = Q := by omega
            subst hkQ
            rw [cell_first a b k (by omega)] at HS HB
            clear hR HQ hQ
            go_wp2
            go_roundw
            case rel => exact ⟨k + 1, rfl, by omega, by have := HS.out; rwa [Nat.zero_mul, Nat.zero_add], HB.out⟩
            case measure => simp only [intOf]; omega
          · have hi0i : ¬ (i : Int) = 0 := by omega
            by_cases hk0 : k = 0
            · subst hk0
              have hQ' : i * (b.length + 1) = Q := by omega
              have hm : (i : Int) * ((b.length : Int) + 1) = (Q : Int) := by rw [← hQ', Int.natCast_mul]; simp
              have hw : IntKind.i64.wrap (Q : Int) = (Q : Int) := by rw [IntKind.wrap_i64]; omega
              rw [← hQ', cell_left a b i hia, hQ'] at HS HB
              clear hR hQ hQ'
              go_wp2
              go_roundw
              case rel => exact ⟨0 + 1, rfl, by omega, by have := HS.out; rw [HQ.out]; exact this, HB.out⟩
              case measure => simp only [intOf]; omega
            · obtain ⟨j, hj⟩ : ∃ j, i = j + 1 := ⟨i - 1, by omega⟩
              obtain ⟨l, hl⟩ : ∃ l, k = l + 1 := ⟨k - 1, by omega⟩
              have hk0i : ¬ (k : Int) = 0 := by omega
              obtain ⟨R0, hR0⟩ : ∃ R0, j * (b.length + 1) = R0 := ⟨_, rfl⟩
              obtain ⟨R1, hR1⟩ : ∃ R1, i * (b.length + 1) = R1 := ⟨_, rfl⟩
              have hRR : R1 = R0 + (b.length + 1) := by rw [← hR1, ← hR0, hj, Nat.add_mul]; omega
              have hci := cell_in a b j l (by omega) (by omega)
              rw [← hj, ← hl, hR0, hR1] at hci
              rw [hR1] at hQ
              rw [hQ] at hci
              have m1 : (j : Int) * ((b.length : Int) + 1) = (R0 : Int) := by rw [← hR0, Int.natCast_mul]; simp
              have m2 : (i : Int) * ((b.length : Int) + 1) = (R1 : Int) := by rw [← hR1, Int.natCast_mul]; simp
              have e1 : (i : Int) - 1 = (j : Int) := by omega
              have e2 : (k : Int) - 1 = (l : Int) := by omega
              obtain ⟨P1, hP1⟩ : ∃ P1, R0 + l = P1 := ⟨_, rfl⟩
              obtain ⟨P2, hP2⟩ : ∃ P2, R0 + k = P2 := ⟨_, rfl⟩
              obtain ⟨P3, hP3⟩ : ∃ P3, R1 + l = P3 := ⟨_, rfl⟩
              rw [hP1, hP2, hP3] at hci
              have p2 : (R0 : Int) + (k : Int) = (P2 : Int) := by omega
              have p1 : (P2 : Int) - 1 = (P1 : Int) := by omega
              have p4 : (R1 : Int) + (k : Int) = (Q : Int) := by omega
              have p3 : (Q : Int) - 1 = (P3 : Int) := by omega
              have w0 : IntKind.i64.wrap (R0 : Int) = (R0 : Int) := by rw [IntKind.wrap_i64]; omega
              have w1 : IntKind.i64.wrap (R1 : Int) = (R1 : Int) := by rw [IntKind.wrap_i64]; omega
              have w2 : IntKind.i64.wrap (P2 : Int) = (P2 : Int) := by rw [IntKind.wrap_i64]; omega
              have w3 : IntKind.i64.wrap (P1 : Int) = (P1 : Int) := by rw [IntKind.wrap_i64]; omega
              have w4 : IntKind.i64.wrap (Q : Int) = (Q : Int) := by rw [IntKind.wrap_i64]; omega
              have w5 : IntKind.i64.wrap (P3 : Int) = (P3 : Int) := by rw [IntKind.wrap_i64]; omega
              have w6 : IntKind.i64.wrap (j : Int) = (j : Int) := by rw [IntKind.wrap_i64]; omega
              have w7 : IntKind.i64.wrap (l : Int) = (l : Int) := by rw [IntKind.wrap_i64]; omega
              have b1 : (P1 : Int) < (T : Int) := by omega
              have b2 : (P2 : Int) < (T : Int) := by omega
              have b3 : (P3 : Int) < (T : Int) := by omega
              have c1 := hR.cell P1 (by omega)
              have c2 := hR.cell P2 (by omega)
              have c3 := hR.cell P3 (by omega)
              rw [upD_at a b Q P1 (by omega)] at c1
              rw [upD_at a b Q P2 (by omega)] at c2
              rw [upD_at a b Q P3 (by omega)] at c3
              have jb : j < (bs a).size := by omega
              have lb : l < (bs b).size := by omega
              have hba := bs_at a j jb
              have hbb := bs_at b l lb
              have j1 : (j : Int) < (a.length : Int) := by omega
              have j2 : (l : Int) < (b.length : Int) := by omega
              have z1 := cell_low a b P1 ha hb
              have z2 := cell_low a b P2 ha hb
              have z3 := cell_low a b P3 ha hb
              have hRlt := hR.lt
              have hP2Q : P2 ≠ Q := by omega
              have hP3Q : P3 ≠ Q := by omega
              have HFIN : Hid (∀ V : World, Below wr.heap.size wr V → RowI (V.setCell ⟨w.heap.size, Q, none⟩ (.int .i64 (cellD a b Q))).drew w.heap.size T (upD a b (Q + 1)) ∧ Below w.heap.size w (V.setCell ⟨w.heap.size, Q, none⟩ (.int .i64 (cellD a b Q))).drew) := fun V hV =>
                ⟨(((hR.go hV).set Q hQT (cellD a b Q)).ext fun j _ => upD_put a b Q j).go ((Below.refl _ _).drew), ((HB0.out.trans (hV.mono HB0.out.size)).setCell (p := ⟨w.heap.size, Q, none⟩) (Nat.le_refl _) _).drew⟩
              clear hR0 hR1 hRR hj hl hP1 hP2 hP3 hQ hi0 hk0 hR HS HB
              generalize cellD a b Q = v at *
              generalize cellD a b P1 = x1 at *
              generalize cellD a b P2 = x2 at *
              generalize cellD a b P3 = x3 at *
              generalize upD a b Q Q = v0 at *
              generalize a.getD j 0 = ca at *
              generalize b.getD l 0 = cb at *
              cases he : ((ca.toNat : Int) == (cb.toNat : Int)) with
              | true =>
                have hd := off_eq ca cb he
                rw [hd] at hci
                have hbn : ((ca.toNat : Int) != (cb.toNat : Int)) = false := by rw [bne, he]; rfl
                clear he
                obtain ⟨mm, hmm⟩ : ∃ mm, min (x2 + 1) (x3 + 1) = mm := ⟨_, rfl⟩
                have g1 : IntKind.i64.wrap (x3 + 1) = x3 + 1 := by rw [IntKind.wrap_i64]; omega
                have g2 : IntKind.i64.wrap (x2 + 1) = x2 + 1 := by rw [IntKind.wrap_i64]; omega
                have g3 : IntKind.i64.wrap (x1 + 1) = x1 + 1 := by rw [IntKind.wrap_i64]; omega
                have hvI : (if x3 + 1 < x2 + 1 then x3 + 1 else x2 + 1) = mm := (go_min _ _).trans hmm
                have hvI' : (if x3 < x2 then x3 + 1 else x2 + 1) = mm := by rw [← hmm]; split <;> omega
                have hvJ : (if mm < x1 then mm else x1) = v := by rw [go_min, hci, ← hmm]; omega
                clear hci hd hmm
                go_wp2_with fail
                go_quiet (fail)
                go_upto_region 16 with fail
                have hbq := below_drewN (Below.refl wr.heap.size wr) nq
                have c2 := (hbq.cell (p := ⟨w.heap.size, P2, none⟩) hRlt).trans c2
                have c3 := (hbq.cell (p := ⟨w.heap.size, P3, none⟩) hRlt).trans c3
                have hcell := (hbq.cell (p := ⟨w.heap.size, Q, none⟩) hRlt).trans hcell
                have hfz := (frozen_of_block (hbq.block w.heap.size hRlt) Q).trans hfz
                have hfin : Hid (RowI ((wr.drewN nq).setCell ⟨w.heap.size, Q, none⟩ (.int .i64 v)).drew w.heap.size T (upD a b (Q + 1)) ∧ Below w.heap.size w ((wr.drewN nq).setCell ⟨w.heap.size, Q, none⟩ (.int .i64 v)).drew) := HFIN.out _ hbq
                generalize wr.drewN nq = W1 at *
                have hS0 : W1.cell? ⟨w.heap.size, P2, none⟩ = some (.int .i64 x2) ∧ W1.cell? ⟨w.heap.size, P3, none⟩ = some (.int .i64 x3) := ⟨c2, c3⟩
                have hS1 : W1.drew.cell? ⟨w.heap.size, P2, none⟩ = some (.int .i64 x2) ∧ W1.drew.cell? ⟨w.heap.size, P3, none⟩ = some (.int .i64 x3) := ⟨c2, c3⟩
                have hS2 : ∀ u, (W1.setCell ⟨w.heap.size, Q, none⟩ u).cell? ⟨w.heap.size, P2, none⟩ = some (.int .i64 x2) ∧ (W1.setCell ⟨w.heap.size, Q, none⟩ u).cell? ⟨w.heap.size, P3, none⟩ = some (.int .i64 x3) := fun u =>
                  ⟨(World.cell?_setCell_other _ _ _ _ (by intro hh; injection hh with e1 e2; omega)).trans c2, (World.cell?_setCell_other _ _ _ _ (by intro hh; injection hh with e1 e2; omega)).trans c3⟩
                have hS3 : ∀ u, (W1.setCell ⟨w.heap.size, Q, none⟩ u).drew.cell? ⟨w.heap.size, P2, none⟩ = some (.int .i64 x2) ∧ (W1.setCell ⟨w.heap.size, Q, none⟩ u).drew.cell? ⟨w.heap.size, P3, none⟩ = some (.int .i64 x3) := fun u => hS2 u
                have hcelld : W1.drew.cell? ⟨w.heap.size, Q, none⟩ = some (.int .i64 v0) := hcell
                have hfzd : W1.drew.frozen? ⟨w.heap.size, Q, none⟩ = false := hfz
                go_region_held3 (fun v' => v'.cell? ⟨w.heap.size, P2, none⟩ = some (.int .i64 x2) ∧ v'.cell? ⟨w.heap.size, P3, none⟩ = some (.int .i64 x3))
                  (first | (with_reducible exact hS0) | (with_reducible exact hS1) | (with_reducible exact hS2 _) | (with_reducible exact hS3 _))
                  (first | fail)
                clear hS0 hS1 hS2 hS3
                go_wp2
                go_roundw
                case rel => exact ⟨k + 1, rfl, by omega, by rw [HQ.out]; exact hfin.out.1, hfin.out.2⟩
                case measure => simp only [intOf]; omega
              | false =>
                have hd := off_ne ca cb he
                rw [hd] at hci
                have hbn : ((ca.toNat : Int) != (cb.toNat : Int)) = true := by rw [bne, he]; rfl
                clear he
                obtain ⟨mm, hmm⟩ : ∃ mm, min (x2 + 1) (x3 + 1) = mm := ⟨_, rfl⟩
                have g1 : IntKind.i64.wrap (x3 + 1) = x3 + 1 := by rw [IntKind.wrap_i64]; omega
                have g2 : IntKind.i64.wrap (x2 + 1) = x2 + 1 := by rw [IntKind.wrap_i64]; omega
                have g3 : IntKind.i64.wrap (x1 + 1) = x1 + 1 := by rw [IntKind.wrap_i64]; omega
                have hvI : (if x3 + 1 < x2 + 1 then x3 + 1 else x2 + 1) = mm := (go_min _ _).trans hmm
                have hvI' : (if x3 < x2 then x3 + 1 else x2 + 1) = mm := by rw [← hmm]; split <;> omega
                have hvJ : (if mm < (x1 + 1) then mm else (x1 + 1)) = v := by rw [go_min, hci, ← hmm]
                have hvJ' : (if mm ≤ x1 then mm else (x1 + 1)) = v := by rw [hci, hmm]; split <;> omega
                clear hci hd hmm
                go_wp2_with fail
                go_quiet (fail)
                go_upto_region 16 with fail
                have hbq := below_drewN (Below.refl wr.heap.size wr) nq
                have c2 := (hbq.cell (p := ⟨w.heap.size, P2, none⟩) hRlt).trans c2
                have c3 := (hbq.cell (p := ⟨w.heap.size, P3, none⟩) hRlt).trans c3
                have hcell := (hbq.cell (p := ⟨w.heap.size, Q, none⟩) hRlt).trans hcell
                have hfz := (frozen_of_block (hbq.block w.heap.size hRlt) Q).trans hfz
                have hfin : Hid (RowI ((wr.drewN nq).setCell ⟨w.heap.size, Q, none⟩ (.int .i64 v)).drew w.heap.size T (upD a b (Q + 1)) ∧ Below w.heap.size w ((wr.drewN nq).setCell ⟨w.heap.size, Q, none⟩ (.int .i64 v)).drew) := HFIN.out _ hbq
                generalize wr.drewN nq = W1 at *
                have hS0 : W1.cell? ⟨w.heap.size, P2, none⟩ = some (.int .i64 x2) ∧ W1.cell? ⟨w.heap.size, P3, none⟩ = some (.int .i64 x3) := ⟨c2, c3⟩
                have hS1 : W1.drew.cell? ⟨w.heap.size, P2, none⟩ = some (.int .i64 x2) ∧ W1.drew.cell? ⟨w.heap.size, P3, none⟩ = some (.int .i64 x3) := ⟨c2, c3⟩
                have hS2 : ∀ u, (W1.setCell ⟨w.heap.size, Q, none⟩ u).cell? ⟨w.heap.size, P2, none⟩ = some (.int .i64 x2) ∧ (W1.setCell ⟨w.heap.size, Q, none⟩ u).cell? ⟨w.heap.size, P3, none⟩ = some (.int .i64 x3) := fun u =>
                  ⟨(World.cell?_setCell_other _ _ _ _ (by intro hh; injection hh with e1 e2; omega)).trans c2, (World.cell?_setCell_other _ _ _ _ (by intro hh; injection hh with e1 e2; omega)).trans c3⟩
                have hS3 : ∀ u, (W1.setCell ⟨w.heap.size, Q, none⟩ u).drew.cell? ⟨w.heap.size, P2, none⟩ = some (.int .i64 x2) ∧ (W1.setCell ⟨w.heap.size, Q, none⟩ u).drew.cell? ⟨w.heap.size, P3, none⟩ = some (.int .i64 x3) := fun u => hS2 u
                have hcelld : W1.drew.cell? ⟨w.heap.size, Q, none⟩ = some (.int .i64 v0) := hcell
                have hfzd : W1.drew.frozen? ⟨w.heap.size, Q, none⟩ = false := hfz
                go_region_held3 (fun v' => v'.cell? ⟨w.heap.size, P2, none⟩ = some (.int .i64 x2) ∧ v'.cell? ⟨w.heap.size, P3, none⟩ = some (.int .i64 x3))
                  (first | (with_reducible exact hS0) | (with_reducible exact hS1) | (with_reducible exact hS2 _) | (with_reducible exact hS3 _))
                  (first | fail)
                clear hS0 hS1 hS2 hS3
                go_wp2
                go_roundw
                case rel => exact ⟨k + 1, rfl, by omega, by rw [HQ.out]; exact hfin.out.1, hfin.out.2⟩
                case measure => simp only [intOf]; omega
        · have hki : ¬ (k : Int) ≤ (b.length : Int) := by omega
          have hke : k = b.length + 1 := by omega
          subst hke
          have HR := Lib.hid hR
          have HB := Lib.hid hB
          have HQ : Hid (i * (b.length + 1) + (b.length + 1) = (i + 1) * (b.length + 1)) := by show _ = _; rw [Nat.add_mul]; omega
          clear hR hB
          go_wp2
          go_roundw
          case rel => exact ⟨i + 1, rfl, by omega, by have := HR.out; rwa [HQ.out] at this, HB.out⟩
          case measure => simp only [intOf]; omega
    · have hii : ¬ (i : Int) ≤ (a.length : Int) := by omega
      have hie : i = a.length + 1 := by omega
      subst hie
      obtain ⟨Q, hQ⟩ : ∃ Q, a.length * (b.length + 1) + b.length = Q := ⟨_, rfl⟩
      have hQT : Q < T := by
        rw [← hQ, ← HT.out, Nat.add_mul]
        omega
      obtain ⟨P, hP⟩ : ∃ P, a.length * (b.length + 1) = P := ⟨_, rfl⟩
      have hcell := hR.cell Q hQT
      rw [upD_at a b _ Q (by rw [← hQ, Nat.add_mul]; omega), ← hQ, cellD_at a b a.length b.length (by omega), List.take_length, List.take_length, hQ] at hcell
      rw [hP] at hQ
      have hm : (a.length : Int) * ((b.length : Int) + 1) = (P : Int) := by rw [← hP, Int.natCast_mul]; simp
      have hw1 : IntKind.i64.wrap (P : Int) = (P : Int) := by rw [IntKind.wrap_i64]; omega
      have hp : (P : Int) + (b.length : Int) = (Q : Int) := by omega
      have hw : IntKind.i64.wrap (Q : Int) = (Q : Int) := by rw [IntKind.wrap_i64]; omega
      have hQi : (Q : Int) < (T : Int) := by omega
      have HB := Lib.hid hB
      clear hR hB hQ hP
      go_wp2
      go_ret
      exact ⟨rfl, HB.out⟩

end Go.Proofs.Ytlfpfijhimngmaa.Edits

/-
  Contract of the document's Read; the world below stays as it was.
-/
import Derived.Test.YtndinbefljajcaaDoorQ4
import Derived.Test.YtndinbefljajcaaDoorQM
namespace Go.Proofs.YtndinbefljajcaaDoor.Dims
open Go.RowKit Go.Shelf
set_option linter.unusedVariables false
set_option linter.unusedSimpArgs false

/-- How the world stands within the document's Read. -/
def RdAt (w v : World) (D : D7) : Prop := Below w.heap.size w v ∧ Room8 v w.heap.size ∧ Lies7 v (w.heap.size + 1) D.get
theorem RdAt.go {w v v' : World} {D : D7} (h : RdAt w v D) (hb : Below v.heap.size v v') : RdAt w v' D :=
  ⟨Below.goB h.1 h.1.size hb, h.2.1.go hb, h.2.2.below hb h.2.2.2.2⟩
theorem RdAt.set {w v : World} {D : D7} (h : RdAt w v D) (i : Nat) (x y : Int) (e : y = x) : RdAt w (v.setCell ⟨w.heap.size + 1, i, none⟩ (.int .i64 y)) (setP D i x) := by
  subst e
  exact ⟨h.1.setCell (p := ⟨w.heap.size + 1, i, none⟩) (by show w.heap.size ≤ w.heap.size + 1; omega) _, h.2.1.other _ _ _ (by omega), (h.2.2.set i y).congr (fun j hj => by rw [setP_get _ _ _ j hj])⟩
theorem RdAt.new (w : World) : RdAt w ((w.alloc (.cells #[.int .i64 0, .int .i64 0, .int .i64 0, .int .i64 0, .int .i64 0, .int .i64 0, .int .i64 0, .bool false] 29)).alloc (.cells #[.int .i64 0, .int .i64 0, .int .i64 0, .int .i64 0, .int .i64 0, .int .i64 0, .int .i64 0] 23)) dZero := by
  have h1 := Room8.new w
  have h2 := Lies7.new (w.alloc (.cells #[.int .i64 0, .int .i64 0, .int .i64 0, .int .i64 0, .int .i64 0, .int .i64 0, .int .i64 0, .bool false] 29)) dZero
  simp only [World.size_alloc, dZero] at h2
  exact ⟨by go_grown, h1.go (by go_grown), h2⟩

theorem let_nat : ∀ m (h : m < 7), ((ByteArray.mk #[109, 115, 103, 114, 107, 99, 100])[m]'h).toNat = (letter m).toNat := by
  intro m h
  match m, h with
  | 0, _ => rfl
  | 1, _ => rfl
  | 2, _ => rfl
  | 3, _ => rfl
  | 4, _ => rfl
  | 5, _ => rfl
  | 6, _ => rfl

theorem drop_cons (s : List UInt8) (j : Nat) (h : j < s.length) : s.drop j = s[j] :: s.drop (j + 1) := List.drop_eq_getElem_cons h

set_option maxRecDepth 100000 in
set_option maxHeartbeats 4000000 in
theorem rread_any (s : List UInt8) (w : World) (hs : s.length ≤ 1000) :
    Calls Tryd.prog 11 #[.string (bs s)] w fun e w' => e = .returned (gotV (readD s)) ∧ Below w.heap.size w w' := by
  have hz : (bs s).size = s.length := bs_size s
  have hA := RdAt.new w
  have HN : Hid (foldS (some rs0) s = none → readD s = (dZero, false)) := fun h => by unfold readD; rw [h]
  have HY : Hid (∀ r, foldS (some rs0) s = some r → (Right r.D ∧ textD r.D = s → readD s = (r.D, true)) ∧ (¬ (Right r.D ∧ textD r.D = s) → readD s = (dZero, false))) := fun r h => by
    refine ⟨fun hc => ?_, fun hc => ?_⟩ <;> (unfold readD; rw [h]; simp only)
    · rw [if_pos hc]
    · rw [if_neg hc]
  generalize readD s = RD at *
  go_enter Tryd.func11, Tryd.ntmps11
  go_wp2
  generalize ((w.alloc (.cells #[.int .i64 0, .int .i64 0, .int .i64 0, .int .i64 0, .int .i64 0, .int .i64 0, .int .i64 0, .bool false] 29)).alloc (.cells #[.int .i64 0, .int .i64 0, .int .i64 0, .int .i64 0, .int .i64 0, .int .i64 0, .int .i64 0] 23)) = V at *
  go_loopw [4, 5, 6] (fun b g i wr => ∃ (st : RS) (j : Nat), b = .int .i64 st.base ∧ g = .int .i64 st.sign ∧ i = .int .i64 j ∧ j ≤ s.length ∧ st.Ok ∧ Hid (foldS (some st) (s.drop j) = foldS (some rs0) s) ∧ RdAt w wr st.D) (fun _ _ i _ => s.length - (intOf i).toNat)
  case atStart => exact ⟨rs0, 0, rfl, rfl, rfl, by omega, rs0_ok, by show _ = _; rw [List.drop_zero], hA⟩
  case round =>
    clear hA
    obtain ⟨⟨D, base, sign⟩, j, rfl, rfl, rfl, hj, ok, HF, hA⟩ := hrel
    have hb : base < 7 := ok.base
    have sg : sign = 1 ∨ sign = -1 := ok.sign
    have oD : ∀ i, i < 7 → -999 ≤ D.get i ∧ D.get i ≤ 999 := ok.D
    simp only at hA
    by_cases hl : j < s.length
    · have hjz : j < (bs s).size := by omega
      have HC : Hid (foldS (stepS ⟨D, base, sign⟩ ((bs s)[j]'hjz).toNat) (s.drop (j + 1)) = foldS (some rs0) s) := by
        show _ = _
        rw [← HF.out, drop_cons s j hl, foldS_cons]
        rfl
      clear HF
      by_cases c45 : ((bs s)[j]'hjz).toNat = 45
      · have e1 : ((((bs s)[j]'hjz).toNat : Int) == 45) = true := by simp [c45]
        have HR : Hid (foldS (some ⟨D, base, -1⟩) (s.drop (j + 1)) = foldS (some rs0) s) := by
          show _ = _
          rw [← HC.out, c45, step_minus]
        clear c45
        go_wp2
        go_roundw
        case rel => exact ⟨⟨D, base, -1⟩, j + 1, rfl, rfl, rfl, by omega, ⟨hb, .inr rfl, oD⟩, HR, hA⟩
        case measure => simp only [intOf]; omega
      · have e1 : ((((bs s)[j]'hjz).toNat : Int) == 45) = false := by simp; omega
        by_cases cd : 48 ≤ ((bs s)[j]'hjz).toNat ∧ ((bs s)[j]'hjz).toNat ≤ 57
        · obtain ⟨d1, d2⟩ := cd
          have hD := oD base hb
          have xb := hA.2.2.1 base hb
          have xf := hA.2.2.2.1 base
          have b7 : (base : Int) < 7 := by omega
          by_cases hg : D.get base < -99 ∨ 99 < D.get base
          · have HR : Hid (RD = (dZero, false)) := HN.out (by
              rw [← HC.out]
              unfold stepS
              rw [if_neg c45, if_pos ⟨d1, d2⟩, if_pos hg, foldS_none])
            clear c45
            obtain ⟨hB, ⟨m0, m1, m2, m3, m4, m5, m6, m7, mf, mz⟩, _⟩ := id hA
            rcases hg with hg | hg
            · go_wp2
              refine bodyPost_ret (v := gotV (dZero, false)) (by simp [results, Tryd.results11, go_sem, gotV, dZero, m0, m1, m2, m3, m4, m5, m6, m7]) rfl ⟨by rw [HR.out], ?_⟩
              go_grown
            · have hg' : ¬ D.get base < -99 := by omega
              go_wp2
              refine bodyPost_ret (v := gotV (dZero, false)) (by simp [results, Tryd.results11, go_sem, gotV, dZero, m0, m1, m2, m3, m4, m5, m6, m7]) rfl ⟨by rw [HR.out], ?_⟩
              go_grown
          · have HR : Hid (foldS (some ⟨setP D base (D.get base * 10 + sign * ((((bs s)[j]'hjz).toNat : Int) - 48)), base, sign⟩) (s.drop (j + 1)) = foldS (some rs0) s) := by
              show _ = _
              rw [← HC.out]
              unfold stepS
              rw [if_neg c45, if_pos ⟨d1, d2⟩, if_neg hg]
            have okS : (⟨setP D base (D.get base * 10 + sign * ((((bs s)[j]'hjz).toNat : Int) - 48)), base, sign⟩ : RS).Ok := step_ok (c := ((bs s)[j]'hjz).toNat) ok (by unfold stepS; rw [if_neg c45, if_pos ⟨d1, d2⟩, if_neg hg])
            clear c45
            have g1 : ¬ D.get base < -99 := by omega
            have g2 : ¬ 99 < D.get base := by omega
            rcases sg with rfl | rfl
            · go_wp2
              refine ⟨⟨_, j + 1, rfl, rfl, rfl, by omega, okS, HR, hA.set base _ _ (by omega)⟩, ?_⟩
              simp only [intOf]; omega
            · go_wp2
              refine ⟨⟨_, j + 1, rfl, rfl, rfl, by omega, okS, HR, hA.set base _ _ (by omega)⟩, ?_⟩
              simp only [intOf]; omega
        · have d3 : ((bs s)[j]'hjz).toNat < 48 ∨ (48 ≤ ((bs s)[j]'hjz).toNat ∧ 57 < ((bs s)[j]'hjz).toNat) := by omega
          have HS : Hid (stepS ⟨D, base, sign⟩ ((bs s)[j]'hjz).toNat = if (fk ((bs s)[j]'hjz).toNat base 7).1 = true then some ⟨D, (fk ((bs s)[j]'hjz).toNat base 7).2, 1⟩ else none) := by
            show _ = _
            unfold stepS
            rw [if_neg c45, if_neg cd]
          clear c45 cd
          rcases d3 with d3 | ⟨d3, d4⟩
          all_goals
            go_wp2
            go_loopw [4, 8, 9] (fun b f k wr => ∃ m : Nat, k = .int .i64 m ∧ m ≤ 7 ∧ f = .bool (fk ((bs s)[j]'hjz).toNat base m).1 ∧ b = .int .i64 (fk ((bs s)[j]'hjz).toNat base m).2 ∧ RdAt w wr D) (fun _ _ k _ => (7 - intOf k).toNat)
            case atStart => exact ⟨0, rfl, by omega, rfl, rfl, hA⟩
            case round =>
              clear hA
              obtain ⟨m, rfl, hm, rfl, rfl, hA⟩ := hrel
              by_cases hm7 : m < 7
              · have m7 : (m : Int) < 7 := by omega
                have hmz : m < (ByteArray.mk #[109, 115, 103, 114, 107, 99, 100]).size := hm7
                have lt : ((ByteArray.mk #[109, 115, 103, 114, 107, 99, 100])[m]'hmz).toNat = (letter m).toNat := let_nat m hm7
                by_cases hc : (letter m).toNat = ((bs s)[j]'hjz).toNat
                · have e2 : ((((ByteArray.mk #[109, 115, 103, 114, 107, 99, 100])[m]'hmz).toNat : Int) == (((bs s)[j]'hjz).toNat : Int)) = true := by rw [lt, hc]; simp
                  have HK : Hid (fk ((bs s)[j]'hjz).toNat base (m + 1) = (true, m)) := by show _ = _; unfold fk; rw [if_pos hc]
                  clear hc lt
                  go_wp2
                  refine ⟨⟨m + 1, rfl, by omega, by rw [HK.out], by rw [HK.out], hA⟩, ?_⟩
                  simp only [intOf]; omega
                · have e2 : ((((ByteArray.mk #[109, 115, 103, 114, 107, 99, 100])[m]'hmz).toNat : Int) == (((bs s)[j]'hjz).toNat : Int)) = false := by rw [lt]; simp; omega
                  have HK : Hid (fk ((bs s)[j]'hjz).toNat base (m + 1) = fk ((bs s)[j]'hjz).toNat base m) := by show _ = _; conv => lhs; unfold fk
                                                                                                                rw [if_neg hc]
                  clear hc lt
                  go_wp2
                  refine ⟨⟨m + 1, rfl, by omega, by rw [HK.out], by rw [HK.out], hA⟩, ?_⟩
                  simp only [intOf]; omega
              · have m7 : ¬ (m : Int) < 7 := by omega
                obtain rfl : m = 7 := by omega
                cases hf : (fk ((bs s)[j]'hjz).toNat base 7).1 with
                | true =>
                  have HR : Hid (foldS (some ⟨D, (fk ((bs s)[j]'hjz).toNat base 7).2, 1⟩) (s.drop (j + 1)) = foldS (some rs0) s) := by
                    show _ = _
                    rw [← HC.out, HS.out, if_pos hf]
                  have hb' := fk_lt ((bs s)[j]'hjz).toNat base hb 7 (by omega)
                  generalize (fk ((bs s)[j]'hjz).toNat base 7).2 = nb at *
                  clear hf
                  go_wp2
                  refine ⟨⟨⟨D, nb, 1⟩, j + 1, rfl, rfl, rfl, by omega, ⟨hb', .inl rfl, oD⟩, HR, hA⟩, ?_⟩
                  simp only [intOf]; omega
                | false =>
                  have HR : Hid (RD = (dZero, false)) := HN.out (by rw [← HC.out, HS.out, if_neg (by simp [hf]), foldS_none])
                  clear hf
                  obtain ⟨hB, ⟨m0, m1, m2, m3, m4, m5, m6, m7', mf, mz⟩, _⟩ := id hA
                  go_wp2
                  refine bodyPost_ret (v := gotV (dZero, false)) (by simp [results, Tryd.results11, go_sem, gotV, dZero, m0, m1, m2, m3, m4, m5, m6, m7']) rfl ⟨by rw [HR.out], ?_⟩
                  go_grown
    · obtain rfl : j = s.length := by omega
      have HE : Hid (foldS (some rs0) s = some ⟨D, base, sign⟩) := by
        show _ = _
        rw [← HF.out, List.drop_length, foldS_nil]
      have hfD : Fine D := fun i hi => by have := oD i hi; omega
      have HD := Lib.hid (HY.out _ HE.out)
      have rD := rright_any D
      have tD := rtext_any D
      have hjz : ¬ (s.length : Int) < (bs s).size := by omega
      simp only [D7.v] at rD tD
      obtain ⟨c0, c1, c2, c3, c4, c5, c6⟩ := hA.2.2.cells
      simp only [D7.get] at c0 c1 c2 c3 c4 c5 c6
      go_wp2_with fail
      refine (rD _ hfD).mono ?_
      rintro e u ⟨rfl, hb⟩
      replace hA := hA.go hb
      clear hb c0 c1 c2 c3 c4 c5 c6
      by_cases ro : Right D
      · rw [rightB_of ro]
        obtain ⟨c0, c1, c2, c3, c4, c5, c6⟩ := hA.2.2.cells
        simp only [D7.get] at c0 c1 c2 c3 c4 c5 c6
        go_wp2_with fail
        refine (tD _ hfD).mono ?_
        rintro e u2 ⟨rfl, hb⟩
        replace hA := hA.go hb
        clear hb c0 c1 c2 c3 c4 c5 c6
        obtain ⟨hB, ⟨m0, m1, m2, m3, m4, m5, m6, m7, mf, mz⟩, lD⟩ := id hA
        obtain ⟨c0, c1, c2, c3, c4, c5, c6⟩ := lD.cells
        simp only [D7.get] at c0 c1 c2 c3 c4 c5 c6
        by_cases te : textD D = s
        · have HG : Hid (RD = (D, true)) := HD.out.1 ⟨ro, te⟩
          have q1 : ((bs (textD D)).toList == (bs s).toList) = true := by rw [te]; simp
          have q2 : ((bs (textD D)).toList != (bs s).toList) = false := by rw [te]; simp
          clear te
          go_wp2
          refine bodyPost_ret (v := gotV (D, true)) (by simp [results, Tryd.results11, go_sem, gotV, dZero, m0, m1, m2, m3, m4, m5, m6, m7]) rfl ⟨by rw [HG.out], ?_⟩
          go_grown
        · have HG : Hid (RD = (dZero, false)) := HD.out.2 (fun h => te h.2)
          have q1 : ((bs (textD D)).toList == (bs s).toList) = false := by rw [beq_eq_false_iff_ne, bs_toList, bs_toList]; exact te
          have q2 : ((bs (textD D)).toList != (bs s).toList) = true := by rw [bne_iff_ne, bs_toList, bs_toList]; exact te
          clear te
          go_wp2
          refine bodyPost_ret (v := gotV (dZero, false)) (by simp [results, Tryd.results11, go_sem, gotV, dZero, m0, m1, m2, m3, m4, m5, m6, m7]) rfl ⟨by rw [HG.out], ?_⟩
          go_grown
      · rw [rightB_no ro]
        have HG : Hid (RD = (dZero, false)) := HD.out.2 (fun h => ro h.1)
        obtain ⟨hB, ⟨m0, m1, m2, m3, m4, m5, m6, m7, mf, mz⟩, lD⟩ := id hA
        go_wp2
        refine bodyPost_ret (v := gotV (dZero, false)) (by simp [results, Tryd.results11, go_sem, gotV, dZero, m0, m1, m2, m3, m4, m5, m6, m7]) rfl ⟨by rw [HG.out], ?_⟩
        go_grown

end Go.Proofs.YtndinbefljajcaaDoor.Dims

/-
  The walk of drachmlaw02.FracPowers: it returns true, whatever its arguments are; the world below stays as it was.
-/
import Derived.Test.YtfpopppapjfelaaDoorS3
import Derived.Test.YtfpopppapjfelaaDoorBQ
namespace Go.Proofs.YtfpopppapjfelaaDoor.Frac
open Go.RowKit
open Go.Proofs.YtfpopppapjfelaaDoor.Whole
set_option linter.unusedVariables false

/-- How the world stands at the head of a round: the number, and its power so far. -/
def XAt (w v : World) (A G : Got) (ba bx : Nat) : Prop := Below w.heap.size w v ∧ LiesF v ba A.n A.d A.t ∧ LiesF v bx G.n G.d G.t ∧ (∀ j, v.frozen? ⟨bx, j, none⟩ = false) ∧ w.heap.size ≤ bx ∧ ba ≠ bx

theorem XAt.below {w v v' : World} {A G : Got} {ba bx : Nat} (h : XAt w v A G ba bx) (hb : Below v.heap.size v v') : XAt w v' A G ba bx := by
  obtain ⟨h1, h2, h3, h4, h5, h6⟩ := h
  exact ⟨Below.go h1 hb, h2.go hb, h3.go hb, fun j => (hb.frozen (p := ⟨bx, j, none⟩) h3.2.2.2).trans (h4 j), h5, h6⟩

theorem XAt.set {w v : World} {A G : Got} {ba bx : Nat} (h : XAt w v A G ba bx) (M : Got) : XAt w (((v.setCell ⟨bx, 0, none⟩ (.int .i64 M.n)).setCell ⟨bx, 1, none⟩ (.int .i64 M.d)).setCell ⟨bx, 2, none⟩ (.int .i64 M.t)) A M ba bx := by
  obtain ⟨h1, ⟨a0, a1, a2, az⟩, ⟨x0, x1, x2, xz⟩, hf, hz, hne⟩ := h
  refine ⟨by go_grown, ⟨?_, ?_, ?_, ?_⟩, ⟨?_, ?_, ?_, ?_⟩, fun j => ?_, hz, hne⟩
  all_goals simp [go_sem, *]

set_option maxRecDepth 100000 in
set_option maxHeartbeats 4000000 in
theorem powers_walk (s0 s1 s2 k0 : Int) (w : World) (hT : OfTen w) (h0 : -9223372036854775808 ≤ s0 ∧ s0 ≤ 9223372036854775807) (h1 : -9223372036854775808 ≤ s1 ∧ s1 ≤ 9223372036854775807) (h2 : -9223372036854775808 ≤ s2 ∧ s2 ≤ 9223372036854775807) (h3 : -9223372036854775808 ≤ k0 ∧ k0 ≤ 9223372036854775807) :
    Calls Tryd.prog 6 #[.agg #[.int .i64 s0, .int .i64 s1, .int .i64 s2], .int .i64 k0] w fun e w' => e = .returned (.bool true) ∧ Below w.heap.size w w' := by
  have hB : Below w.heap.size w (w.alloc (.cells #[.int .i64 s0, .int .i64 s1, .int .i64 s2] 23)) := by go_grown
  have l0 : LiesF (w.alloc (.cells #[.int .i64 s0, .int .i64 s1, .int .i64 s2] 23)) w.heap.size s0 s1 s2 := by
    refine ⟨?_, ?_, ?_, ?_⟩
    all_goals simp [go_sem]
  obtain ⟨ra, ea⟩ := spec_right s0 s1 s2 h0.2 h1.2
  obtain ⟨a1, a2⟩ := spec_small s0 s1 s2 h0.2 h1.2
  have q2 := tmod_in k0 13 (by omega)
  go_enter Tryd.func6, Tryd.ntmps6
  go_wp2_with fail
  refine (awake2_yes _ (hT.below hB)).mono ?_
  rintro e w1 ⟨rfl, hb⟩
  replace hB := Below.go hB hb
  replace l0 := l0.go hb
  clear hb
  obtain ⟨c0, c1, c2, _⟩ := id l0
  go_wp2_with fail
  refine (spec_any s0 s1 s2 _ h0.2 h1.2 h2.1 h2.2).mono ?_
  rintro e w2 ⟨rfl, hb⟩
  generalize specG s0 s1 s2 = A at *
  have hB2 := Below.go hB hb
  have hz2 := hB2.size
  have hX : XAt w ((w2.alloc (.cells #[.int .i64 A.n, .int .i64 A.d, .int .i64 A.t] 24)).alloc (.cells #[.int .i64 1, .int .i64 1, .int .i64 0] 24)) A ⟨1, 1, 0, 0⟩ w2.heap.size (w2.heap.size + 1) := by
    refine ⟨by go_grown, (LiesF.new w2 A.n A.d A.t).put _, ⟨?_, ?_, ?_, ?_⟩, fun j => ?_, by omega, by omega⟩
    all_goals simp [go_sem]
  clear hb hB hB2 hz2 l0 c0 c1 c2
  have HR := Lib.hid ra
  clear ra ea h0 h1 h2
  go_wp2_with fail
  generalize w2.heap.size + 1 = bx at *
  generalize w2.heap.size = ba at *
  generalize (w2.alloc (.cells #[.int .i64 A.n, .int .i64 A.d, .int .i64 A.t] 24)).alloc (.cells #[.int .i64 1, .int .i64 1, .int .i64 0] 24) = W at *
  have bk : 0 ≤ (k0.tmod 13 + 13) % 13 ∧ (k0.tmod 13 + 13) % 13 ≤ 12 := by omega
  generalize (k0.tmod 13 + 13) % 13 = kk at *
  obtain ⟨K, rfl⟩ := Int.eq_ofNat_of_zero_le bk.1
  have hK : K ≤ 12 := by omega
  clear bk q2 h3
  go_loopw [9, 10] (fun a c v => ∃ i : Nat, c = .int .i64 i ∧ i ≤ K ∧ a = .int .i64 (powG A.n A.d A.t i).e ∧ XAt w v A (powG A.n A.d A.t i) ba bx) (fun _ c _ => K - (intOf c).toNat)
  case atStart =>
    have e0 : powG A.n A.d A.t ((0 : Nat) : Int) = ⟨1, 1, 0, 0⟩ := powG_none _ _ _ HR.out
    exact ⟨0, rfl, by omega, by rw [e0], by rw [e0]; exact hX⟩
  case round =>
    clear hX
    obtain ⟨i, rfl, hi, rfl, hX⟩ := hrel
    have FI := Lib.hid (powG_fine A.n A.d A.t a1 a2 HR.out i (by omega))
    by_cases hc : i < K ∧ (powG A.n A.d A.t i).e = 0
    · obtain ⟨hlt, he⟩ := hc
      have ST := Lib.hid (powG_step A.n A.d A.t a1 a2 HR.out i (by omega) he)
      obtain ⟨f1, f2, f3, f4, f5⟩ := FI.out he
      have e6 : ((powG A.n A.d A.t i).e == 0) = true := by simp [he]
      clear he
      generalize powG A.n A.d A.t i = G at *
      obtain ⟨hB, ⟨c0, c1, c2, _⟩, ⟨x0, x1, x2, _⟩, xf, xz, xne⟩ := id hX
      go_wp2_with fail
      refine (mul_any G.n G.d G.t A.n A.d A.t _ (hT.below hX.1) (by omega) f3 a1 a2).mono ?_
      rintro e v1 ⟨rfl, hb⟩
      rw [ST.out]
      unfold Got.v
      replace hX := hX.below hb
      clear hb x0 x1 x2 c0 c1 c2 hB xf xz xne
      obtain ⟨hB, ⟨c0, c1, c2, _⟩, ⟨x0, x1, x2, _⟩, xf, xz, xne⟩ := id hX
      go_wp2
      go_roundw
      case rel => exact ⟨i + 1, by go_num, by omega, rfl, hX.set _⟩
      case measure => simp only [intOf]; omega
    · have SK : powG A.n A.d A.t (K : Int) = powG A.n A.d A.t (i : Int) := by
        by_cases hik : i = K
        · rw [hik]
        · exact powG_stays A.n A.d A.t a1 a2 HR.out i K hi (by omega) (by omega)
      have hend : (i < K → ((powG A.n A.d A.t i).e == 0) = false) := by
        intro h; simp only [beq_eq_false_iff_ne]; omega
      have ER := powG_err A.n A.d A.t HR.out i (by omega)
      generalize hG : powG A.n A.d A.t (i : Int) = G at *
      have HG := Lib.hid SK
      clear SK hG hc
      generalize hD : powG A.n A.d A.t (-(K : Int)) = D
      have HD := Lib.hid hD
      clear hD
      obtain ⟨hB, ⟨c0, c1, c2, _⟩, ⟨x0, x1, x2, _⟩, xf, xz, xne⟩ := id hX
      by_cases hlt : i < K
      · have e6 := hend hlt
        clear hend
        have HO : Hid (G = over) := by
          rcases ER with h | h
          · rw [h] at e6; exact absurd e6 (by decide)
          · exact h
        clear ER FI
        have hzn : A.n ≠ 0 := by
          intro h0
          have hA0 := right_zero_is (d := A.d) (t := A.t) a2 (by rw [← h0]; exact HR.out)
          have := HG.out
          rw [h0, hA0.1, hA0.2, powG_zero_up K (by omega) (by omega), HO.out] at this
          exact absurd this (by decide)
        have zn : (A.n == 0) = false := by simpa using hzn
        have zk : ((K : Int) == 0) = false := by simp only [beq_eq_false_iff_ne]; omega
        have e7 : (G.e != 0) = true := by rw [HO.out]; decide
        clear hzn
        go_wp2_with fail
        refine (pow_any A.n A.d A.t K _ (hT.below hX.1) a1 a2).mono ?_
        rintro e v1 ⟨rfl, hb⟩
        rw [HG.out]
        unfold Got.v
        have ly := LiesF.new v1 G.n G.d G.t
        replace hX : XAt w (v1.alloc (.cells #[.int .i64 G.n, .int .i64 G.d, .int .i64 G.t] 24)) A G ba bx := (hX.below hb).below (by go_grown)
        clear hb x0 x1 x2 c0 c1 c2 hB xf xz xne
        obtain ⟨hB, ⟨c0, c1, c2, _⟩, ⟨x0, x1, x2, _⟩, xf, xz, xne⟩ := id hX
        go_wp2_with fail
        refine (pow_any A.n A.d A.t (-K) _ (hT.below hX.1) a1 a2).mono ?_
        rintro e v2 ⟨rfl, hb⟩
        rw [HD.out]
        unfold Got.v
        have lz := LiesF.new v2 D.n D.d D.t
        replace hX : XAt w (v2.alloc (.cells #[.int .i64 D.n, .int .i64 D.d, .int .i64 D.t] 24)) A G ba bx := (hX.below hb).below (by go_grown)
        replace ly := (ly.go hb).put (.cells #[.int .i64 D.n, .int .i64 D.d, .int .i64 D.t] 24)
        clear hb x0 x1 x2 c0 c1 c2 hB xf xz xne
        obtain ⟨hB, ⟨c0, c1, c2, _⟩, ⟨x0, x1, x2, _⟩, xf, xz, xne⟩ := id hX
        obtain ⟨y0, y1, y2, yz⟩ := id ly
        obtain ⟨z0, z1, z2, _⟩ := id lz
        go_wp2_with fail
        refine (div_any 1 1 0 G.n G.d G.t _ (hT.below hX.1) (by omega) (by omega) (by rw [HO.out]; decide) (by rw [HO.out]; decide)).mono ?_
        rintro e v3 ⟨rfl, hb⟩
        generalize divG 1 1 0 G.n G.d G.t = R
        unfold Got.v
        have hB3 := Below.go hX.1 hb
        have hz3 := hB3.size
        clear hb x0 x1 x2 c0 c1 c2 hB xf xz xne y0 y1 y2 yz z0 z1 z2
        go_wp2
        go_ret
        exact ⟨by simp, by go_grown⟩
      · obtain rfl : i = K := by omega
        clear hend
        by_cases hk0 : i = 0
        · subst hk0
          have HG1 : Hid (G = ⟨1, 1, 0, 0⟩) := by show G = _; rw [← HG.out]; exact powG_none _ _ _ HR.out
          have HD1 : Hid (D = ⟨1, 1, 0, 0⟩) := by show D = _; rw [← HD.out]; exact powG_none _ _ _ HR.out
          obtain rfl := HG1.out
          obtain rfl := HD1.out
          clear ER FI hK hi hlt
          go_wp2_with fail
          refine (pow_any A.n A.d A.t 0 _ (hT.below hX.1) a1 a2).mono ?_
          rintro e v1 ⟨rfl, hb⟩
          rw [show powG A.n A.d A.t 0 = _ from HG.out]
          unfold Got.v
          have ly := LiesF.new v1 1 1 0
          replace hX : XAt w (v1.alloc (.cells #[.int .i64 1, .int .i64 1, .int .i64 0] 24)) A ⟨1, 1, 0, 0⟩ ba bx := (hX.below hb).below (by go_grown)
          clear hb x0 x1 x2 c0 c1 c2 hB xf xz xne
          obtain ⟨hB, ⟨c0, c1, c2, _⟩, ⟨x0, x1, x2, _⟩, xf, xz, xne⟩ := id hX
          go_wp2_with fail
          refine (pow_any A.n A.d A.t 0 _ (hT.below hX.1) a1 a2).mono ?_
          rintro e v2 ⟨rfl, hb⟩
          rw [show powG A.n A.d A.t 0 = _ from HG.out]
          unfold Got.v
          have lz := LiesF.new v2 1 1 0
          replace hX : XAt w (v2.alloc (.cells #[.int .i64 1, .int .i64 1, .int .i64 0] 24)) A ⟨1, 1, 0, 0⟩ ba bx := (hX.below hb).below (by go_grown)
          replace ly := (ly.go hb).put (.cells #[.int .i64 1, .int .i64 1, .int .i64 0] 24)
          clear hb x0 x1 x2 c0 c1 c2 hB xf xz xne
          obtain ⟨hB, ⟨c0, c1, c2, _⟩, ⟨x0, x1, x2, _⟩, xf, xz, xne⟩ := id hX
          obtain ⟨y0, y1, y2, yz⟩ := id ly
          obtain ⟨z0, z1, z2, _⟩ := id lz
          go_wp2
          go_ret
          exact ⟨by simp, hB⟩
        have zk : ((i : Int) == 0) = false := by simp only [beq_eq_false_iff_ne]; omega
        by_cases hzn : A.n = 0
        · have hA0 := right_zero_is (d := A.d) (t := A.t) a2 (by rw [← hzn]; exact HR.out)
          have HG1 : Hid (G = ⟨0, 1, 0, 0⟩) := by show G = _; rw [← HG.out, hzn, hA0.1, hA0.2]; exact powG_zero_up i (by omega) (by omega)
          have HD1 : Hid (D = ⟨0, 0, 0, 11⟩) := by show D = _; rw [← HD.out, hzn, hA0.1, hA0.2]; exact powG_zero_down i (by omega) (by omega)
          have HA1 : Hid (A.n = 0 ∧ A.d = 1 ∧ A.t = 0) := ⟨hzn, hA0.1, hA0.2⟩
          have w1 : A.n ≤ 0 ∧ 0 ≤ A.n := by omega
          have w2 : A.d ≤ 1 ∧ 1 ≤ A.d := by omega
          have w3 : A.t ≤ 0 ∧ 0 ≤ A.t := by omega
          have zn : (A.n == 0) = true := by simpa using hzn
          have g1 : G.n ≤ 0 ∧ 0 ≤ G.n := by rw [HG1.out]; decide
          have g2 : G.d ≤ 1 ∧ 1 ≤ G.d := by rw [HG1.out]; decide
          have g3 : G.t ≤ 0 ∧ 0 ≤ G.t := by rw [HG1.out]; decide
          have e7 : (G.e != 0) = false := by rw [HG1.out]; decide
          have e8 : (G.e == 0) = true := by rw [HG1.out]; decide
          have e9 : (D.e == 11) = true := by rw [HD1.out]; decide
          clear hzn hA0 ER FI
          go_wp2_with fail
          refine (pow_any A.n A.d A.t i _ (hT.below hX.1) a1 a2).mono ?_
          rintro e v1 ⟨rfl, hb⟩
          rw [HG.out]
          unfold Got.v
          have ly := LiesF.new v1 G.n G.d G.t
          replace hX : XAt w (v1.alloc (.cells #[.int .i64 G.n, .int .i64 G.d, .int .i64 G.t] 24)) A G ba bx := (hX.below hb).below (by go_grown)
          clear hb x0 x1 x2 c0 c1 c2 hB xf xz xne
          obtain ⟨hB, ⟨c0, c1, c2, _⟩, ⟨x0, x1, x2, _⟩, xf, xz, xne⟩ := id hX
          go_wp2_with fail
          refine (pow_any A.n A.d A.t (-i) _ (hT.below hX.1) a1 a2).mono ?_
          rintro e v2 ⟨rfl, hb⟩
          rw [HD.out]
          unfold Got.v
          have lz := LiesF.new v2 D.n D.d D.t
          replace hX : XAt w (v2.alloc (.cells #[.int .i64 D.n, .int .i64 D.d, .int .i64 D.t] 24)) A G ba bx := (hX.below hb).below (by go_grown)
          replace ly := (ly.go hb).put (.cells #[.int .i64 D.n, .int .i64 D.d, .int .i64 D.t] 24)
          clear hb x0 x1 x2 c0 c1 c2 hB xf xz xne
          obtain ⟨hB, ⟨c0, c1, c2, _⟩, ⟨x0, x1, x2, _⟩, xf, xz, xne⟩ := id hX
          obtain ⟨y0, y1, y2, yz⟩ := id ly
          obtain ⟨z0, z1, z2, _⟩ := id lz
          go_wp2
          go_ret
          exact ⟨by simp, hB⟩
        · have zn : (A.n == 0) = false := by simpa using hzn
          rcases ER with he | he
          · obtain ⟨f1, f2, f3, f4, f5⟩ := FI.out he
            have HQ : Hid (divG 1 1 0 G.n G.d G.t = D) := by
              show _ = D
              have g := right_good_of a1 a2 hzn HR.out
              have pu := powG_up hzn g HR.out i (by omega)
              rw [HG.out] at pu
              have := pow_div a1 a2 hzn g HR.out i (by omega) (by omega) (by rw [← pu]; exact he)
              rw [← pu] at this
              rw [this]; exact HD.out
            have e7 : (G.e != 0) = false := by simp [he]
            have e8 : (G.e == 0) = true := by simp [he]
            clear he hzn FI
            go_wp2_with fail
            refine (pow_any A.n A.d A.t i _ (hT.below hX.1) a1 a2).mono ?_
            rintro e v1 ⟨rfl, hb⟩
            rw [HG.out]
            unfold Got.v
            have ly := LiesF.new v1 G.n G.d G.t
            replace hX : XAt w (v1.alloc (.cells #[.int .i64 G.n, .int .i64 G.d, .int .i64 G.t] 24)) A G ba bx := (hX.below hb).below (by go_grown)
            clear hb x0 x1 x2 c0 c1 c2 hB xf xz xne
            obtain ⟨hB, ⟨c0, c1, c2, _⟩, ⟨x0, x1, x2, _⟩, xf, xz, xne⟩ := id hX
            go_wp2_with fail
            refine (pow_any A.n A.d A.t (-i) _ (hT.below hX.1) a1 a2).mono ?_
            rintro e v2 ⟨rfl, hb⟩
            rw [HD.out]
            unfold Got.v
            have lz := LiesF.new v2 D.n D.d D.t
            replace hX : XAt w (v2.alloc (.cells #[.int .i64 D.n, .int .i64 D.d, .int .i64 D.t] 24)) A G ba bx := (hX.below hb).below (by go_grown)
            replace ly := (ly.go hb).put (.cells #[.int .i64 D.n, .int .i64 D.d, .int .i64 D.t] 24)
            clear hb x0 x1 x2 c0 c1 c2 hB xf xz xne
            obtain ⟨hB, ⟨c0, c1, c2, _⟩, ⟨x0, x1, x2, _⟩, xf, xz, xne⟩ := id hX
            obtain ⟨y0, y1, y2, yz⟩ := id ly
            obtain ⟨z0, z1, z2, _⟩ := id lz
            go_wp2_with fail
            refine (div_any 1 1 0 G.n G.d G.t _ (hT.below hX.1) (by omega) (by omega) (by omega) f3).mono ?_
            rintro e v3 ⟨rfl, hb⟩
            rw [HQ.out]
            unfold Got.v
            have lz3 := lz.go hb
            have hB3 := Below.go hX.1 hb
            have hz3 := hB3.size
            clear hb x0 x1 x2 c0 c1 c2 hB xf xz xne y0 y1 y2 yz z0 z1 z2
            obtain ⟨z0, z1, z2, zz⟩ := id lz3
            go_wp2
            go_ret
            exact ⟨by simp, by go_grown⟩
          · have HO : Hid (G = over) := he
            have e7 : (G.e != 0) = true := by rw [he]; decide
            have e8 : (G.e == 0) = false := by rw [he]; decide
            clear he hzn FI
            go_wp2_with fail
            refine (pow_any A.n A.d A.t i _ (hT.below hX.1) a1 a2).mono ?_
            rintro e v1 ⟨rfl, hb⟩
            rw [HG.out]
            unfold Got.v
            have ly := LiesF.new v1 G.n G.d G.t
            replace hX : XAt w (v1.alloc (.cells #[.int .i64 G.n, .int .i64 G.d, .int .i64 G.t] 24)) A G ba bx := (hX.below hb).below (by go_grown)
            clear hb x0 x1 x2 c0 c1 c2 hB xf xz xne
            obtain ⟨hB, ⟨c0, c1, c2, _⟩, ⟨x0, x1, x2, _⟩, xf, xz, xne⟩ := id hX
            go_wp2_with fail
            refine (pow_any A.n A.d A.t (-i) _ (hT.below hX.1) a1 a2).mono ?_
            rintro e v2 ⟨rfl, hb⟩
            rw [HD.out]
            unfold Got.v
            have lz := LiesF.new v2 D.n D.d D.t
            replace hX : XAt w (v2.alloc (.cells #[.int .i64 D.n, .int .i64 D.d, .int .i64 D.t] 24)) A G ba bx := (hX.below hb).below (by go_grown)
            replace ly := (ly.go hb).put (.cells #[.int .i64 D.n, .int .i64 D.d, .int .i64 D.t] 24)
            clear hb x0 x1 x2 c0 c1 c2 hB xf xz xne
            obtain ⟨hB, ⟨c0, c1, c2, _⟩, ⟨x0, x1, x2, _⟩, xf, xz, xne⟩ := id hX
            obtain ⟨y0, y1, y2, yz⟩ := id ly
            obtain ⟨z0, z1, z2, _⟩ := id lz
            go_wp2_with fail
            refine (div_any 1 1 0 G.n G.d G.t _ (hT.below hX.1) (by omega) (by omega) (by rw [HO.out]; decide) (by rw [HO.out]; decide)).mono ?_
            rintro e v3 ⟨rfl, hb⟩
            generalize divG 1 1 0 G.n G.d G.t = R
            unfold Got.v
            have hB3 := Below.go hX.1 hb
            have hz3 := hB3.size
            clear hb x0 x1 x2 c0 c1 c2 hB xf xz xne y0 y1 y2 yz z0 z1 z2
            go_wp2
            go_ret
            exact ⟨by simp, by go_grown⟩

end Go.Proofs.YtfpopppapjfelaaDoor.Frac

/-
  The walk of CodesBack.
-/
import Derived.Test.YtpmibcdmaaagjaaH7
import Derived.Deep.RegionHeld3
namespace Go.Proofs.Ytpmibcdmaaagjaa.Atoms
open Go.RowKit Go.Shelf Go.Proofs.Ytpmibcdmaaagjaa.Ranges
set_option linter.unusedVariables false
set_option linter.unusedSimpArgs false

/-- In no notation have two places one code. -/
def onceB (cs : List C5) : Bool := (List.range cs.length).all fun a => (List.range cs.length).all fun b => (List.range 5).all fun c =>
  a == b || (((cs.getD a noC).get c).isEmpty || !((cs.getD a noC).get c == (cs.getD b noC).get c))
theorem once_A : onceB csA = true := by decide +kernel
theorem once_P : onceB csP = true := by decide +kernel
theorem once_of {cs : List C5} (h : onceB cs = true) (a c : Nat) (ha : a < cs.length) (hc : c < 5) (hne : codeI cs (1 + (c : Int)) a ≠ []) (b : Nat) (hb : b < cs.length) (he : codeI cs (1 + (c : Int)) b = codeI cs (1 + (c : Int)) a) : b = a := by
  have h1 := List.all_eq_true.1 h a (by simpa using ha)
  have h2 := List.all_eq_true.1 h1 b (by simpa using hb)
  have h3 := List.all_eq_true.1 h2 c (by simpa using hc)
  rw [codeI_in (by omega), show (1 + (c : Int) - 1).toNat = c by omega] at hne he
  rw [codeI_in (by omega), show (1 + (c : Int) - 1).toNat = c by omega] at he
  simp only [Bool.or_eq_true, Bool.not_eq_true', beq_eq_false_iff_ne, beq_iff_eq, List.isEmpty_iff] at h3
  rcases h3 with h3 | h3 | h3
  · exact h3.symm
  · exact absurd h3 hne
  · exact absurd he.symm h3
theorem codeAt_nat (cs : List C5) (n : Int) (a : Nat) : codeAtI cs n (a : Int) = codeI cs n a := by unfold codeAtI; rw [if_pos (by omega), Int.toNat_natCast]
/-- What is told at a place is found there, if it is a code. -/
theorem back_of {cs : List C5} (h : onceB cs = true) (a c : Nat) (ha : a < cs.length) (hc : c < 5) :
    (codeI cs (1 + (c : Int)) a = [] ∧ placeI cs (1 + (c : Int)) (codeI cs (1 + (c : Int)) a) = -1) ∨ (codeI cs (1 + (c : Int)) a ≠ [] ∧ placeI cs (1 + (c : Int)) (codeI cs (1 + (c : Int)) a) = (a : Int)) := by
  by_cases hx : codeI cs (1 + (c : Int)) a = []
  · exact .inl ⟨hx, by rw [hx]; exact place_empty _ _⟩
  · exact .inr ⟨hx, code_place ha hx fun b hb he => once_of h a c ha hc hx b hb he⟩
/-- What is found is told. -/
theorem told_of (cs : List C5) (n : Int) (s : List UInt8) : (placeI cs n s = -1) ∨ (0 ≤ placeI cs n s ∧ placeI cs n s < cs.length ∧ codeAtI cs n (placeI cs n s) = s) := by
  by_cases h : 0 ≤ placeI cs n s
  · exact .inr ⟨h, (place_code h).2.2, (place_code h).1⟩
  · exact .inl (place_none (by omega))

attribute [local irreducible] tableRs tablePs csA csP placeI codeAtI codeI

set_option maxRecDepth 100000 in
set_option maxHeartbeats 40000000 in
theorem back_walk (n at_ : Int) (s0 : ByteArray) (w : World) (hs : s0.size ≤ maxLen) :
    Calls Try.prog 4 #[.int .i64 n, .int .i64 at_, .string s0] w fun e w' => e = .returned (.bool true) ∧ Below w.heap.size w w' := by
  obtain ⟨a, ha⟩ : ∃ a, restN at_ 48 = a := ⟨_, rfl⟩
  obtain ⟨p, hp⟩ : ∃ p, restN at_ 20 = p := ⟨_, rfl⟩
  obtain ⟨c, hc⟩ : ∃ c, restN n 5 = c := ⟨_, rfl⟩
  have a48 : a < 48 := by rw [← ha]; exact restN_lt at_ 48 (by omega)
  have p20 : p < 20 := by rw [← hp]; exact restN_lt at_ 20 (by omega)
  have c5 : c < 5 := by rw [← hc]; exact restN_lt n 5 (by omega)
  have ra := fun W => rest6_any at_ 48 W (by omega) (by omega)
  have rp := fun W => rest6_any at_ 20 W (by omega) (by omega)
  have rc := fun W => rest6_any n 5 W (by omega) (by omega)
  rw [ha] at ra
  rw [hp] at rp
  rw [hc] at rc
  clear ha hp hc
  have FA := back_of once_A a c (by rw [csA_len]; exact a48) c5
  have FP := back_of once_P p c (by rw [csP_len]; exact p20) c5
  have ia : (a : Int) < 48 := by omega
  have ip : (p : Int) < 20 := by omega
  have ic : (c : Int) < 5 := by omega
  have hA := fun W => code_any (1 + (c : Int)) a W (by omega)
  have hP := fun W => prefixCode_any (1 + (c : Int)) p W (by omega)
  have gA := fun s W => findA_any (1 + (c : Int)) s W (by omega)
  have gP := fun s W => findP_any (1 + (c : Int)) s W (by omega)
  have cA := fun q W => code_any (1 + (c : Int)) q W (by omega)
  have cP := fun q W => prefixCode_any (1 + (c : Int)) q W (by omega)
  rw [codeAt_nat] at hA hP
  generalize codeI csA (1 + (c : Int)) a = x at *
  generalize codeI csP (1 + (c : Int)) p = y at *
  have HFA := Lib.hid FA
  have HFP := Lib.hid FP
  clear FA FP
  go_enter Try.func4, Try.ntmps4
  go_wp2_with fail
  refine (awake6_yes w).mono ?_
  rintro e w1 ⟨rfl, hb1⟩
  by_cases hsz : 12 < (s0.size : Int)
  · go_wp2_with fail
    rw [← bs_of (s0.extract 0 12)]
    generalize (s0.extract 0 12).data.toList = l
    refine (rc _).mono ?_
    rintro e w' ⟨rfl, rfl⟩
    go_wp2_with fail
    refine (ra _).mono ?_
    rintro e w' ⟨rfl, rfl⟩
    go_wp2_with fail
    refine (hA _).mono ?_
    rintro e w2 ⟨rfl, hb2⟩
    go_wp2_with fail
    refine (gA _ _).mono ?_
    rintro e w3 ⟨rfl, hb3⟩
    go_wp2_with fail
    refine (rp _).mono ?_
    rintro e w' ⟨rfl, rfl⟩
    go_wp2_with fail
    refine (hP _).mono ?_
    rintro e w4 ⟨rfl, hb4⟩
    go_wp2_with fail
    refine (gP _ _).mono ?_
    rintro e w5 ⟨rfl, hb5⟩
    have hB : Below w.heap.size w w5 := hb1.trans ((hb2.trans ((hb3.trans ((hb4.trans (hb5.mono hb4.size)).mono hb3.size)).mono hb2.size)).mono hb1.size)
    clear hb1 hb2 hb3 hb4 hb5 hA hP rc
    rcases HFA.out with ⟨ex, px⟩ | ⟨ex, px⟩
    · have e1 : (bs x).toList.isEmpty = true := by rw [ex]; exact bs_none
      rw [px]
      have d1 : decide ((0 : Int) ≤ -1) = false := rfl
      rw [d1]
      clear ex px d1
      rcases HFP.out with ⟨ey, py⟩ | ⟨ey, py⟩
      · have e2 : (bs y).toList.isEmpty = true := by rw [ey]; exact bs_none
        rw [py]
        have d2 : decide ((0 : Int) ≤ -1) = false := rfl
        rw [d2]
        clear ey py d2
        go_wp2_with fail
        refine (gA _ _).mono ?_
        rintro e w6 ⟨rfl, hb6⟩
        rcases told_of csA (1 + (c : Int)) l with hq | ⟨hq, hq8, hqe⟩
        · rw [hq, show decide ((0 : Int) ≤ -1) = false from rfl]
          clear hq
          go_wp2_with fail
          refine (gP _ _).mono ?_
          rintro e w7 ⟨rfl, hb7⟩
          rcases told_of csP (1 + (c : Int)) l with hr | ⟨hr, hr8, hre⟩
          · rw [hr, show decide ((0 : Int) ≤ -1) = false from rfl]
            clear hr
            have hB7 := hB.trans ((hb6.trans (hb7.mono hb6.size)).mono hB.size)
            clear hb6 hb7 hB
            go_wp2
            go_ret
            exact ⟨rfl, hB7⟩
          · have cPl := fun W => cP (placeI csP (1 + (c : Int)) l) W
            rw [hre] at cPl
            rw [csP_len] at hr8
            generalize placeI csP (1 + (c : Int)) l = qp at *
            rw [decide_eq_true hr]
            clear hre
            have hB7 := hB.trans ((hb6.trans (hb7.mono hb6.size)).mono hB.size)
            clear hb6 hb7 hB
            go_wp2_with fail
            refine (cPl _).mono ?_
            rintro e w9 ⟨rfl, hb9⟩
            replace hB7 := hB7.trans (hb9.mono hB7.size)
            clear hb9
            go_wp2
            go_ret
            exact ⟨rfl, hB7⟩
        · have cAl := fun W => cA (placeI csA (1 + (c : Int)) l) W
          rw [hqe] at cAl
          rw [csA_len] at hq8
          generalize placeI csA (1 + (c : Int)) l = qa at *
          rw [decide_eq_true hq]
          clear hqe
          go_wp2_with fail
          refine (gP _ _).mono ?_
          rintro e w7 ⟨rfl, hb7⟩
          rcases told_of csP (1 + (c : Int)) l with hr | ⟨hr, hr8, hre⟩
          · rw [hr, show decide ((0 : Int) ≤ -1) = false from rfl]
            clear hr
            have hB7 := hB.trans ((hb6.trans (hb7.mono hb6.size)).mono hB.size)
            clear hb6 hb7 hB
            go_wp2_with fail
            refine (cAl _).mono ?_
            rintro e w8 ⟨rfl, hb8⟩
            replace hB7 := hB7.trans (hb8.mono hB7.size)
            clear hb8
            go_wp2
            go_ret
            exact ⟨rfl, hB7⟩
          · have cPl := fun W => cP (placeI csP (1 + (c : Int)) l) W
            rw [hre] at cPl
            rw [csP_len] at hr8
            generalize placeI csP (1 + (c : Int)) l = qp at *
            rw [decide_eq_true hr]
            clear hre
            have hB7 := hB.trans ((hb6.trans (hb7.mono hb6.size)).mono hB.size)
            clear hb6 hb7 hB
            go_wp2_with fail
            refine (cAl _).mono ?_
            rintro e w8 ⟨rfl, hb8⟩
            replace hB7 := hB7.trans (hb8.mono hB7.size)
            clear hb8
            go_wp2_with fail
            refine (cPl _).mono ?_
            rintro e w9 ⟨rfl, hb9⟩
            replace hB7 := hB7.trans (hb9.mono hB7.size)
            clear hb9
            go_wp2
            go_ret
            exact ⟨rfl, hB7⟩
      · have e2 : (bs y).toList.isEmpty = false := bs_some ey
        rw [py]
        have d2 : decide ((0 : Int) ≤ (p : Int)) = true := by simp
        rw [d2]
        clear ey py d2
        go_wp2_with fail
        refine (rp _).mono ?_
        rintro e w' ⟨rfl, rfl⟩
        go_wp2_with fail
        refine (gA _ _).mono ?_
        rintro e w6 ⟨rfl, hb6⟩
        rcases told_of csA (1 + (c : Int)) l with hq | ⟨hq, hq8, hqe⟩
        · rw [hq, show decide ((0 : Int) ≤ -1) = false from rfl]
          clear hq
          go_wp2_with fail
          refine (gP _ _).mono ?_
          rintro e w7 ⟨rfl, hb7⟩
          rcases told_of csP (1 + (c : Int)) l with hr | ⟨hr, hr8, hre⟩
          · rw [hr, show decide ((0 : Int) ≤ -1) = false from rfl]
            clear hr
            have hB7 := hB.trans ((hb6.trans (hb7.mono hb6.size)).mono hB.size)
            clear hb6 hb7 hB
            go_wp2
            go_ret
            exact ⟨rfl, hB7⟩
          · have cPl := fun W => cP (placeI csP (1 + (c : Int)) l) W
            rw [hre] at cPl
            rw [csP_len] at hr8
            generalize placeI csP (1 + (c : Int)) l = qp at *
            rw [decide_eq_true hr]
            clear hre
            have hB7 := hB.trans ((hb6.trans (hb7.mono hb6.size)).mono hB.size)
            clear hb6 hb7 hB
            go_wp2_with fail
            refine (cPl _).mono ?_
            rintro e w9 ⟨rfl, hb9⟩
            replace hB7 := hB7.trans (hb9.mono hB7.size)
            clear hb9
            go_wp2
            go_ret
            exact ⟨rfl, hB7⟩
        · have cAl := fun W => cA (placeI csA (1 + (c : Int)) l) W
          rw [hqe] at cAl
          rw [csA_len] at hq8
          generalize placeI csA (1 + (c : Int)) l = qa at *
          rw [decide_eq_true hq]
          clear hqe
          go_wp2_with fail
          refine (gP _ _).mono ?_
          rintro e w7 ⟨rfl, hb7⟩
          rcases told_of csP (1 + (c : Int)) l with hr | ⟨hr, hr8, hre⟩
          · rw [hr, show decide ((0 : Int) ≤ -1) = false from rfl]
            clear hr
            have hB7 := hB.trans ((hb6.trans (hb7.mono hb6.size)).mono hB.size)
            clear hb6 hb7 hB
            go_wp2_with fail
            refine (cAl _).mono ?_
            rintro e w8 ⟨rfl, hb8⟩
            replace hB7 := hB7.trans (hb8.mono hB7.size)
            clear hb8
            go_wp2
            go_ret
            exact ⟨rfl, hB7⟩
          · have cPl := fun W => cP (placeI csP (1 + (c : Int)) l) W
            rw [hre] at cPl
            rw [csP_len] at hr8
            generalize placeI csP (1 + (c : Int)) l = qp at *
            rw [decide_eq_true hr]
            clear hre
            have hB7 := hB.trans ((hb6.trans (hb7.mono hb6.size)).mono hB.size)
            clear hb6 hb7 hB
            go_wp2_with fail
            refine (cAl _).mono ?_
            rintro e w8 ⟨rfl, hb8⟩
            replace hB7 := hB7.trans (hb8.mono hB7.size)
            clear hb8
            go_wp2_with fail
            refine (cPl _).mono ?_
            rintro e w9 ⟨rfl, hb9⟩
            replace hB7 := hB7.trans (hb9.mono hB7.size)
            clear hb9
            go_wp2
            go_ret
            exact ⟨rfl, hB7⟩
    · have e1 : (bs x).toList.isEmpty = false := bs_some ex
      rw [px]
      have d1 : decide ((0 : Int) ≤ (a : Int)) = true := by simp
      rw [d1]
      clear ex px d1
      rcases HFP.out with ⟨ey, py⟩ | ⟨ey, py⟩
      · have e2 : (bs y).toList.isEmpty = true := by rw [ey]; exact bs_none
        rw [py]
        have d2 : decide ((0 : Int) ≤ -1) = false := rfl
        rw [d2]
        clear ey py d2
        go_wp2_with fail
        refine (ra _).mono ?_
        rintro e w' ⟨rfl, rfl⟩
        go_wp2_with fail
        refine (gA _ _).mono ?_
        rintro e w6 ⟨rfl, hb6⟩
        rcases told_of csA (1 + (c : Int)) l with hq | ⟨hq, hq8, hqe⟩
        · rw [hq, show decide ((0 : Int) ≤ -1) = false from rfl]
          clear hq
          go_wp2_with fail
          refine (gP _ _).mono ?_
          rintro e w7 ⟨rfl, hb7⟩
          rcases told_of csP (1 + (c : Int)) l with hr | ⟨hr, hr8, hre⟩
          · rw [hr, show decide ((0 : Int) ≤ -1) = false from rfl]
            clear hr
            have hB7 := hB.trans ((hb6.trans (hb7.mono hb6.size)).mono hB.size)
            clear hb6 hb7 hB
            go_wp2
            go_ret
            exact ⟨rfl, hB7⟩
          · have cPl := fun W => cP (placeI csP (1 + (c : Int)) l) W
            rw [hre] at cPl
            rw [csP_len] at hr8
            generalize placeI csP (1 + (c : Int)) l = qp at *
            rw [decide_eq_true hr]
            clear hre
            have hB7 := hB.trans ((hb6.trans (hb7.mono hb6.size)).mono hB.size)
            clear hb6 hb7 hB
            go_wp2_with fail
            refine (cPl _).mono ?_
            rintro e w9 ⟨rfl, hb9⟩
            replace hB7 := hB7.trans (hb9.mono hB7.size)
            clear hb9
            go_wp2
            go_ret
            exact ⟨rfl, hB7⟩
        · have cAl := fun W => cA (placeI csA (1 + (c : Int)) l) W
          rw [hqe] at cAl
          rw [csA_len] at hq8
          generalize placeI csA (1 + (c : Int)) l = qa at *
          rw [decide_eq_true hq]
          clear hqe
          go_wp2_with fail
          refine (gP _ _).mono ?_
          rintro e w7 ⟨rfl, hb7⟩
          rcases told_of csP (1 + (c : Int)) l with hr | ⟨hr, hr8, hre⟩
          · rw [hr, show decide ((0 : Int) ≤ -1) = false from rfl]
            clear hr
            have hB7 := hB.trans ((hb6.trans (hb7.mono hb6.size)).mono hB.size)
            clear hb6 hb7 hB
            go_wp2_with fail
            refine (cAl _).mono ?_
            rintro e w8 ⟨rfl, hb8⟩
            replace hB7 := hB7.trans (hb8.mono hB7.size)
            clear hb8
            go_wp2
            go_ret
            exact ⟨rfl, hB7⟩
          · have cPl := fun W => cP (placeI csP (1 + (c : Int)) l) W
            rw [hre] at cPl
            rw [csP_len] at hr8
            generalize placeI csP (1 + (c : Int)) l = qp at *
            rw [decide_eq_true hr]
            clear hre
            have hB7 := hB.trans ((hb6.trans (hb7.mono hb6.size)).mono hB.size)
            clear hb6 hb7 hB
            go_wp2_with fail
            refine (cAl _).mono ?_
            rintro e w8 ⟨rfl, hb8⟩
            replace hB7 := hB7.trans (hb8.mono hB7.size)
            clear hb8
            go_wp2_with fail
            refine (cPl _).mono ?_
            rintro e w9 ⟨rfl, hb9⟩
            replace hB7 := hB7.trans (hb9.mono hB7.size)
            clear hb9
            go_wp2
            go_ret
            exact ⟨rfl, hB7⟩
      · have e2 : (bs y).toList.isEmpty = false := bs_some ey
        rw [py]
        have d2 : decide ((0 : Int) ≤ (p : Int)) = true := by simp
        rw [d2]
        clear ey py d2
        go_wp2_with fail
        refine (ra _).mono ?_
        rintro e w' ⟨rfl, rfl⟩
        go_wp2_with fail
        refine (rp _).mono ?_
        rintro e w' ⟨rfl, rfl⟩
        go_wp2_with fail
        refine (gA _ _).mono ?_
        rintro e w6 ⟨rfl, hb6⟩
        rcases told_of csA (1 + (c : Int)) l with hq | ⟨hq, hq8, hqe⟩
        · rw [hq, show decide ((0 : Int) ≤ -1) = false from rfl]
          clear hq
          go_wp2_with fail
          refine (gP _ _).mono ?_
          rintro e w7 ⟨rfl, hb7⟩
          rcases told_of csP (1 + (c : Int)) l with hr | ⟨hr, hr8, hre⟩
          · rw [hr, show decide ((0 : Int) ≤ -1) = false from rfl]
            clear hr
            have hB7 := hB.trans ((hb6.trans (hb7.mono hb6.size)).mono hB.size)
            clear hb6 hb7 hB
            go_wp2
            go_ret
            exact ⟨rfl, hB7⟩
          · have cPl := fun W => cP (placeI csP (1 + (c : Int)) l) W
            rw [hre] at cPl
            rw [csP_len] at hr8
            generalize placeI csP (1 + (c : Int)) l = qp at *
            rw [decide_eq_true hr]
            clear hre
            have hB7 := hB.trans ((hb6.trans (hb7.mono hb6.size)).mono hB.size)
            clear hb6 hb7 hB
            go_wp2_with fail
            refine (cPl _).mono ?_
            rintro e w9 ⟨rfl, hb9⟩
            replace hB7 := hB7.trans (hb9.mono hB7.size)
            clear hb9
            go_wp2
            go_ret
            exact ⟨rfl, hB7⟩
        · have cAl := fun W => cA (placeI csA (1 + (c : Int)) l) W
          rw [hqe] at cAl
          rw [csA_len] at hq8
          generalize placeI csA (1 + (c : Int)) l = qa at *
          rw [decide_eq_true hq]
          clear hqe
          go_wp2_with fail
          refine (gP _ _).mono ?_
          rintro e w7 ⟨rfl, hb7⟩
          rcases told_of csP (1 + (c : Int)) l with hr | ⟨hr, hr8, hre⟩
          · rw [hr, show decide ((0 : Int) ≤ -1) = false from rfl]
            clear hr
            have hB7 := hB.trans ((hb6.trans (hb7.mono hb6.size)).mono hB.size)
            clear hb6 hb7 hB
            go_wp2_with fail
            refine (cAl _).mono ?_
            rintro e w8 ⟨rfl, hb8⟩
            replace hB7 := hB7.trans (hb8.mono hB7.size)
            clear hb8
            go_wp2
            go_ret
            exact ⟨rfl, hB7⟩
          · have cPl := fun W => cP (placeI csP (1 + (c : Int)) l) W
            rw [hre] at cPl
            rw [csP_len] at hr8
            generalize placeI csP (1 + (c : Int)) l = qp at *
            rw [decide_eq_true hr]
            clear hre
            have hB7 := hB.trans ((hb6.trans (hb7.mono hb6.size)).mono hB.size)
            clear hb6 hb7 hB
            go_wp2_with fail
            refine (cAl _).mono ?_
            rintro e w8 ⟨rfl, hb8⟩
            replace hB7 := hB7.trans (hb8.mono hB7.size)
            clear hb8
            go_wp2_with fail
            refine (cPl _).mono ?_
            rintro e w9 ⟨rfl, hb9⟩
            replace hB7 := hB7.trans (hb9.mono hB7.size)
            clear hb9
            go_wp2
            go_ret
            exact ⟨rfl, hB7⟩
  · go_wp2_with fail
    clear hs hsz
    rw [← bs_of s0]
    generalize s0.data.toList = l
    refine (rc _).mono ?_
    rintro e w' ⟨rfl, rfl⟩
    go_wp2_with fail
    refine (ra _).mono ?_
    rintro e w' ⟨rfl, rfl⟩
    go_wp2_with fail
    refine (hA _).mono ?_
    rintro e w2 ⟨rfl, hb2⟩
    go_wp2_with fail
    refine (gA _ _).mono ?_
    rintro e w3 ⟨rfl, hb3⟩
    go_wp2_with fail
    refine (rp _).mono ?_
    rintro e w' ⟨rfl, rfl⟩
    go_wp2_with fail
    refine (hP _).mono ?_
    rintro e w4 ⟨rfl, hb4⟩
    go_wp2_with fail
    refine (gP _ _).mono ?_
    rintro e w5 ⟨rfl, hb5⟩
    have hB : Below w.heap.size w w5 := hb1.trans ((hb2.trans ((hb3.trans ((hb4.trans (hb5.mono hb4.size)).mono hb3.size)).mono hb2.size)).mono hb1.size)
    clear hb1 hb2 hb3 hb4 hb5 hA hP rc
    rcases HFA.out with ⟨ex, px⟩ | ⟨ex, px⟩
    · have e1 : (bs x).toList.isEmpty = true := by rw [ex]; exact bs_none
      rw [px]
      have d1 : decide ((0 : Int) ≤ -1) = false := rfl
      rw [d1]
      clear ex px d1
      rcases HFP.out with ⟨ey, py⟩ | ⟨ey, py⟩
      · have e2 : (bs y).toList.isEmpty = true := by rw [ey]; exact bs_none
        rw [py]
        have d2 : decide ((0 : Int) ≤ -1) = false := rfl
        rw [d2]
        clear ey py d2
        go_wp2_with fail
        refine (gA _ _).mono ?_
        rintro e w6 ⟨rfl, hb6⟩
        rcases told_of csA (1 + (c : Int)) l with hq | ⟨hq, hq8, hqe⟩
        · rw [hq, show decide ((0 : Int) ≤ -1) = false from rfl]
          clear hq
          go_wp2_with fail
          refine (gP _ _).mono ?_
          rintro e w7 ⟨rfl, hb7⟩
          rcases told_of csP (1 + (c : Int)) l with hr | ⟨hr, hr8, hre⟩
          · rw [hr, show decide ((0 : Int) ≤ -1) = false from rfl]
            clear hr
            have hB7 := hB.trans ((hb6.trans (hb7.mono hb6.size)).mono hB.size)
            clear hb6 hb7 hB
            go_wp2
            go_ret
            exact ⟨rfl, hB7⟩
          · have cPl := fun W => cP (placeI csP (1 + (c : Int)) l) W
            rw [hre] at cPl
            rw [csP_len] at hr8
            generalize placeI csP (1 + (c : Int)) l = qp at *
            rw [decide_eq_true hr]
            clear hre
            have hB7 := hB.trans ((hb6.trans (hb7.mono hb6.size)).mono hB.size)
            clear hb6 hb7 hB
            go_wp2_with fail
            refine (cPl _).mono ?_
            rintro e w9 ⟨rfl, hb9⟩
            replace hB7 := hB7.trans (hb9.mono hB7.size)
            clear hb9
            go_wp2
            go_ret
            exact ⟨rfl, hB7⟩
        · have cAl := fun W => cA (placeI csA (1 + (c : Int)) l) W
          rw [hqe] at cAl
          rw [csA_len] at hq8
          generalize placeI csA (1 + (c : Int)) l = qa at *
          rw [decide_eq_true hq]
          clear hqe
          go_wp2_with fail
          refine (gP _ _).mono ?_
          rintro e w7 ⟨rfl, hb7⟩
          rcases told_of csP (1 + (c : Int)) l with hr | ⟨hr, hr8, hre⟩
          · rw [hr, show decide ((0 : Int) ≤ -1) = false from rfl]
            clear hr
            have hB7 := hB.trans ((hb6.trans (hb7.mono hb6.size)).mono hB.size)
            clear hb6 hb7 hB
            go_wp2_with fail
            refine (cAl _).mono ?_
            rintro e w8 ⟨rfl, hb8⟩
            replace hB7 := hB7.trans (hb8.mono hB7.size)
            clear hb8
            go_wp2
            go_ret
            exact ⟨rfl, hB7⟩
          · have cPl := fun W => cP (placeI csP (1 + (c : Int)) l) W
            rw [hre] at cPl
            rw [csP_len] at hr8
            generalize placeI csP (1 + (c : Int)) l = qp at *
            rw [decide_eq_true hr]
            clear hre
            have hB7 := hB.trans ((hb6.trans (hb7.mono hb6.size)).mono hB.size)
            clear hb6 hb7 hB
            go_wp2_with fail
            refine (cAl _).mono ?_
            rintro e w8 ⟨rfl, hb8⟩
            replace hB7 := hB7.trans (hb8.mono hB7.size)
            clear hb8
            go_wp2_with fail
            refine (cPl _).mono ?_
            rintro e w9 ⟨rfl, hb9⟩
            replace hB7 := hB7.trans (hb9.mono hB7.size)
            clear hb9
            go_wp2
            go_ret
            exact ⟨rfl, hB7⟩
      · have e2 : (bs y).toList.isEmpty = false := bs_some ey
        rw [py]
        have d2 : decide ((0 : Int) ≤ (p : Int)) = true := by simp
        rw [d2]
        clear ey py d2
        go_wp2_with fail
        refine (rp _).mono ?_
        rintro e w' ⟨rfl, rfl⟩
        go_wp2_with fail
        refine (gA _ _).mono ?_
        rintro e w6 ⟨rfl, hb6⟩
        rcases told_of csA (1 + (c : Int)) l with hq | ⟨hq, hq8, hqe⟩
        · rw [hq, show decide ((0 : Int) ≤ -1) = false from rfl]
          clear hq
          go_wp2_with fail
          refine (gP _ _).mono ?_
          rintro e w7 ⟨rfl, hb7⟩
          rcases told_of csP (1 + (c : Int)) l with hr | ⟨hr, hr8, hre⟩
          · rw [hr, show decide ((0 : Int) ≤ -1) = false from rfl]
            clear hr
            have hB7 := hB.trans ((hb6.trans (hb7.mono hb6.size)).mono hB.size)
            clear hb6 hb7 hB
            go_wp2
            go_ret
            exact ⟨rfl, hB7⟩
          · have cPl := fun W => cP (placeI csP (1 + (c : Int)) l) W
            rw [hre] at cPl
            rw [csP_len] at hr8
            generalize placeI csP (1 + (c : Int)) l = qp at *
            rw [decide_eq_true hr]
            clear hre
            have hB7 := hB.trans ((hb6.trans (hb7.mono hb6.size)).mono hB.size)
            clear hb6 hb7 hB
            go_wp2_with fail
            refine (cPl _).mono ?_
            rintro e w9 ⟨rfl, hb9⟩
            replace hB7 := hB7.trans (hb9.mono hB7.size)
            clear hb9
            go_wp2
            go_ret
            exact ⟨rfl, hB7⟩
        · have cAl := fun W => cA (placeI csA (1 + (c : Int)) l) W
          rw [hqe] at cAl
          rw [csA_len] at hq8
          generalize placeI csA (1 + (c : Int)) l = qa at *
          rw [decide_eq_true hq]
          clear hqe
          go_wp2_with fail
          refine (gP _ _).mono ?_
          rintro e w7 ⟨rfl, hb7⟩
          rcases told_of csP (1 + (c : Int)) l with hr | ⟨hr, hr8, hre⟩
          · rw [hr, show decide ((0 : Int) ≤ -1) = false from rfl]
            clear hr
            have hB7 := hB.trans ((hb6.trans (hb7.mono hb6.size)).mono hB.size)
            clear hb6 hb7 hB
            go_wp2_with fail
            refine (cAl _).mono ?_
            rintro e w8 ⟨rfl, hb8⟩
            replace hB7 := hB7.trans (hb8.mono hB7.size)
            clear hb8
            go_wp2
            go_ret
            exact ⟨rfl, hB7⟩
          · have cPl := fun W => cP (placeI csP (1 + (c : Int)) l) W
            rw [hre] at cPl
            rw [csP_len] at hr8
            generalize placeI csP (1 + (c : Int)) l = qp at *
            rw [decide_eq_true hr]
            clear hre
            have hB7 := hB.trans ((hb6.trans (hb7.mono hb6.size)).mono hB.size)
            clear hb6 hb7 hB
            go_wp2_with fail
            refine (cAl _).mono ?_
            rintro e w8 ⟨rfl, hb8⟩
            replace hB7 := hB7.trans (hb8.mono hB7.size)
            clear hb8
            go_wp2_with fail
            refine (cPl _).mono ?_
            rintro e w9 ⟨rfl, hb9⟩
            replace hB7 := hB7.trans (hb9.mono hB7.size)
            clear hb9
            go_wp2
            go_ret
            exact ⟨rfl, hB7⟩
    · have e1 : (bs x).toList.isEmpty = false := bs_some ex
      rw [px]
      have d1 : decide ((0 : Int) ≤ (a : Int)) = true := by simp
      rw [d1]
      clear ex px d1
      rcases HFP.out with ⟨ey, py⟩ | ⟨ey, py⟩
      · have e2 : (bs y).toList.isEmpty = true := by rw [ey]; exact bs_none
        rw [py]
        have d2 : decide ((0 : Int) ≤ -1) = false := rfl
        rw [d2]
        clear ey py d2
        go_wp2_with fail
        refine (ra _).mono ?_
        rintro e w' ⟨rfl, rfl⟩
        go_wp2_with fail
        refine (gA _ _).mono ?_
        rintro e w6 ⟨rfl, hb6⟩
        rcases told_of csA (1 + (c : Int)) l with hq | ⟨hq, hq8, hqe⟩
        · rw [hq, show decide ((0 : Int) ≤ -1) = false from rfl]
          clear hq
          go_wp2_with fail
          refine (gP _ _).mono ?_
          rintro e w7 ⟨rfl, hb7⟩
          rcases told_of csP (1 + (c : Int)) l with hr | ⟨hr, hr8, hre⟩
          · rw [hr, show decide ((0 : Int) ≤ -1) = false from rfl]
            clear hr
            have hB7 := hB.trans ((hb6.trans (hb7.mono hb6.size)).mono hB.size)
            clear hb6 hb7 hB
            go_wp2
            go_ret
            exact ⟨rfl, hB7⟩
          · have cPl := fun W => cP (placeI csP (1 + (c : Int)) l) W
            rw [hre] at cPl
            rw [csP_len] at hr8
            generalize placeI csP (1 + (c : Int)) l = qp at *
            rw [decide_eq_true hr]
            clear hre
            have hB7 := hB.trans ((hb6.trans (hb7.mono hb6.size)).mono hB.size)
            clear hb6 hb7 hB
            go_wp2_with fail
            refine (cPl _).mono ?_
            rintro e w9 ⟨rfl, hb9⟩
            replace hB7 := hB7.trans (hb9.mono hB7.size)
            clear hb9
            go_wp2
            go_ret
            exact ⟨rfl, hB7⟩
        · have cAl := fun W => cA (placeI csA (1 + (c : Int)) l) W
          rw [hqe] at cAl
          rw [csA_len] at hq8
          generalize placeI csA (1 + (c : Int)) l = qa at *
          rw [decide_eq_true hq]
          clear hqe
          go_wp2_with fail
          refine (gP _ _).mono ?_
          rintro e w7 ⟨rfl, hb7⟩
          rcases told_of csP (1 + (c : Int)) l with hr | ⟨hr, hr8, hre⟩
          · rw [hr, show decide ((0 : Int) ≤ -1) = false from rfl]
            clear hr
            have hB7 := hB.trans ((hb6.trans (hb7.mono hb6.size)).mono hB.size)
            clear hb6 hb7 hB
            go_wp2_with fail
            refine (cAl _).mono ?_
            rintro e w8 ⟨rfl, hb8⟩
            replace hB7 := hB7.trans (hb8.mono hB7.size)
            clear hb8
            go_wp2
            go_ret
            exact ⟨rfl, hB7⟩
          · have cPl := fun W => cP (placeI csP (1 + (c : Int)) l) W
            rw [hre] at cPl
            rw [csP_len] at hr8
            generalize placeI csP (1 + (c : Int)) l = qp at *
            rw [decide_eq_true hr]
            clear hre
            have hB7 := hB.trans ((hb6.trans (hb7.mono hb6.size)).mono hB.size)
            clear hb6 hb7 hB
            go_wp2_with fail
            refine (cAl _).mono ?_
            rintro e w8 ⟨rfl, hb8⟩
            replace hB7 := hB7.trans (hb8.mono hB7.size)
            clear hb8
            go_wp2_with fail
            refine (cPl _).mono ?_
            rintro e w9 ⟨rfl, hb9⟩
            replace hB7 := hB7.trans (hb9.mono hB7.size)
            clear hb9
            go_wp2
            go_ret
            exact ⟨rfl, hB7⟩
      · have e2 : (bs y).toList.isEmpty = false := bs_some ey
        rw [py]
        have d2 : decide ((0 : Int) ≤ (p : Int)) = true := by simp
        rw [d2]
        clear ey py d2
        go_wp2_with fail
        refine (ra _).mono ?_
        rintro e w' ⟨rfl, rfl⟩
        go_wp2_with fail
        refine (rp _).mono ?_
        rintro e w' ⟨rfl, rfl⟩
        go_wp2_with fail
        refine (gA _ _).mono ?_
        rintro e w6 ⟨rfl, hb6⟩
        rcases told_of csA (1 + (c : Int)) l with hq | ⟨hq, hq8, hqe⟩
        · rw [hq, show decide ((0 : Int) ≤ -1) = false from rfl]
          clear hq
          go_wp2_with fail
          refine (gP _ _).mono ?_
          rintro e w7 ⟨rfl, hb7⟩
          rcases told_of csP (1 + (c : Int)) l with hr | ⟨hr, hr8, hre⟩
          · rw [hr, show decide ((0 : Int) ≤ -1) = false from rfl]
            clear hr
            have hB7 := hB.trans ((hb6.trans (hb7.mono hb6.size)).mono hB.size)
            clear hb6 hb7 hB
            go_wp2
            go_ret
            exact ⟨rfl, hB7⟩
          · have cPl := fun W => cP (placeI csP (1 + (c : Int)) l) W
            rw [hre] at cPl
            rw [csP_len] at hr8
            generalize placeI csP (1 + (c : Int)) l = qp at *
            rw [decide_eq_true hr]
            clear hre
            have hB7 := hB.trans ((hb6.trans (hb7.mono hb6.size)).mono hB.size)
            clear hb6 hb7 hB
            go_wp2_with fail
            refine (cPl _).mono ?_
            rintro e w9 ⟨rfl, hb9⟩
            replace hB7 := hB7.trans (hb9.mono hB7.size)
            clear hb9
            go_wp2
            go_ret
            exact ⟨rfl, hB7⟩
        · have cAl := fun W => cA (placeI csA (1 + (c : Int)) l) W
          rw [hqe] at cAl
          rw [csA_len] at hq8
          generalize placeI csA (1 + (c : Int)) l = qa at *
          rw [decide_eq_true hq]
          clear hqe
          go_wp2_with fail
          refine (gP _ _).mono ?_
          rintro e w7 ⟨rfl, hb7⟩
          rcases told_of csP (1 + (c : Int)) l with hr | ⟨hr, hr8, hre⟩
          · rw [hr, show decide ((0 : Int) ≤ -1) = false from rfl]
            clear hr
            have hB7 := hB.trans ((hb6.trans (hb7.mono hb6.size)).mono hB.size)
            clear hb6 hb7 hB
            go_wp2_with fail
            refine (cAl _).mono ?_
            rintro e w8 ⟨rfl, hb8⟩
            replace hB7 := hB7.trans (hb8.mono hB7.size)
            clear hb8
            go_wp2
            go_ret
            exact ⟨rfl, hB7⟩
          · have cPl := fun W => cP (placeI csP (1 + (c : Int)) l) W
            rw [hre] at cPl
            rw [csP_len] at hr8
            generalize placeI csP (1 + (c : Int)) l = qp at *
            rw [decide_eq_true hr]
            clear hre
            have hB7 := hB.trans ((hb6.trans (hb7.mono hb6.size)).mono hB.size)
            clear hb6 hb7 hB
            go_wp2_with fail
            refine (cAl _).mono ?_
            rintro e w8 ⟨rfl, hb8⟩
            replace hB7 := hB7.trans (hb8.mono hB7.size)
            clear hb8
            go_wp2_with fail
            refine (cPl _).mono ?_
            rintro e w9 ⟨rfl, hb9⟩
            replace hB7 := hB7.trans (hb9.mono hB7.size)
            clear hb9
            go_wp2
            go_ret
            exact ⟨rfl, hB7⟩

theorem back_law (n at_ : Int) (s0 : ByteArray) (w : World) (_ : -9223372036854775808 ≤ n ∧ n ≤ 9223372036854775807) (_ : -9223372036854775808 ≤ at_ ∧ at_ ≤ 9223372036854775807) (hs : s0.size ≤ maxLen) :
    Calls Try.prog 4 #[.int .i64 n, .int .i64 at_, .string s0] w fun e w' => e = .returned (.bool true) ∧ Below w.heap.size w w' := back_walk n at_ s0 w hs

end Go.Proofs.Ytpmibcdmaaagjaa.Atoms

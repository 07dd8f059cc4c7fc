/-
  Contract of the document's Read, by one Lean function of the text; the world below stays as it was.
-/
import Derived.Test.YtjklbnakgkffnaaDoorT7h
namespace Go.Proofs.YtjklbnakgkffnaaDoor.Texts
open Go.RowKit
open Go.Proofs.YtjklbnakgkffnaaDoor.Whole
open Go.Proofs.YtjklbnakgkffnaaDoor.Frac
set_option linter.unusedVariables false
set_option linter.unusedSimpArgs false

theorem byte_ne (s : List UInt8) (j : Nat) (h : j < (bs s).size) (h' : j < s.length) (c : UInt8) (hc : c.toNat < 256) (hn : ¬ s[j] = c) : (((bs s)[j].toNat : Int) == (c.toNat : Int)) = false := by
  rw [bs_get s j h h']
  have : s[j].toNat ≠ c.toNat := fun e => hn (UInt8.toNat_inj.1 e)
  simp; omega
theorem ne101 : ¬ (101 : UInt8) = 47 := by decide

set_option maxRecDepth 100000 in
set_option maxHeartbeats 8000000 in
theorem rRead_any (s : List UInt8) (w : World) (hs : s.length ≤ 1000) :
    Calls Tryd.prog 13 #[.string (bs s)] w fun e w' => e = .returned (.agg #[.int .i64 (readR s).n, .int .i64 (readR s).d, .int .i64 (readR s).t, .int .i64 (readR s).e]) ∧ Below w.heap.size w w' := by
  have z : (bs s).size = s.length := bs_size s
  have r0 := rread_any s 0
  rw [List.drop_zero, show ((0 : Nat) : Int) = 0 from rfl] at r0
  have Sx := stand s 0
  have Lx := readA_le s
  rw [List.drop_zero] at Sx
  have hne0 : (readA s).r ≠ none → s ≠ [] := fun h e => h (by rw [e]; rfl)
  have g0 : Row (w.alloc (.cells #[.int .i64 0, .int .i64 0, .int .i64 0, .int .i64 0] 30)) w.heap.size [.int .i64 0, .int .i64 0, .int .i64 0, .int .i64 0] := by
    refine ⟨fun j u hu => ?_, fun j => by simp [go_sem], by simp⟩
    match j, hu with
    | 0, hu => simp at hu; subst hu; simp [go_sem]
    | 1, hu => simp at hu; subst hu; simp [go_sem]
    | 2, hu => simp at hu; subst hu; simp [go_sem]
    | 3, hu => simp at hu; subst hu; simp [go_sem]
    | j + 4, hu => simp at hu
  have g1 : Row ((w.alloc (.cells #[.int .i64 0, .int .i64 0, .int .i64 0, .int .i64 0] 30)).alloc (.cells #[.int .i64 0, .int .i64 1, .int .i64 0] 24)) (w.heap.size + 1) [.int .i64 0, .int .i64 1, .int .i64 0] := by
    refine ⟨fun j u hu => ?_, fun j => by simp [go_sem], by simp⟩
    match j, hu with
    | 0, hu => simp at hu; subst hu; simp [go_sem]
    | 1, hu => simp at hu; subst hu; simp [go_sem]
    | 2, hu => simp at hu; subst hu; simp [go_sem]
    | j + 3, hu => simp at hu
  replace g0 := g0.go (v' := (w.alloc (.cells #[.int .i64 0, .int .i64 0, .int .i64 0, .int .i64 0] 30)).alloc (.cells #[.int .i64 0, .int .i64 1, .int .i64 0] 24)) (by go_grown)
  have hB0 : Below w.heap.size w ((w.alloc (.cells #[.int .i64 0, .int .i64 0, .int .i64 0, .int .i64 0] 30)).alloc (.cells #[.int .i64 0, .int .i64 1, .int .i64 0] 24)) := by go_grown
  go_enter Tryd.func13, Tryd.ntmps13
  go_wp2_with fail
  refine (r0 _ hs (by omega)).mono ?_
  rintro e w1 ⟨rfl, hb⟩
  generalize hx : readA s = x at *
  have Hx := Lib.hid hx
  clear hx r0
  obtain ⟨P, hP⟩ : ∃ P, placeA s x = P := ⟨_, rfl⟩
  rw [hP]
  have hA : RdAt w (w1.alloc (.cells #[.int .i64 x.n, .int .i64 P] 72)) w1.heap.size 0 1 0 x.n P := by
    refine ⟨Below.go (Below.go hB0 hb) (by go_grown), (g0.go hb).go (by go_grown), (g1.go hb).go (by go_grown), ⟨fun j u hu => ?_, fun j => by simp [go_sem], by simp⟩, (g1.go hb).2.2⟩
    match j, hu with
    | 0, hu => simp at hu; subst hu; simp [go_sem]
    | 1, hu => simp at hu; subst hu; simp [go_sem]
    | j + 2, hu => simp at hu
  have G0 := g0.go hb
  have G1 := g1.go hb
  have hA1 : RdAt w ((w1.setCell ⟨w.heap.size + 1, 0, none⟩ (.int .i64 x.n)).alloc (.cells #[.int .i64 x.n, .int .i64 P] 72)) w1.heap.size x.n 1 0 x.n P := by
    refine ⟨Below.go ((Below.go hB0 hb).setCell (p := ⟨w.heap.size + 1, 0, none⟩) (Nat.le_succ _) _) (by go_grown), (G0.other (w.heap.size + 1) 0 (.int .i64 x.n) (by omega)).go (by go_grown), (G1.set 0 (.int .i64 x.n) (by simp)).go (by go_grown), ⟨fun j u hu => ?_, fun j => by simp [go_sem], by simp⟩, G1.2.2⟩
    match j, hu with
    | 0, hu => simp at hu; subst hu; simp [go_sem]
    | 1, hu => simp at hu; subst hu; simp [go_sem]
    | j + 2, hu => simp at hu
  have hBw1 : Below w.heap.size w w1 := Below.go hB0 hb
  have w00 := G0.1 0 _ rfl
  have w01 := G0.1 1 _ rfl
  have w02 := G0.1 2 _ rfl
  have w03 := G0.1 3 _ rfl
  have w0f := G0.2.1
  have w10 := G1.1 0 _ rfl
  have w11 := G1.1 1 _ rfl
  have w12 := G1.1 2 _ rfl
  have w1f := G1.2.1
  have lt1 : w.heap.size < w1.heap.size := G0.2.2
  have lt2 : w.heap.size + 1 < w1.heap.size := G1.2.2
  have lt3 : ¬ w1.heap.size = w.heap.size := by omega
  have lt4 : ¬ w1.heap.size = w.heap.size + 1 := by omega
  have lt5 : ¬ w.heap.size = w1.heap.size := by omega
  have lt6 : ¬ w.heap.size + 1 = w1.heap.size := by omega
  clear g0 g1 hB0 hb G0 G1
  cases Sx with
  | no hno p =>
    rw [p] at hP
    subst hP
    have HC : Hid (candR s = ⟨x.n, 1, 0, none⟩) := by
      show _ = _
      unfold candR
      simp only [Hx.out, stepA, hno]
    have HR : Hid (readR s = ⟨0, 0, 0, 20⟩) := by
      show _ = _
      unfold readR
      rw [if_neg (by rw [HC.out]; rintro ⟨h, _⟩; cases h)]
    have nn : ((-1 : Int) != (s.length : Int)) = true := by rw [bne_iff_ne]; omega
    obtain ⟨m0, m1, m2, m3, mf⟩ := hA.room
    obtain ⟨hB, _⟩ := id hA
    obtain ⟨p0, p1, p2, p3, p4, p5, p6, p7, p8⟩ := hA.cells
    clear HC
    go_wp2
    refine bodyPost_ret (v := .agg #[.int .i64 0, .int .i64 0, .int .i64 0, .int .i64 20]) (by simp [results, Tryd.results13, go_sem, m0, m1, m2, m3, p7, p8, w00, w01, w02, w03, lt1, lt2, lt3, lt4, lt5, lt6]) rfl ⟨by rw [HR.out], ?_⟩
    go_grown
  | fin hno p =>
    rw [p] at hP
    subst hP
    have hne : s ≠ [] := hne0 (by rw [hno]; simp)
    have HC : Hid (candR s = ⟨x.n, 1, 0, some []⟩) := by
      show _ = _
      unfold candR
      simp only [Hx.out, stepA, hno]
    have hs0 : ((s.length : Int) == 0) = false := by
      have : s.length ≠ 0 := fun h => hne (List.length_eq_zero_iff.1 h)
      simp; omega
    have tx := rtext_any x.n 1 0
    obtain ⟨p0, p1, p2, p3, p4, p5, p6, p7, p8⟩ := hA.cells
    go_wp2_with fail
    refine (tx _ Lx (by omega)).mono ?_
    rintro e u3 ⟨rfl, hb⟩
    replace hA := hA1.go hb
    clear hb tx
    clear p0 p1 p2 p3 p4 p5 p6 p7 p8
    obtain ⟨m0, m1, m2, m3, mf⟩ := hA.room
    obtain ⟨hB, _⟩ := id hA
    obtain ⟨p0, p1, p2, p3, p4, p5, p6, p7, p8⟩ := hA.cells
    by_cases ht : textF x.n 1 0 = s
    · have HR : Hid (readR s = ⟨x.n, 1, 0, 0⟩) := by
        show _ = _
        unfold readR
        rw [HC.out, if_pos ⟨rfl, hne, ht⟩]
      have q1 : ((bs (textF x.n 1 0)).toList == (bs s).toList) = true := by rw [ht]; simp
      have q2 : ((bs (textF x.n 1 0)).toList != (bs s).toList) = false := by rw [ht]; simp
      clear ht HC
      generalize textF x.n 1 0 = T at *
      go_wp2
      refine bodyPost_ret (v := .agg #[.int .i64 x.n, .int .i64 1, .int .i64 0, .int .i64 0]) (by simp [results, Tryd.results13, go_sem, m0, m1, m2, m3, p7, p8, w00, w01, w02, w03, lt1, lt2, lt3, lt4, lt5, lt6]) rfl ⟨by rw [HR.out], ?_⟩
      go_grown
    · have HR : Hid (readR s = ⟨0, 0, 0, 20⟩) := by
        show _ = _
        unfold readR
        rw [if_neg (by rw [HC.out]; rintro ⟨_, _, h⟩; exact ht h)]
      have q0 : ¬ (bs (textF x.n 1 0)).toList = (bs s).toList := by rw [bs_toList, bs_toList]; exact ht
      have q1 : ((bs (textF x.n 1 0)).toList == (bs s).toList) = false := by simpa using q0
      have q2 : ((bs (textF x.n 1 0)).toList != (bs s).toList) = true := by simpa using q0
      clear ht HC q0
      generalize textF x.n 1 0 = T at *
      go_wp2
      refine bodyPost_ret (v := .agg #[.int .i64 0, .int .i64 0, .int .i64 0, .int .i64 20]) (by simp [results, Tryd.results13, go_sem, m0, m1, m2, m3, p7, p8, w00, w01, w02, w03, lt1, lt2, lt3, lt4, lt5, lt6]) rfl ⟨by rw [HR.out], ?_⟩
      go_grown
  | byte j hj hno p =>
    rw [p] at hP
    subst hP
    have hne : s ≠ [] := hne0 (by rw [hno]; simp)
    have hbj : j < (bs s).size := by omega
    have ij : (j : Int) < (s.length : Int) := by omega
    have nj : ((j : Int) != (s.length : Int)) = true := by rw [bne_iff_ne]; omega
    by_cases ej47 : s[j] = 47
    ·
      have qj47 : (((bs s)[j].toNat : Int) == 47) = true := (congrArg (fun b : UInt8 => ((b.toNat : Int) == 47)) ej47).trans rfl
      have rr := rread_any s (j + 1)
      have Sy := stand s (j + 1)
      have Ly := readA_le (s.drop (j + 1))
      obtain ⟨p0, p1, p2, p3, p4, p5, p6, p7, p8⟩ := hA.cells
      go_wp2_with fail
      refine (rr _ hs (by omega)).mono ?_
      rintro e u ⟨rfl, hb⟩
      replace hA := hA1.go hb
      clear hb rr
      clear p0 p1 p2 p3 p4 p5 p6 p7 p8
      have Hy : Hid (readA (s.drop (j + 1)) = readA (s.drop (j + 1))) := rfl
      generalize hy : readA (s.drop (j + 1)) = y at *
      replace Hy := Lib.hid hy
      clear hy
      obtain ⟨P2, hP2⟩ : ∃ P2, placeA s y = P2 := ⟨_, rfl⟩
      rw [hP2]
      have hno47 : x.r = some (47 :: s.drop (j + 1)) := hno.trans (congrArg (fun b => some (b :: s.drop (j + 1))) ej47)
      cases Sy with
      | no hn2 p2 =>
        rw [p2] at hP2
        subst hP2
        have HC : Hid (candR s = ⟨x.n, y.n, 0, none⟩) := by
          show _ = _
          unfold candR
          simp only [Hx.out, stepA, hno47, Hy.out, hn2, if_true]
        have HR : Hid (readR s = ⟨0, 0, 0, 20⟩) := by
          show _ = _
          unfold readR
          rw [if_neg (by rw [HC.out]; rintro ⟨h, _⟩; cases h)]
        have nn : ((-1 : Int) != (s.length : Int)) = true := by rw [bne_iff_ne]; omega
        obtain ⟨m0, m1, m2, m3, mf⟩ := hA.room
        obtain ⟨hB, _⟩ := id hA
        obtain ⟨p0, p1, p2, p3, p4, p5, p6, p7, p8⟩ := hA.cells
        clear HC
        go_wp2
        refine bodyPost_ret (v := .agg #[.int .i64 0, .int .i64 0, .int .i64 0, .int .i64 20]) (by simp [results, Tryd.results13, go_sem, m0, m1, m2, m3, p7, p8, w00, w01, w02, w03, lt1, lt2, lt3, lt4, lt5, lt6]) rfl ⟨by rw [HR.out], ?_⟩
        go_grown
      | fin hn2 p2 =>
        rw [p2] at hP2
        subst hP2
        have HC : Hid (candR s = ⟨x.n, y.n, 0, some []⟩) := by
          show _ = _
          unfold candR
          simp only [Hx.out, stepA, hno47, Hy.out, hn2, if_true]
        have hs0 : ((s.length : Int) == 0) = false := by
          have : s.length ≠ 0 := fun h => hne (List.length_eq_zero_iff.1 h)
          simp; omega
        have tx := rtext_any x.n y.n 0
        obtain ⟨p0, p1, p2, p3, p4, p5, p6, p7, p8⟩ := hA.cells
        go_wp2_with fail
        refine (tx _ Lx Ly).mono ?_
        rintro e u3 ⟨rfl, hb⟩
        replace hA := ((hA.setX y.n s.length).set1 y.n).go hb
        clear hb tx
        clear p0 p1 p2 p3 p4 p5 p6 p7 p8
        obtain ⟨m0, m1, m2, m3, mf⟩ := hA.room
        obtain ⟨hB, _⟩ := id hA
        obtain ⟨p0, p1, p2, p3, p4, p5, p6, p7, p8⟩ := hA.cells
        by_cases ht : textF x.n y.n 0 = s
        · have HR : Hid (readR s = ⟨x.n, y.n, 0, 0⟩) := by
            show _ = _
            unfold readR
            rw [HC.out, if_pos ⟨rfl, hne, ht⟩]
          have q1 : ((bs (textF x.n y.n 0)).toList == (bs s).toList) = true := by rw [ht]; simp
          have q2 : ((bs (textF x.n y.n 0)).toList != (bs s).toList) = false := by rw [ht]; simp
          clear ht HC
          generalize textF x.n y.n 0 = T at *
          go_wp2
          refine bodyPost_ret (v := .agg #[.int .i64 x.n, .int .i64 y.n, .int .i64 0, .int .i64 0]) (by simp [results, Tryd.results13, go_sem, m0, m1, m2, m3, p7, p8, w00, w01, w02, w03, lt1, lt2, lt3, lt4, lt5, lt6]) rfl ⟨by rw [HR.out], ?_⟩
          go_grown
        · have HR : Hid (readR s = ⟨0, 0, 0, 20⟩) := by
            show _ = _
            unfold readR
            rw [if_neg (by rw [HC.out]; rintro ⟨_, _, h⟩; exact ht h)]
          have q0 : ¬ (bs (textF x.n y.n 0)).toList = (bs s).toList := by rw [bs_toList, bs_toList]; exact ht
          have q1 : ((bs (textF x.n y.n 0)).toList == (bs s).toList) = false := by simpa using q0
          have q2 : ((bs (textF x.n y.n 0)).toList != (bs s).toList) = true := by simpa using q0
          clear ht HC q0
          generalize textF x.n y.n 0 = T at *
          go_wp2
          refine bodyPost_ret (v := .agg #[.int .i64 0, .int .i64 0, .int .i64 0, .int .i64 20]) (by simp [results, Tryd.results13, go_sem, m0, m1, m2, m3, p7, p8, w00, w01, w02, w03, lt1, lt2, lt3, lt4, lt5, lt6]) rfl ⟨by rw [HR.out], ?_⟩
          go_grown
      | byte l hl hn2 p2 =>
        rw [p2] at hP2
        subst hP2
        have hbl : l < (bs s).size := by omega
        have il : (l : Int) < (s.length : Int) := by omega
        have nl : ((l : Int) != (s.length : Int)) = true := by rw [bne_iff_ne]; omega
        by_cases el101 : s[l] = 101
        ·
          have ql101 : (((bs s)[l].toNat : Int) == 101) = true := (congrArg (fun b : UInt8 => ((b.toNat : Int) == 101)) el101).trans rfl
          have rr := rread_any s (l + 1)
          have Sv := stand s (l + 1)
          have Lv := readA_le (s.drop (l + 1))
          obtain ⟨p0, p1, p2, p3, p4, p5, p6, p7, p8⟩ := hA.cells
          go_wp2_with fail
          refine (rr _ hs (by omega)).mono ?_
          rintro e u2 ⟨rfl, hb⟩
          replace hA := ((hA.setX y.n l).set1 y.n).go hb
          clear hb rr
          clear p0 p1 p2 p3 p4 p5 p6 p7 p8
          have Hv : Hid (readA (s.drop (l + 1)) = readA (s.drop (l + 1))) := rfl
          generalize hv : readA (s.drop (l + 1)) = v at *
          replace Hv := Lib.hid hv
          clear hv
          obtain ⟨P3, hP3⟩ : ∃ P3, placeA s v = P3 := ⟨_, rfl⟩
          rw [hP3]
          have hn101 : y.r = some (101 :: s.drop (l + 1)) := hn2.trans (congrArg (fun b => some (b :: s.drop (l + 1))) el101)
          cases Sv with
          | no hno p =>
            rw [p] at hP3
            subst hP3
            have HC : Hid (candR s = ⟨x.n, y.n, v.n, none⟩) := by
              show _ = _
              unfold candR
              simp only [Hx.out, stepA, hno47, Hy.out, hn101, Hv.out, if_true, hno]
            have HR : Hid (readR s = ⟨0, 0, 0, 20⟩) := by
              show _ = _
              unfold readR
              rw [if_neg (by rw [HC.out]; rintro ⟨h, _⟩; cases h)]
            have nn : ((-1 : Int) != (s.length : Int)) = true := by rw [bne_iff_ne]; omega
            obtain ⟨m0, m1, m2, m3, mf⟩ := hA.room
            obtain ⟨hB, _⟩ := id hA
            obtain ⟨p0, p1, p2, p3, p4, p5, p6, p7, p8⟩ := hA.cells
            clear HC
            go_wp2
            refine bodyPost_ret (v := .agg #[.int .i64 0, .int .i64 0, .int .i64 0, .int .i64 20]) (by simp [results, Tryd.results13, go_sem, m0, m1, m2, m3, p7, p8, w00, w01, w02, w03, lt1, lt2, lt3, lt4, lt5, lt6]) rfl ⟨by rw [HR.out], ?_⟩
            go_grown
          | fin hno p =>
            rw [p] at hP3
            subst hP3
            have HC : Hid (candR s = ⟨x.n, y.n, v.n, some []⟩) := by
              show _ = _
              unfold candR
              simp only [Hx.out, stepA, hno47, Hy.out, hn101, Hv.out, if_true, hno]
            have hs0 : ((s.length : Int) == 0) = false := by
              have : s.length ≠ 0 := fun h => hne (List.length_eq_zero_iff.1 h)
              simp; omega
            have tx := rtext_any x.n y.n v.n
            obtain ⟨p0, p1, p2, p3, p4, p5, p6, p7, p8⟩ := hA.cells
            go_wp2_with fail
            refine (tx _ Lx Ly).mono ?_
            rintro e u3 ⟨rfl, hb⟩
            replace hA := ((hA.setX v.n s.length).set2 v.n).go hb
            clear hb tx
            clear p0 p1 p2 p3 p4 p5 p6 p7 p8
            obtain ⟨m0, m1, m2, m3, mf⟩ := hA.room
            obtain ⟨hB, _⟩ := id hA
            obtain ⟨p0, p1, p2, p3, p4, p5, p6, p7, p8⟩ := hA.cells
            by_cases ht : textF x.n y.n v.n = s
            · have HR : Hid (readR s = ⟨x.n, y.n, v.n, 0⟩) := by
                show _ = _
                unfold readR
                rw [HC.out, if_pos ⟨rfl, hne, ht⟩]
              have q1 : ((bs (textF x.n y.n v.n)).toList == (bs s).toList) = true := by rw [ht]; simp
              have q2 : ((bs (textF x.n y.n v.n)).toList != (bs s).toList) = false := by rw [ht]; simp
              clear ht HC
              generalize textF x.n y.n v.n = T at *
              go_wp2
              refine bodyPost_ret (v := .agg #[.int .i64 x.n, .int .i64 y.n, .int .i64 v.n, .int .i64 0]) (by simp [results, Tryd.results13, go_sem, m0, m1, m2, m3, p7, p8, w00, w01, w02, w03, lt1, lt2, lt3, lt4, lt5, lt6]) rfl ⟨by rw [HR.out], ?_⟩
              go_grown
            · have HR : Hid (readR s = ⟨0, 0, 0, 20⟩) := by
                show _ = _
                unfold readR
                rw [if_neg (by rw [HC.out]; rintro ⟨_, _, h⟩; exact ht h)]
              have q0 : ¬ (bs (textF x.n y.n v.n)).toList = (bs s).toList := by rw [bs_toList, bs_toList]; exact ht
              have q1 : ((bs (textF x.n y.n v.n)).toList == (bs s).toList) = false := by simpa using q0
              have q2 : ((bs (textF x.n y.n v.n)).toList != (bs s).toList) = true := by simpa using q0
              clear ht HC q0
              generalize textF x.n y.n v.n = T at *
              go_wp2
              refine bodyPost_ret (v := .agg #[.int .i64 0, .int .i64 0, .int .i64 0, .int .i64 20]) (by simp [results, Tryd.results13, go_sem, m0, m1, m2, m3, p7, p8, w00, w01, w02, w03, lt1, lt2, lt3, lt4, lt5, lt6]) rfl ⟨by rw [HR.out], ?_⟩
              go_grown
          | byte a ha hno p =>
            rw [p] at hP3
            subst hP3
            have hba : a < (bs s).size := by omega
            have ia : (a : Int) < (s.length : Int) := by omega
            have na : ((a : Int) != (s.length : Int)) = true := by rw [bne_iff_ne]; omega
            obtain ⟨b, hb1⟩ : ∃ b, v.r = some (b :: s.drop (a + 1)) := ⟨_, hno⟩
            have HC : Hid (candR s = ⟨x.n, y.n, v.n, some (b :: s.drop (a + 1))⟩) := by
              show _ = _
              unfold candR
              simp only [Hx.out, stepA, hno47, Hy.out, hn101, Hv.out, if_true, hb1]
            have HR : Hid (readR s = ⟨0, 0, 0, 20⟩) := by
              show _ = _
              unfold readR
              rw [if_neg (by rw [HC.out]; rintro ⟨h, _⟩; cases h)]

            obtain ⟨m0, m1, m2, m3, mf⟩ := hA.room
            obtain ⟨hB, _⟩ := id hA
            obtain ⟨p0, p1, p2, p3, p4, p5, p6, p7, p8⟩ := hA.cells
            clear HC
            go_wp2
            refine bodyPost_ret (v := .agg #[.int .i64 0, .int .i64 0, .int .i64 0, .int .i64 20]) (by simp [results, Tryd.results13, go_sem, m0, m1, m2, m3, p7, p8, w00, w01, w02, w03, lt1, lt2, lt3, lt4, lt5, lt6]) rfl ⟨by rw [HR.out], ?_⟩
            go_grown
        ·
          have ql101 : (((bs s)[l].toNat : Int) == 101) = false := byte_ne s l hbl hl 101 (by decide) el101
          obtain ⟨b, hb1, hb2⟩ : ∃ b, y.r = some (b :: s.drop (l + 1)) ∧ ¬ b = 101 := ⟨_, hn2, el101⟩
          have HC : Hid (candR s = ⟨x.n, y.n, 0, some (b :: s.drop (l + 1))⟩) := by
            show _ = _
            unfold candR
            simp only [Hx.out, stepA, hno47, Hy.out, hb1, if_true, hb2, if_false]
          have HR : Hid (readR s = ⟨0, 0, 0, 20⟩) := by
            show _ = _
            unfold readR
            rw [if_neg (by rw [HC.out]; rintro ⟨h, _⟩; cases h)]

          obtain ⟨m0, m1, m2, m3, mf⟩ := hA.room
          obtain ⟨hB, _⟩ := id hA
          obtain ⟨p0, p1, p2, p3, p4, p5, p6, p7, p8⟩ := hA.cells
          clear HC
          go_wp2
          refine bodyPost_ret (v := .agg #[.int .i64 0, .int .i64 0, .int .i64 0, .int .i64 20]) (by simp [results, Tryd.results13, go_sem, m0, m1, m2, m3, p7, p8, w00, w01, w02, w03, lt1, lt2, lt3, lt4, lt5, lt6]) rfl ⟨by rw [HR.out], ?_⟩
          go_grown
    ·
      have qj47 : (((bs s)[j].toNat : Int) == 47) = false := byte_ne s j hbj hj 47 (by decide) ej47
      by_cases ej101 : s[j] = 101
      ·
        have qj101 : (((bs s)[j].toNat : Int) == 101) = true := (congrArg (fun b : UInt8 => ((b.toNat : Int) == 101)) ej101).trans rfl
        have rr := rread_any s (j + 1)
        have Sv := stand s (j + 1)
        have Lv := readA_le (s.drop (j + 1))
        obtain ⟨p0, p1, p2, p3, p4, p5, p6, p7, p8⟩ := hA.cells
        go_wp2_with fail
        refine (rr _ hs (by omega)).mono ?_
        rintro e u ⟨rfl, hb⟩
        replace hA := hA1.go hb
        clear hb rr
        clear p0 p1 p2 p3 p4 p5 p6 p7 p8
        have Hv : Hid (readA (s.drop (j + 1)) = readA (s.drop (j + 1))) := rfl
        generalize hv : readA (s.drop (j + 1)) = v at *
        replace Hv := Lib.hid hv
        clear hv
        obtain ⟨P3, hP3⟩ : ∃ P3, placeA s v = P3 := ⟨_, rfl⟩
        rw [hP3]
        have hn101 : x.r = some (101 :: s.drop (j + 1)) := hno.trans (congrArg (fun b => some (b :: s.drop (j + 1))) ej101)
        cases Sv with
        | no hno p =>
          rw [p] at hP3
          subst hP3
          have HC : Hid (candR s = ⟨x.n, 1, v.n, none⟩) := by
            show _ = _
            unfold candR
            simp only [Hx.out, stepA, hn101, Hv.out, if_true, ne101, if_false, hno]
          have HR : Hid (readR s = ⟨0, 0, 0, 20⟩) := by
            show _ = _
            unfold readR
            rw [if_neg (by rw [HC.out]; rintro ⟨h, _⟩; cases h)]
          have nn : ((-1 : Int) != (s.length : Int)) = true := by rw [bne_iff_ne]; omega
          obtain ⟨m0, m1, m2, m3, mf⟩ := hA.room
          obtain ⟨hB, _⟩ := id hA
          obtain ⟨p0, p1, p2, p3, p4, p5, p6, p7, p8⟩ := hA.cells
          clear HC
          go_wp2
          refine bodyPost_ret (v := .agg #[.int .i64 0, .int .i64 0, .int .i64 0, .int .i64 20]) (by simp [results, Tryd.results13, go_sem, m0, m1, m2, m3, p7, p8, w00, w01, w02, w03, lt1, lt2, lt3, lt4, lt5, lt6]) rfl ⟨by rw [HR.out], ?_⟩
          go_grown
        | fin hno p =>
          rw [p] at hP3
          subst hP3
          have HC : Hid (candR s = ⟨x.n, 1, v.n, some []⟩) := by
            show _ = _
            unfold candR
            simp only [Hx.out, stepA, hn101, Hv.out, if_true, ne101, if_false, hno]
          have hs0 : ((s.length : Int) == 0) = false := by
            have : s.length ≠ 0 := fun h => hne (List.length_eq_zero_iff.1 h)
            simp; omega
          have tx := rtext_any x.n 1 v.n
          obtain ⟨p0, p1, p2, p3, p4, p5, p6, p7, p8⟩ := hA.cells
          go_wp2_with fail
          refine (tx _ Lx (by omega)).mono ?_
          rintro e u3 ⟨rfl, hb⟩
          replace hA := ((hA.setX v.n s.length).set2 v.n).go hb
          clear hb tx
          clear p0 p1 p2 p3 p4 p5 p6 p7 p8
          obtain ⟨m0, m1, m2, m3, mf⟩ := hA.room
          obtain ⟨hB, _⟩ := id hA
          obtain ⟨p0, p1, p2, p3, p4, p5, p6, p7, p8⟩ := hA.cells
          by_cases ht : textF x.n 1 v.n = s
          · have HR : Hid (readR s = ⟨x.n, 1, v.n, 0⟩) := by
              show _ = _
              unfold readR
              rw [HC.out, if_pos ⟨rfl, hne, ht⟩]
            have q1 : ((bs (textF x.n 1 v.n)).toList == (bs s).toList) = true := by rw [ht]; simp
            have q2 : ((bs (textF x.n 1 v.n)).toList != (bs s).toList) = false := by rw [ht]; simp
            clear ht HC
            generalize textF x.n 1 v.n = T at *
            go_wp2
            refine bodyPost_ret (v := .agg #[.int .i64 x.n, .int .i64 1, .int .i64 v.n, .int .i64 0]) (by simp [results, Tryd.results13, go_sem, m0, m1, m2, m3, p7, p8, w00, w01, w02, w03, lt1, lt2, lt3, lt4, lt5, lt6]) rfl ⟨by rw [HR.out], ?_⟩
            go_grown
          · have HR : Hid (readR s = ⟨0, 0, 0, 20⟩) := by
              show _ = _
              unfold readR
              rw [if_neg (by rw [HC.out]; rintro ⟨_, _, h⟩; exact ht h)]
            have q0 : ¬ (bs (textF x.n 1 v.n)).toList = (bs s).toList := by rw [bs_toList, bs_toList]; exact ht
            have q1 : ((bs (textF x.n 1 v.n)).toList == (bs s).toList) = false := by simpa using q0
            have q2 : ((bs (textF x.n 1 v.n)).toList != (bs s).toList) = true := by simpa using q0
            clear ht HC q0
            generalize textF x.n 1 v.n = T at *
            go_wp2
            refine bodyPost_ret (v := .agg #[.int .i64 0, .int .i64 0, .int .i64 0, .int .i64 20]) (by simp [results, Tryd.results13, go_sem, m0, m1, m2, m3, p7, p8, w00, w01, w02, w03, lt1, lt2, lt3, lt4, lt5, lt6]) rfl ⟨by rw [HR.out], ?_⟩
            go_grown
        | byte a ha hno p =>
          rw [p] at hP3
          subst hP3
          have hba : a < (bs s).size := by omega
          have ia : (a : Int) < (s.length : Int) := by omega
          have na : ((a : Int) != (s.length : Int)) = true := by rw [bne_iff_ne]; omega
          obtain ⟨b, hb1⟩ : ∃ b, v.r = some (b :: s.drop (a + 1)) := ⟨_, hno⟩
          have HC : Hid (candR s = ⟨x.n, 1, v.n, some (b :: s.drop (a + 1))⟩) := by
            show _ = _
            unfold candR
            simp only [Hx.out, stepA, hn101, Hv.out, if_true, ne101, if_false, hb1]
          have HR : Hid (readR s = ⟨0, 0, 0, 20⟩) := by
            show _ = _
            unfold readR
            rw [if_neg (by rw [HC.out]; rintro ⟨h, _⟩; cases h)]

          obtain ⟨m0, m1, m2, m3, mf⟩ := hA.room
          obtain ⟨hB, _⟩ := id hA
          obtain ⟨p0, p1, p2, p3, p4, p5, p6, p7, p8⟩ := hA.cells
          clear HC
          go_wp2
          refine bodyPost_ret (v := .agg #[.int .i64 0, .int .i64 0, .int .i64 0, .int .i64 20]) (by simp [results, Tryd.results13, go_sem, m0, m1, m2, m3, p7, p8, w00, w01, w02, w03, lt1, lt2, lt3, lt4, lt5, lt6]) rfl ⟨by rw [HR.out], ?_⟩
          go_grown
      ·
        have qj101 : (((bs s)[j].toNat : Int) == 101) = false := byte_ne s j hbj hj 101 (by decide) ej101
        obtain ⟨b, hb1, hb2, hb3⟩ : ∃ b, x.r = some (b :: s.drop (j + 1)) ∧ (¬ b = 47) ∧ ¬ b = 101 := ⟨_, hno, ej47, ej101⟩
        have HC : Hid (candR s = ⟨x.n, 1, 0, some (b :: s.drop (j + 1))⟩) := by
          show _ = _
          unfold candR
          simp only [Hx.out, stepA, hb1, hb2, hb3, if_false]
        have HR : Hid (readR s = ⟨0, 0, 0, 20⟩) := by
          show _ = _
          unfold readR
          rw [if_neg (by rw [HC.out]; rintro ⟨h, _⟩; cases h)]

        obtain ⟨m0, m1, m2, m3, mf⟩ := hA.room
        obtain ⟨hB, _⟩ := id hA
        obtain ⟨p0, p1, p2, p3, p4, p5, p6, p7, p8⟩ := hA.cells
        clear HC
        go_wp2
        refine bodyPost_ret (v := .agg #[.int .i64 0, .int .i64 0, .int .i64 0, .int .i64 20]) (by simp [results, Tryd.results13, go_sem, m0, m1, m2, m3, p7, p8, w00, w01, w02, w03, lt1, lt2, lt3, lt4, lt5, lt6]) rfl ⟨by rw [HR.out], ?_⟩
        go_grown

end Go.Proofs.YtjklbnakgkffnaaDoor.Texts

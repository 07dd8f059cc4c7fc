/-
  Contract of the document's answer for powers: drachmref02.Pow, by one Lean function of the numbers; the world below stays as it was.
-/
import Derived.Test.YtndinbefljajcaaGreatDoorG6
namespace Go.Proofs.YtndinbefljajcaaGreatDoor.Frac
open Go.RowKit
open Go.Proofs.YtndinbefljajcaaGreatDoor.Whole
set_option linter.unusedVariables false
set_option linter.unusedSimpArgs false

/-- How the world stands at the head of a round of the document's Pow. -/
def PowAt (w v : World) (n d t : Int) (b c : Nat) (Y X : Sp) : Prop := OneRAt w v n d t ∧ OwnS v b Y ∧ OwnS v c X ∧ w.heap.size + 1 < b ∧ b < c
def XOk (X : Sp) : Prop := (X.s = 1 ∨ X.s = -1) ∧ 1 ≤ X.p ∧ X.p ≤ 9223372036854775807 ∧ 1 ≤ X.q ∧ X.q ≤ 9223372036854775807
theorem PowAt.put {w v : World} {n d t : Int} {b c : Nat} {Y X : Sp} {o : Obj} (h : PowAt w v n d t b c Y X) : PowAt w (v.alloc o) n d t b c Y X := ⟨h.1.put, h.2.1.put, h.2.2.1.put, h.2.2.2⟩

theorem PowAt.set {w v : World} {n d t : Int} {b c : Nat} {Y X : Sp} (h : PowAt w v n d t b c Y X) (s p q : Int) :
    PowAt w (((v.setCell ⟨c, 1, none⟩ (.int .i64 p)).setCell ⟨c, 2, none⟩ (.int .i64 q)).setCell ⟨c, 0, none⟩ (.int .i64 s)) n d t b c Y ⟨s, p, q, X.two, X.five⟩ := by
  obtain ⟨⟨h1, ⟨f0, f1, f2, fz⟩, ⟨g0, g1, g2, g3, gf, gz⟩⟩, ⟨⟨y0, y1, y2, y3, y4, yz⟩, yf⟩, ⟨⟨x0, x1, x2, x3, x4, xz⟩, xf⟩, hb, hc⟩ := h
  have n1 : ¬ w.heap.size = c := by omega
  have n2 : ¬ w.heap.size + 1 = c := by omega
  have n3 : ¬ b = c := by omega
  have n4 : w.heap.size ≤ c := by omega
  refine ⟨⟨by go_grown, ⟨?_, ?_, ?_, ?_⟩, ⟨?_, ?_, ?_, ?_, fun j => ?_, ?_⟩⟩, ⟨⟨?_, ?_, ?_, ?_, ?_, ?_⟩, fun j => ?_⟩, ⟨⟨?_, ?_, ?_, ?_, ?_, ?_⟩, fun j => ?_⟩, hb, hc⟩
  all_goals simp [go_sem, *]

theorem LiesM.two1 (w : World) (n : Int) (ok : Bool) : LiesM ((w.alloc (.cells #[.int .i64 n, .bool ok] 112)).alloc (.cells #[.int .i64 n, .bool ok] 112)) (w.heap.size + 1) n ok := by
  refine ⟨?_, ?_, ?_⟩
  all_goals simp [go_sem]

theorem mul_in (a b : Int) (A B : Nat) (ha : -(A : Int) ≤ a ∧ a ≤ A) (hb : -(B : Int) ≤ b ∧ b ≤ B) : -((A * B : Nat) : Int) ≤ a * b ∧ a * b ≤ ((A * B : Nat) : Int) := by
  have h : (a * b).natAbs ≤ A * B := by
    rw [Int.natAbs_mul]
    exact Nat.mul_le_mul (by omega) (by omega)
  omega

set_option maxRecDepth 100000 in
set_option maxHeartbeats 2000000 in
theorem rpow_up (n d t : Int) (K : Nat) (w : World) (h1 : n ≤ 9223372036854775807) (h2 : d ≤ 9223372036854775807) (r : rightR n d t = true) (hn : n ≠ 0) (hk : 0 < K) (hk' : K ≤ 99) :
    Calls Tryz.prog 51 #[.agg #[.int .i64 n, .int .i64 d, .int .i64 t], .int .i64 K] w fun e w' => e = .returned (powF (ofS n d) K (t * K)).r ∧ Below w.heap.size w w' := by
  obtain ⟨x1, x2, x3, x4, x5⟩ := rightR_fine h1 h2 r
  have ok := ofS_ok n d hn (by omega) x1 (by omega)
  have R := Lib.hid r
  have Z := Lib.hid hn
  have D : Hid (d ≠ 0) := by show d ≠ 0; omega
  have z0 : (n == 0) = false := by simpa using hn
  have zk : ((K : Int) == 0) = false := by simp; omega
  clear r hn
  have tb := mul_in t K 1000 99 (by omega) (by omega)
  have hA := OneRAt.new w n d t
  go_enter Tryz.func51, Tryz.ntmps51
  go_wp2_with fail
  refine (rright_any n d t _ h1 h2).mono ?_
  rintro e w1 ⟨rfl, hb⟩
  rw [R.out]
  replace hA := hA.below hb
  clear hb
  obtain ⟨hB, ⟨c0, c1, c2, _⟩, _⟩ := id hA
  go_wp2_with fail
  refine (of_any n d _ x1 (by omega) Z.out D.out).mono ?_
  rintro e w2 ⟨rfl, hb⟩
  replace hA := hA.below hb
  clear hb c0 c1 c2 hB
  generalize hY : ofS n d = Y at *
  have HY := Lib.hid hY
  clear hY
  have hA0 := hA
  unfold Sp.v
  have two := mul_in Y.two K 63 99 (by have := ok.2.2.2.2.2; omega) (by omega)
  have five := mul_in Y.five K 63 99 (by have := ok.2.2.2.2.2; omega) (by omega)
  have hS := OwnS.new w2 Y
  replace hA : OneRAt w (w2.alloc (.cells #[.int .i64 Y.s, .int .i64 Y.p, .int .i64 Y.q, .int .i64 Y.two, .int .i64 Y.five] 77)) n d t := hA.put
  obtain ⟨hB, ⟨c0, c1, c2, _⟩, _⟩ := id hA
  have hbz : w.heap.size + 1 < w2.heap.size := by have := hA0.2.2.2.2.2.2.2; exact this
  clear hA0
  go_wp2_with fail
  replace hS := hS.put (o := .cells #[.int .i64 1, .int .i64 1, .int .i64 1, .int .i64 (Y.two * K), .int .i64 (Y.five * K)] 77)
  have hX := OwnS.new (w2.alloc (.cells #[.int .i64 Y.s, .int .i64 Y.p, .int .i64 Y.q, .int .i64 Y.two, .int .i64 Y.five] 77)) ⟨1, 1, 1, Y.two * K, Y.five * K⟩
  have hA2 := hA.put (o := .cells #[.int .i64 1, .int .i64 1, .int .i64 1, .int .i64 (Y.two * K), .int .i64 (Y.five * K)] 77)
  have hP : PowAt w ((w2.alloc (.cells #[.int .i64 Y.s, .int .i64 Y.p, .int .i64 Y.q, .int .i64 Y.two, .int .i64 Y.five] 77)).alloc (.cells #[.int .i64 1, .int .i64 1, .int .i64 1, .int .i64 (Y.two * K), .int .i64 (Y.five * K)] 77)) n d t w2.heap.size (w2.heap.size + 1) Y ⟨1, 1, 1, Y.two * K, Y.five * K⟩ := ⟨hA2, hS, by simpa using hX, hbz, by omega⟩
  clear hA hA2 hS hX hB c0 c1 c2
  generalize w2.heap.size + 1 = c at *
  generalize w2.heap.size = b at *
  generalize (w2.alloc (.cells #[.int .i64 Y.s, .int .i64 Y.p, .int .i64 Y.q, .int .i64 Y.two, .int .i64 Y.five] 77)).alloc (.cells #[.int .i64 1, .int .i64 1, .int .i64 1, .int .i64 (Y.two * K), .int .i64 (Y.five * K)] 77) = W at *
  go_loopw [9] (fun a v => ∃ (i : Nat) (X : Sp), a = .int .i64 i ∧ i ≤ K ∧ XOk X ∧ Hid (X.two = Y.two * K ∧ X.five = Y.five * K) ∧ Hid (powS X (K - i) Y = powS ⟨1, 1, 1, Y.two * K, Y.five * K⟩ K Y) ∧ PowAt w v n d t b c Y X) (fun a _ => K - (intOf a).toNat)
  case atStart => exact ⟨0, ⟨1, 1, 1, Y.two * K, Y.five * K⟩, rfl, by omega, ⟨.inl rfl, by simp, by simp, by simp, by simp⟩, ⟨rfl, rfl⟩, rfl, hP⟩
  case round =>
    clear hP
    obtain ⟨i, X, rfl, hi, hx, HE, HJ, hP⟩ := hrel
    obtain ⟨hA, ⟨⟨y0, y1, y2, y3, y4, yz⟩, yf⟩, ⟨⟨x0, x1, x2, x3, x4, xz⟩, xf⟩, hbz, hbc⟩ := id hP
    obtain ⟨hB, _, m0, m1, m2, m3, mf, mz⟩ := id hA
    obtain ⟨xs, p1, p2, q1, q2⟩ := id hx
    obtain ⟨ys, u1, u2, v1, v2, _⟩ := id ok
    by_cases hlt : i < K
    · have P1 := one_mul_le X.p Y.p p1 u1
      have Q1 := one_mul_le X.q Y.q q1 v1
      have hsm : -1 ≤ X.s * Y.s ∧ X.s * Y.s ≤ 1 := by rcases xs with h | h <;> rcases ys with h' | h' <;> rw [h, h'] <;> decide
      by_cases f1 : X.p * Y.p ≤ 9223372036854775807
      · by_cases f2 : X.q * Y.q ≤ 9223372036854775807
        · go_wp2_with fail
          refine (rmul_yes _ _ _ (by omega) (by omega) (by omega) (by omega) (by omega) (by omega)).mono ?_
          rintro e v1 ⟨rfl, rfl⟩
          go_wp2_with fail
          have hN := LiesM.two1 wr (X.p * Y.p) true
          have hP2 := (hP.put (o := .cells #[.int .i64 (X.p * Y.p), .bool true] 112)).put (o := .cells #[.int .i64 (X.p * Y.p), .bool true] 112)
          clear hP hA y0 y1 y2 y3 y4 yz yf x0 x1 x2 x3 x4 xz xf hB m0 m1 m2 m3 mf mz
          generalize wr.heap.size + 1 = bp at *
          generalize (wr.alloc (.cells #[.int .i64 (X.p * Y.p), .bool true] 112)).alloc (.cells #[.int .i64 (X.p * Y.p), .bool true] 112) = V at *
          obtain ⟨hA, ⟨⟨y0, y1, y2, y3, y4, yz⟩, yf⟩, ⟨⟨x0, x1, x2, x3, x4, xz⟩, xf⟩, _⟩ := id hP2
          obtain ⟨hB, _, m0, m1, m2, m3, mf, mz⟩ := id hA
          obtain ⟨n0, n1, nz⟩ := id hN
          have k1 : b < V.heap.size + 1 := by omega
          have k2 : c < V.heap.size + 1 := by omega
          have k3 : bp < V.heap.size + 1 := by omega
          refine (rmul_yes _ _ _ (by omega) (by omega) (by omega) (by omega) (by omega) (by omega)).mono ?_
          rintro e v1 ⟨rfl, rfl⟩
          go_wp2
          go_roundw
          case rel =>
            refine ⟨i + 1, ⟨X.s * Y.s, X.p * Y.p, X.q * Y.q, X.two, X.five⟩, by go_num, by omega, ⟨sign_mul_cases _ _ xs ys, P1, f1, Q1, f2⟩, HE, ?_, ?_⟩
            · show powS _ (K - (i + 1)) Y = _
              rw [← HJ.out, show K - i = (K - (i + 1)) + 1 from by omega, powS, if_pos ⟨f1, f2⟩]
            · exact (PowAt.set hP2 _ _ _).put.put
          case measure => simp only [intOf]; omega
        · have HO : Hid (powF Y K (t * K) = over) := by
            show powF Y K (t * K) = over
            unfold powF
            rw [← HJ.out, show K - i = (K - (i + 1)) + 1 from by omega, powS, if_neg (fun c => f2 c.2)]
          go_wp2_with fail
          refine (rmul_yes _ _ _ (by omega) (by omega) (by omega) (by omega) (by omega) (by omega)).mono ?_
          rintro e v1 ⟨rfl, rfl⟩
          go_wp2_with fail
          have hN := LiesM.two1 wr (X.p * Y.p) true
          have hP2 := (hP.put (o := .cells #[.int .i64 (X.p * Y.p), .bool true] 112)).put (o := .cells #[.int .i64 (X.p * Y.p), .bool true] 112)
          clear hP hA y0 y1 y2 y3 y4 yz yf x0 x1 x2 x3 x4 xz xf hB m0 m1 m2 m3 mf mz
          generalize wr.heap.size + 1 = bp at *
          generalize (wr.alloc (.cells #[.int .i64 (X.p * Y.p), .bool true] 112)).alloc (.cells #[.int .i64 (X.p * Y.p), .bool true] 112) = V at *
          obtain ⟨hA, ⟨⟨y0, y1, y2, y3, y4, yz⟩, yf⟩, ⟨⟨x0, x1, x2, x3, x4, xz⟩, xf⟩, _⟩ := id hP2
          obtain ⟨hB, _, m0, m1, m2, m3, mf, mz⟩ := id hA
          obtain ⟨n0, n1, nz⟩ := id hN
          have k1 : b < V.heap.size + 1 := by omega
          have k2 : c < V.heap.size + 1 := by omega
          have k3 : bp < V.heap.size + 1 := by omega
          have k4 : w.heap.size + 1 < V.heap.size + 1 := by omega
          refine (rmul_no _ _ _ (by omega) (by omega) (.inr (.inr (by omega)))).mono ?_
          rintro e v1 ⟨rfl, rfl⟩
          go_wp2
          refine bodyPost_ret (v := over.r) (by simp [results, Tryz.results51, go_sem, over, Got.r, m0, m1, m2, m3, mz, k4]) rfl ⟨by rw [HY.out, HO.out], ?_⟩
          go_grown
      · have HO : Hid (powF Y K (t * K) = over) := by
          show powF Y K (t * K) = over
          unfold powF
          rw [← HJ.out, show K - i = (K - (i + 1)) + 1 from by omega, powS, if_neg (fun c => f1 c.1)]
        by_cases f2 : X.q * Y.q ≤ 9223372036854775807
        · go_wp2_with fail
          refine (rmul_no _ _ _ (by omega) (by omega) (.inr (.inr (by omega)))).mono ?_
          rintro e v1 ⟨rfl, rfl⟩
          go_wp2_with fail
          have hN := LiesM.two1 wr (0) false
          have hP2 := (hP.put (o := .cells #[.int .i64 (0), .bool false] 112)).put (o := .cells #[.int .i64 (0), .bool false] 112)
          clear hP hA y0 y1 y2 y3 y4 yz yf x0 x1 x2 x3 x4 xz xf hB m0 m1 m2 m3 mf mz
          generalize wr.heap.size + 1 = bp at *
          generalize (wr.alloc (.cells #[.int .i64 (0), .bool false] 112)).alloc (.cells #[.int .i64 (0), .bool false] 112) = V at *
          obtain ⟨hA, ⟨⟨y0, y1, y2, y3, y4, yz⟩, yf⟩, ⟨⟨x0, x1, x2, x3, x4, xz⟩, xf⟩, _⟩ := id hP2
          obtain ⟨hB, _, m0, m1, m2, m3, mf, mz⟩ := id hA
          obtain ⟨n0, n1, nz⟩ := id hN
          have k1 : b < V.heap.size + 1 := by omega
          have k2 : c < V.heap.size + 1 := by omega
          have k3 : bp < V.heap.size + 1 := by omega
          have k4 : w.heap.size + 1 < V.heap.size + 1 := by omega
          refine (rmul_yes _ _ _ (by omega) (by omega) (by omega) (by omega) (by omega) (by omega)).mono ?_
          rintro e v1 ⟨rfl, rfl⟩
          go_wp2
          refine bodyPost_ret (v := over.r) (by simp [results, Tryz.results51, go_sem, over, Got.r, m0, m1, m2, m3, mz, k4]) rfl ⟨by rw [HY.out, HO.out], ?_⟩
          go_grown
        · go_wp2_with fail
          refine (rmul_no _ _ _ (by omega) (by omega) (.inr (.inr (by omega)))).mono ?_
          rintro e v1 ⟨rfl, rfl⟩
          go_wp2_with fail
          have hN := LiesM.two1 wr (0) false
          have hP2 := (hP.put (o := .cells #[.int .i64 (0), .bool false] 112)).put (o := .cells #[.int .i64 (0), .bool false] 112)
          clear hP hA y0 y1 y2 y3 y4 yz yf x0 x1 x2 x3 x4 xz xf hB m0 m1 m2 m3 mf mz
          generalize wr.heap.size + 1 = bp at *
          generalize (wr.alloc (.cells #[.int .i64 (0), .bool false] 112)).alloc (.cells #[.int .i64 (0), .bool false] 112) = V at *
          obtain ⟨hA, ⟨⟨y0, y1, y2, y3, y4, yz⟩, yf⟩, ⟨⟨x0, x1, x2, x3, x4, xz⟩, xf⟩, _⟩ := id hP2
          obtain ⟨hB, _, m0, m1, m2, m3, mf, mz⟩ := id hA
          obtain ⟨n0, n1, nz⟩ := id hN
          have k1 : b < V.heap.size + 1 := by omega
          have k2 : c < V.heap.size + 1 := by omega
          have k3 : bp < V.heap.size + 1 := by omega
          have k4 : w.heap.size + 1 < V.heap.size + 1 := by omega
          refine (rmul_no _ _ _ (by omega) (by omega) (.inr (.inr (by omega)))).mono ?_
          rintro e v1 ⟨rfl, rfl⟩
          go_wp2
          refine bodyPost_ret (v := over.r) (by simp [results, Tryz.results51, go_sem, over, Got.r, m0, m1, m2, m3, mz, k4]) rfl ⟨by rw [HY.out, HO.out], ?_⟩
          go_grown
    · obtain rfl : i = K := by omega
      have HF : Hid (powF Y i (t * i) = formS X (t * i)) := by
        show powF Y i (t * i) = formS X (t * i)
        have e := HJ.out
        rw [Nat.sub_self, powS] at e
        unfold powF
        rw [← e]
      have tw : -1000000 ≤ X.two ∧ X.two ≤ 1000000 ∧ -1000000 ≤ X.five ∧ X.five ≤ 1000000 := by rw [HE.out.1, HE.out.2]; omega
      go_wp2_with fail
      refine (rform_any X (t * i) _ ⟨xs, p1, p2, q1, q2, tw.1, tw.2.1, tw.2.2.1, tw.2.2.2⟩ (by omega) (by omega)).mono ?_
      rintro e v1 ⟨rfl, hb⟩
      replace hA := hA.below hb
      clear hb hP y0 y1 y2 y3 y4 yz yf x0 x1 x2 x3 x4 xz xf hB m0 m1 m2 m3 mf mz
      obtain ⟨hB, _, m0, m1, m2, m3, mf, mz⟩ := id hA
      generalize hG : formS X (t * i) = G
      rw [hG] at HF
      clear hG
      unfold Got.r
      go_wp2
      refine bodyPost_ret (v := G.r) (by simp [results, Tryz.results51, go_sem, Got.r, m0, m1, m2, m3]) rfl ⟨by rw [HY.out, HF.out], ?_⟩
      go_grown

end Go.Proofs.YtndinbefljajcaaGreatDoor.Frac

/-
  The walk of StyleApart.
-/
import Derived.Test.YtehhdjkicpgjnaaDoorY5
import Derived.Deep.RegionHeld3
import Derived.Deep.Cut
namespace Go.Proofs.YtehhdjkicpgjnaaDoor.Style
open Go.RowKit
set_option linter.unusedVariables false
set_option linter.unusedSimpArgs false

/-- What a style writes with, one behind the other; of which kinds that is. -/
def lvZ (s : St) (i : Nat) : Int := [s.mul, s.div, s.pow, s.op, s.cl].getD i 0
def kvZ (i : Nat) : Int := [4, 5, 6, 9, 10].getD i 0
def apartB (k : Int) : Bool := (List.range 5).all fun i =>
  (decide (0 ≤ lvZ (stZ k) i) && decide (lvZ (stZ k) i ≤ 255)) && ((lvZ (stZ k) i == 0 && decide (2 ≤ i)) || (!(lvZ (stZ k) i == 0) && (kindZ k (lvZ (stZ k) i) == kvZ i && (List.range i).all fun j => !(lvZ (stZ k) i == lvZ (stZ k) j))))
theorem apart_all : (List.range 5).all (fun i => apartB (1 + (i : Int))) = true := by decide +kernel
theorem apart_at (r : Nat) (hr : r < 5) (i : Nat) (hi : i < 5) : (0 ≤ lvZ (stZ (1 + (r : Int))) i ∧ lvZ (stZ (1 + (r : Int))) i ≤ 255) ∧ (((lvZ (stZ (1 + (r : Int))) i == 0) = true ∧ 2 ≤ i) ∨ ((lvZ (stZ (1 + (r : Int))) i == 0) = false ∧ kindZ (1 + (r : Int)) (lvZ (stZ (1 + (r : Int))) i) = kvZ i ∧ ∀ j, j < i → (lvZ (stZ (1 + (r : Int))) i == lvZ (stZ (1 + (r : Int))) j) = false)) := by
  have h := List.all_eq_true.1 apart_all r (List.mem_range.2 hr)
  have h := List.all_eq_true.1 h i (List.mem_range.2 hi)
  simp only [Bool.and_eq_true, Bool.or_eq_true, decide_eq_true_eq, Bool.not_eq_true', List.all_eq_true, List.mem_range, beq_iff_eq] at h
  refine ⟨h.1, ?_⟩
  rcases h.2 with ⟨a, b⟩ | ⟨a, b, c⟩
  · exact .inl ⟨by simpa using a, b⟩
  · exact .inr ⟨a, b, c⟩
theorem ends_all : (List.range 5).all (fun i => (((stZ (1 + (i : Int))).op == 0) == ((stZ (1 + (i : Int))).cl == 0)) && isN (1 + (i : Int))) = true := by decide +kernel
theorem ends_at (r : Nat) (hr : r < 5) : (((stZ (1 + (r : Int))).op == 0) == ((stZ (1 + (r : Int))).cl == 0)) = true ∧ isN (1 + (r : Int)) = true := by
  have h := List.all_eq_true.1 ends_all r (List.mem_range.2 hr)
  simpa only [Bool.and_eq_true] using h
theorem restN_lt (x : Int) (n : Nat) (h : 0 < n) : restN x n < n := by
  have h1 := Int.emod_lt_of_pos x (show (0 : Int) < n by omega)
  have h2 := Int.emod_nonneg x (show (n : Int) ≠ 0 by omega)
  unfold restN; omega

/-- The boxes of the law. -/
structure ApI (w wr : World) (bx : Nat) (s : St) : Prop where
  below : Below w.heap.size w wr
  sts : Styles wr
  own : Lies wr bx 0 s
  l : ∀ i, i < 5 → wr.cell? ⟨bx + 1, i, none⟩ = some (.int .u8 (lvZ s i))
  k : ∀ i, i < 5 → wr.cell? ⟨bx + 1 + 1, i, none⟩ = some (.int .i64 (kvZ i))
  up : bx + 1 + 1 < wr.heap.size
  lo : w.heap.size ≤ bx
theorem ApI.go {w wr u : World} {bx : Nat} {s : St} (h : ApI w wr bx s) (hb : Below wr.heap.size wr u) : ApI w u bx s := by
  have hu := h.up
  refine ⟨h.below.trans (hb.mono h.below.size), h.sts.go hb, h.own.block (hb.block bx (by omega)), fun i hi => ?_, fun i hi => ?_, Nat.lt_of_lt_of_le hu hb.size, h.lo⟩
  · exact (World.cell?_of_block (a := ⟨bx + 1, i, none⟩) (hb.block (bx + 1) (by omega))).trans (h.l i hi)
  · exact (World.cell?_of_block (a := ⟨bx + 1 + 1, i, none⟩) (hb.block (bx + 1 + 1) (by omega))).trans (h.k i hi)
theorem ApI.drew {w wr : World} {bx : Nat} {s : St} (h : ApI w wr bx s) : ApI w wr.drew bx s := ⟨h.below.drew, h.sts, h.own, h.l, h.k, h.up, h.lo⟩
theorem below_drewN {B : Nat} {w X : World} (h : Below B w X) (m : Nat) : Below B w (X.drewN m) := ⟨h.os, h.tape, h.output, h.size, h.block⟩
theorem ApI.drewN {w wr : World} {bx : Nat} {s : St} (h : ApI w wr bx s) (m : Nat) : ApI w (wr.drewN m) bx s := ⟨below_drewN h.below m, h.sts, h.own, h.l, h.k, h.up, h.lo⟩
theorem ApI.cells {w wr : World} {bx : Nat} {s : St} (h : ApI w wr bx s) (i : Nat) (hi : i < 5) (a b : Int) (ha : lvZ s i = a) (hb : kvZ i = b) : wr.cell? ⟨bx + 1, i, none⟩ = some (.int .u8 a) ∧ wr.cell? ⟨bx + 1 + 1, i, none⟩ = some (.int .i64 b) :=
  ⟨ha ▸ h.l i hi, hb ▸ h.k i hi⟩
theorem ApI.new (w w3 : World) (s : St) (hS : Styles w3) (hb : Below w.heap.size w w3) (t1 t2 t3 : TypeId) :
    ApI w (((w3.alloc (.cells #[.bool s.fold, .int .u8 s.mul, .int .u8 s.div, .int .u8 s.pow, .int .u8 s.op, .int .u8 s.cl] t1)).alloc (.cells #[.int .u8 s.mul, .int .u8 s.div, .int .u8 s.pow, .int .u8 s.op, .int .u8 s.cl] t2)).alloc (.cells #[.int .i64 4, .int .i64 5, .int .i64 6, .int .i64 9, .int .i64 10] t3)) w3.heap.size s := by
  have hz := hb.size
  refine ⟨by go_grown, hS.go (by go_grown), ?_, fun i hi => ?_, fun i hi => ?_, ?_, hz⟩
  · have k := Lies.new w3 s t1
    have hV : w3.heap.size < (w3.alloc (.cells #[.bool s.fold, .int .u8 s.mul, .int .u8 s.div, .int .u8 s.pow, .int .u8 s.op, .int .u8 s.cl] t1)).heap.size := by rw [World.size_alloc]; omega
    generalize w3.alloc (.cells #[.bool s.fold, .int .u8 s.mul, .int .u8 s.div, .int .u8 s.pow, .int .u8 s.op, .int .u8 s.cl] t1) = V at k hV
    have hB : Below V.heap.size V ((V.alloc (.cells #[.int .u8 s.mul, .int .u8 s.div, .int .u8 s.pow, .int .u8 s.op, .int .u8 s.cl] t2)).alloc (.cells #[.int .i64 4, .int .i64 5, .int .i64 6, .int .i64 9, .int .i64 10] t3)) := by go_grown
    exact k.block (hB.block _ hV)
  · match i, hi with
    | 0, _ => simp [go_sem]; rfl
    | 1, _ => simp [go_sem]; rfl
    | 2, _ => simp [go_sem]; rfl
    | 3, _ => simp [go_sem]; rfl
    | 4, _ => simp [go_sem]; rfl
  · match i, hi with
    | 0, _ => simp [go_sem]; rfl
    | 1, _ => simp [go_sem]; rfl
    | 2, _ => simp [go_sem]; rfl
    | 3, _ => simp [go_sem]; rfl
    | 4, _ => simp [go_sem]; rfl
  · simp only [World.size_alloc]; omega

attribute [local irreducible] lvZ kvZ

set_option maxRecDepth 100000 in
set_option maxHeartbeats 4000000 in
theorem apart_walk (n : Int) (w : World) (hS : Styles w) :
    Calls Tryd.prog 4 #[.int .i64 n] w fun e w' => e = .returned (.bool true) ∧ Below w.heap.size w w' := by
  have hR := rest_any n 5
  have hr := restN_lt n 5 (by omega)
  generalize restN n 5 = r at hR hr
  obtain ⟨hE, hN⟩ := ends_at r hr
  have HA := Lib.hid (apart_at r hr)
  have hri : (r : Int) < 5 := by omega
  have hO := of_any (1 + (r : Int))
  have hK := kind_any (1 + (r : Int))
  rw [hN] at hO
  have HK := Lib.hid hK
  clear hK hN
  generalize stZ (1 + (r : Int)) = s at *
  have hNew := ApI.new w
  go_enter Tryd.func4, Tryd.ntmps4
  go_wp2_with fail
  refine (awake_yes w hS).mono ?_
  rintro e w1 ⟨rfl, hb1⟩
  have hS1 := hS.go hb1
  go_wp2_with fail
  refine (hR w1 (by omega) (by omega)).mono ?_
  rintro e w2 ⟨rfl, rfl⟩
  go_wp2_with fail
  refine (hO w1 hS1).mono ?_
  rintro e w3 ⟨rfl, hb3⟩
  have hS3 := hS1.go hb3
  have hI := ApI.new w w3 s hS3 (hb1.trans (hb3.mono hb1.size)) 27 30 31
  obtain ⟨f, m, d, p, op, cl⟩ := s
  simp only [St.v]
  simp only at hI hE
  clear hO hR hNew hS hS1 hS3
  go_wp2
  generalize ((w3.alloc (.cells #[.bool f, .int .u8 m, .int .u8 d, .int .u8 p, .int .u8 op, .int .u8 cl] 27)).alloc (.cells #[.int .u8 m, .int .u8 d, .int .u8 p, .int .u8 op, .int .u8 cl] 30)).alloc (.cells #[.int .i64 4, .int .i64 5, .int .i64 6, .int .i64 9, .int .i64 10] 31) = V at *
  go_loopw [9] (fun x wr => ∃ i : Nat, x = .int .i64 i ∧ i ≤ 5 ∧ ApI w wr w3.heap.size ⟨f, m, d, p, op, cl⟩) (fun x _ => (5 - intOf x).toNat)
  case atStart => exact ⟨0, rfl, by omega, hI⟩
  case round =>
    obtain ⟨i, rfl, hi, hA⟩ := hrel
    by_cases hil : i < 5
    · have hii : (i : Int) < 5 := by omega
      obtain ⟨⟨h0, h1⟩, hcase⟩ := HA.out i hil
      obtain ⟨c, hcc⟩ : ∃ c, lvZ ⟨f, m, d, p, op, cl⟩ i = c := ⟨_, rfl⟩
      obtain ⟨q, hqq⟩ : ∃ q, kvZ i = q := ⟨_, rfl⟩
      have HC := Lib.hid hcc
      have HQ := Lib.hid hqq
      rw [hcc] at h0 h1 hcase
      rw [hqq] at hcase
      clear hcc hqq
      obtain ⟨hc, hk⟩ := hA.cells i hil c q HC.out HQ.out
      rcases hcase with ⟨z, h2⟩ | ⟨z, hz, hj⟩
      · have z' : c = 0 := by simpa using z
        subst z'
        clear z
        have h2i : ¬ (i : Int) < 2 := by omega
        go_wp2
        go_roundw
        case rel => exact ⟨i + 1, rfl, by omega, hA⟩
        case measure => simp only [intOf]; omega
      · have HZ := Lib.hid hz
        have HJ := Lib.hid hj
        clear hz hj
        go_upto_region 12 with fail
        go_region_held3 (fun v => v.cell? ⟨w3.heap.size + 1, i, none⟩ = some (.int .u8 c) ∧ v.cell? ⟨w3.heap.size + 1 + 1, i, none⟩ = some (.int .i64 q))
          (first | with_reducible exact hA.cells i hil c q HC.out HQ.out | with_reducible exact hA.drew.cells i hil c q HC.out HQ.out | go_keep)
          (first | (go_at_call_of 12 (Value.int IntKind.u8 c); (first | refine (HK.out c _ hA.sts h0 h1).mono ?_ | refine (HK.out c _ hA.drew.sts h0 h1).mono ?_); rintro e u ⟨rfl, hb⟩; (first | (replace hA := hA.go hb) | (replace hA := hA.drew.go hb)); clear hb; rw [HZ.out]))
        clear hc hk
        go_wp2
        go_loopw [10] (fun x wr => ∃ j : Nat, x = .int .i64 j ∧ j ≤ i ∧ ApI w wr w3.heap.size ⟨f, m, d, p, op, cl⟩) (fun x _ => (i - intOf x).toNat)
        case atStart => first | exact ⟨0, rfl, by omega, hA⟩ | exact ⟨0, rfl, by omega, hA.drew⟩
        case round =>
          clear hA
          obtain ⟨j, rfl, hj, hA⟩ := hrel
          have hc := (hA.cells i hil c q HC.out HQ.out).1
          by_cases hji : j < i
          · have hjj : (j : Int) < i := by omega
            have hj5 : (j : Int) < 5 := by omega
            have hcj := hA.l j (by omega)
            have hne := HJ.out j hji
            generalize lvZ ⟨f, m, d, p, op, cl⟩ j = cj at hcj hne
            go_upto_region 17 with fail
            go_quiet (fail)
            go_wp2
            go_roundw
            case rel => exact ⟨j + 1, rfl, by omega, hA.drewN _⟩
            case measure => simp only [intOf]; omega
          · have hjj : ¬ (j : Int) < i := by omega
            go_wp2
            go_roundw
            case rel => exact ⟨i + 1, rfl, by omega, hA⟩
            case measure => simp only [intOf]; omega
    · have hii : ¬ (i : Int) < 5 := by omega
      obtain ⟨c0, c1, c2, c3, c4, c5⟩ := hA.own
      simp only [Nat.zero_add] at c0 c1 c2 c3 c4 c5
      go_wp2
      go_ret
      exact ⟨by first | rfl | (rw [hE]; rfl), hA.below⟩

theorem apart_law (n : Int) (w : World) (hS : Styles w) (hn : -9223372036854775808 ≤ n ∧ n ≤ 9223372036854775807) :
    Calls Tryd.prog 4 #[.int .i64 n] w fun e w' => e = .returned (.bool true) ∧ Below w.heap.size w w' := apart_walk n w hS

end Go.Proofs.YtehhdjkicpgjnaaDoor.Style

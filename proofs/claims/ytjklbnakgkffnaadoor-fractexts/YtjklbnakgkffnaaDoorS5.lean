/-
  The walk of the law FracTexts: it returns true, for every argument of its kind; old memory stays.
-/
import Derived.Test.YtjklbnakgkffnaaDoorT7
import Derived.Test.YtjklbnakgkffnaaDoorG7
import Derived.Deep.RegionHeld3
namespace Go.Proofs.YtjklbnakgkffnaaDoor.Texts
open Go.RowKit
open Go.Proofs.YtjklbnakgkffnaaDoor.Whole
open Go.Proofs.YtjklbnakgkffnaaDoor.Frac
set_option linter.unusedVariables false
set_option linter.unusedSimpArgs false

theorem bs_of (s : ByteArray) : bs s.data.toList = s := by
  cases s
  simp [bs]

theorem specG_small (a b c : Int) (h1 : a ≤ 9223372036854775807) (h2 : b ≤ 9223372036854775807) : (specG a b c).n ≤ 9223372036854775807 ∧ (specG a b c).d ≤ 9223372036854775807 := by
  unfold specG
  by_cases he : (makeG a b c).e = 0
  · rw [if_pos he]; exact ⟨by have := make_small a b c; omega, make_dsmall a b c h1 h2⟩
  · rw [if_neg he]; decide

/-- How the world stands within the law: its two boxes. -/
def TextsAt (w v : World) (s0 s1 s2 q0 q1 q2 : Int) : Prop := Below w.heap.size w v ∧ LiesF v w.heap.size s0 s1 s2 ∧ LiesF v (w.heap.size + 1) q0 q1 q2
theorem TextsAt.go {w v v' : World} {s0 s1 s2 q0 q1 q2 : Int} (h : TextsAt w v s0 s1 s2 q0 q1 q2) (hb : Below v.heap.size v v') : TextsAt w v' s0 s1 s2 q0 q1 q2 :=
  ⟨Below.go h.1 hb, h.2.1.go hb, h.2.2.go hb⟩
theorem TextsAt.new (w : World) (s0 s1 s2 q0 q1 q2 : Int) : TextsAt w ((w.alloc (.cells #[.int .i64 s0, .int .i64 s1, .int .i64 s2] 23)).alloc (.cells #[.int .i64 q0, .int .i64 q1, .int .i64 q2] 24)) s0 s1 s2 q0 q1 q2 := by
  refine ⟨by go_grown, ⟨?_, ?_, ?_, ?_⟩, ⟨?_, ?_, ?_, ?_⟩⟩
  all_goals simp [go_sem]
  all_goals try omega

/-- How the world stands ahead of the last line: two boxes more. -/
def LastAt (w v : World) (s0 s1 s2 q0 q1 q2 : Int) (A G : Nat) (R : Got) : Prop := TextsAt w v s0 s1 s2 q0 q1 q2 ∧ LiesF v A R.n R.d R.t ∧ LiesF v G R.n R.d R.t ∧ v.cell? ⟨G, 3, none⟩ = some (.int .i64 R.e)
theorem LastAt.go {w v v' : World} {s0 s1 s2 q0 q1 q2 : Int} {A G : Nat} {R : Got} (h : LastAt w v s0 s1 s2 q0 q1 q2 A G R) (hb : Below v.heap.size v v') : LastAt w v' s0 s1 s2 q0 q1 q2 A G R :=
  ⟨h.1.go hb, h.2.1.go hb, h.2.2.1.go hb, (hb.cell (p := ⟨G, 3, none⟩) h.2.2.1.2.2.2).trans h.2.2.2⟩
theorem LastAt.drew {w v : World} {s0 s1 s2 q0 q1 q2 : Int} {A G : Nat} {R : Got} (h : LastAt w v s0 s1 s2 q0 q1 q2 A G R) : LastAt w v.drew s0 s1 s2 q0 q1 q2 A G R := h.go (by go_grown)
theorem LastAt.cells {w v : World} {s0 s1 s2 q0 q1 q2 : Int} {A G : Nat} {R : Got} (h : LastAt w v s0 s1 s2 q0 q1 q2 A G R) :
    v.cell? ⟨w.heap.size, 0, none⟩ = some (.int .i64 s0) ∧ v.cell? ⟨w.heap.size, 1, none⟩ = some (.int .i64 s1) ∧ v.cell? ⟨w.heap.size, 2, none⟩ = some (.int .i64 s2) ∧ v.cell? ⟨w.heap.size + 1, 0, none⟩ = some (.int .i64 q0) ∧ v.cell? ⟨w.heap.size + 1, 1, none⟩ = some (.int .i64 q1) ∧ v.cell? ⟨w.heap.size + 1, 2, none⟩ = some (.int .i64 q2) ∧ v.cell? ⟨A, 0, none⟩ = some (.int .i64 R.n) ∧ v.cell? ⟨A, 1, none⟩ = some (.int .i64 R.d) ∧ v.cell? ⟨A, 2, none⟩ = some (.int .i64 R.t) ∧ v.cell? ⟨G, 0, none⟩ = some (.int .i64 R.n) ∧ v.cell? ⟨G, 1, none⟩ = some (.int .i64 R.d) ∧ v.cell? ⟨G, 2, none⟩ = some (.int .i64 R.t) ∧ v.cell? ⟨G, 3, none⟩ = some (.int .i64 R.e) :=
  ⟨h.1.2.1.1, h.1.2.1.2.1, h.1.2.1.2.2.1, h.1.2.2.1, h.1.2.2.2.1, h.1.2.2.2.2.1, h.2.1.1, h.2.1.2.1, h.2.1.2.2.1, h.2.2.1.1, h.2.2.1.2.1, h.2.2.1.2.2.1, h.2.2.2⟩

set_option maxRecDepth 100000 in
set_option maxHeartbeats 4000000 in
theorem texts_short (s0 s1 s2 q0 q1 q2 : Int) (s : List UInt8) (w : World) (hE : Env w) (b0 : s0 ≤ 9223372036854775807) (b1 : s1 ≤ 9223372036854775807) (b2 : -9223372036854775808 ≤ s2 ∧ s2 ≤ 9223372036854775807) (b3 : q0 ≤ 9223372036854775807) (b4 : q1 ≤ 9223372036854775807) (hs : s.length ≤ 60) :
    Calls Tryd.prog 3 #[.agg #[.int .i64 s0, .int .i64 s1, .int .i64 s2], .agg #[.int .i64 q0, .int .i64 q1, .int .i64 q2], .string (bs s)] w fun e w' => e = .returned (.bool true) ∧ Below w.heap.size w w' := by
  have hA := TextsAt.new w s0 s1 s2 q0 q1 q2
  have zs : (bs s).size = s.length := bs_size s
  have zl : ¬ (60 : Int) < (s.length : Int) := by omega
  have hsp := spec_any s0 s1 s2
  have hsm := specG_small s0 s1 s2 b0 b1
  generalize specG s0 s1 s2 = A at *
  have t1 := text_any A.n A.d A.t
  have t2 := rtext_any A.n A.d A.t
  have t3 := text_any q0 q1 q2
  have t4 := rtext_any q0 q1 q2
  generalize textF A.n A.d A.t = X at *
  generalize textF q0 q1 q2 = Y at *
  have r1 := read_any s
  have r2 := rRead_any s
  rw [readR_eq] at r2
  generalize readG s = R at *
  unfold Got.v at r1
  have tl : ∀ l : List UInt8, (bs l).toList = l := bs_toList
  go_enter Tryd.func3, Tryd.ntmps3
  go_wp2_with fail
  refine (awake2_yes _ (hE.below hA.1).1).mono ?_
  rintro e w1 ⟨rfl, hb⟩
  replace hA := hA.go hb
  clear hb
  go_wp2_with fail
  refine (r1 _ (hE.below hA.1) (by omega)).mono ?_
  rintro e w2 ⟨rfl, hb⟩
  have lA := LiesF.new w2 R.n R.d R.t
  replace hA := (hA.go hb).go (v' := w2.alloc (.cells #[.int .i64 R.n, .int .i64 R.d, .int .i64 R.t] 24)) (by go_grown)
  clear hb
  go_wp2_with fail
  generalize w2.alloc (.cells #[.int .i64 R.n, .int .i64 R.d, .int .i64 R.t] 24) = V at *
  refine (r2 _ (by omega)).mono ?_
  rintro e w3 ⟨rfl, hb⟩
  have lG : LiesF (w3.alloc (.cells #[.int .i64 R.n, .int .i64 R.d, .int .i64 R.t, .int .i64 R.e] 30)) w3.heap.size R.n R.d R.t := by
    refine ⟨?_, ?_, ?_, ?_⟩
    all_goals simp [go_sem]
  have cG : (w3.alloc (.cells #[.int .i64 R.n, .int .i64 R.d, .int .i64 R.t, .int .i64 R.e] 30)).cell? ⟨w3.heap.size, 3, none⟩ = some (.int .i64 R.e) := by simp [go_sem]
  have hL : LastAt w (w3.alloc (.cells #[.int .i64 R.n, .int .i64 R.d, .int .i64 R.t, .int .i64 R.e] 30)) s0 s1 s2 q0 q1 q2 w2.heap.size w3.heap.size R := ⟨(hA.go hb).go (by go_grown), (lA.go hb).go (by go_grown), lG, cG⟩
  clear hb hA lA lG cG
  go_wp2
  generalize w3.alloc (.cells #[.int .i64 R.n, .int .i64 R.d, .int .i64 R.t, .int .i64 R.e] 30) = W at *
  go_region_held3 (fun v => v.cell? ⟨w.heap.size, 0, none⟩ = some (.int .i64 s0) ∧ v.cell? ⟨w.heap.size, 1, none⟩ = some (.int .i64 s1) ∧ v.cell? ⟨w.heap.size, 2, none⟩ = some (.int .i64 s2) ∧ v.cell? ⟨w.heap.size + 1, 0, none⟩ = some (.int .i64 q0) ∧ v.cell? ⟨w.heap.size + 1, 1, none⟩ = some (.int .i64 q1) ∧ v.cell? ⟨w.heap.size + 1, 2, none⟩ = some (.int .i64 q2) ∧ v.cell? ⟨w2.heap.size, 0, none⟩ = some (.int .i64 R.n) ∧ v.cell? ⟨w2.heap.size, 1, none⟩ = some (.int .i64 R.d) ∧ v.cell? ⟨w2.heap.size, 2, none⟩ = some (.int .i64 R.t) ∧ v.cell? ⟨w3.heap.size, 0, none⟩ = some (.int .i64 R.n) ∧ v.cell? ⟨w3.heap.size, 1, none⟩ = some (.int .i64 R.d) ∧ v.cell? ⟨w3.heap.size, 2, none⟩ = some (.int .i64 R.t) ∧ v.cell? ⟨w3.heap.size, 3, none⟩ = some (.int .i64 R.e))
    (first | exact hL.cells | exact hL.drew.cells | go_keep)
    (first
      | (go_at_call 15; refine (hsp _ b0 b1 b2.1 b2.2).mono ?_; rintro e u ⟨rfl, hb⟩; (first | (replace hL := hL.go hb) | (replace hL := hL.drew.go hb)); clear hb)
      | (go_at_call_of 14 (Value.agg #[Value.int IntKind.i64 A.n, Value.int IntKind.i64 A.d, Value.int IntKind.i64 A.t]); refine (t1 _ (hE.below hL.1.1) hsm.1 hsm.2).mono ?_; rintro e u ⟨rfl, hb⟩; (first | (replace hL := hL.go hb) | (replace hL := hL.drew.go hb)); clear hb)
      | (go_at_call_of 14 (Value.agg #[Value.int IntKind.i64 q0, Value.int IntKind.i64 q1, Value.int IntKind.i64 q2]); refine (t3 _ (hE.below hL.1.1) b3 b4).mono ?_; rintro e u ⟨rfl, hb⟩; (first | (replace hL := hL.go hb) | (replace hL := hL.drew.go hb)); clear hb)
      | (go_at_call_of 16 (Value.agg #[Value.int IntKind.i64 A.n, Value.int IntKind.i64 A.d, Value.int IntKind.i64 A.t]); refine (t2 _ hsm.1 hsm.2).mono ?_; rintro e u ⟨rfl, hb⟩; (first | (replace hL := hL.go hb) | (replace hL := hL.drew.go hb)); clear hb)
      | (go_at_call_of 16 (Value.agg #[Value.int IntKind.i64 q0, Value.int IntKind.i64 q1, Value.int IntKind.i64 q2]); refine (t4 _ b3 b4).mono ?_; rintro e u ⟨rfl, hb⟩; (first | (replace hL := hL.go hb) | (replace hL := hL.drew.go hb)); clear hb))
  go_wp2
  go_ret
  exact ⟨rfl, hL.1.1⟩

set_option maxRecDepth 100000 in
set_option maxHeartbeats 4000000 in
theorem texts_long (s0 s1 s2 q0 q1 q2 : Int) (s S : List UInt8) (w : World) (hE : Env w) (b0 : s0 ≤ 9223372036854775807) (b1 : s1 ≤ 9223372036854775807) (b2 : -9223372036854775808 ≤ s2 ∧ s2 ≤ 9223372036854775807) (b3 : q0 ≤ 9223372036854775807) (b4 : q1 ≤ 9223372036854775807) (hs : 60 < s.length) (hS : S = s.take 60) :
    Calls Tryd.prog 3 #[.agg #[.int .i64 s0, .int .i64 s1, .int .i64 s2], .agg #[.int .i64 q0, .int .i64 q1, .int .i64 q2], .string (bs s)] w fun e w' => e = .returned (.bool true) ∧ Below w.heap.size w w' := by
  have hA := TextsAt.new w s0 s1 s2 q0 q1 q2
  have zs : (bs s).size = s.length := bs_size s
  have zl : (60 : Int) < (s.length : Int) := by omega
  have zl2 : (60 : Int) ≤ (s.length : Int) := by omega
  have zl3 : 60 ≤ s.length := by omega
  have zS : S.length ≤ 60 := by rw [hS, List.length_take]; omega
  have ex : (bs s).extract 0 60 = bs S := by rw [bs_extract, hS]; simp
  clear hS
  have hsp := spec_any s0 s1 s2
  have hsm := specG_small s0 s1 s2 b0 b1
  generalize specG s0 s1 s2 = A at *
  have t1 := text_any A.n A.d A.t
  have t2 := rtext_any A.n A.d A.t
  have t3 := text_any q0 q1 q2
  have t4 := rtext_any q0 q1 q2
  generalize textF A.n A.d A.t = X at *
  generalize textF q0 q1 q2 = Y at *
  have r1 := read_any S
  have r2 := rRead_any S
  rw [readR_eq] at r2
  generalize readG S = R at *
  unfold Got.v at r1
  have tl : ∀ l : List UInt8, (bs l).toList = l := bs_toList
  go_enter Tryd.func3, Tryd.ntmps3
  go_wp2_with fail
  refine (awake2_yes _ (hE.below hA.1).1).mono ?_
  rintro e w1 ⟨rfl, hb⟩
  replace hA := hA.go hb
  clear hb
  go_wp2_with fail
  refine (r1 _ (hE.below hA.1) (by omega)).mono ?_
  rintro e w2 ⟨rfl, hb⟩
  have lA := LiesF.new w2 R.n R.d R.t
  replace hA := (hA.go hb).go (v' := w2.alloc (.cells #[.int .i64 R.n, .int .i64 R.d, .int .i64 R.t] 24)) (by go_grown)
  clear hb
  go_wp2_with fail
  generalize w2.alloc (.cells #[.int .i64 R.n, .int .i64 R.d, .int .i64 R.t] 24) = V at *
  refine (r2 _ (by omega)).mono ?_
  rintro e w3 ⟨rfl, hb⟩
  have lG : LiesF (w3.alloc (.cells #[.int .i64 R.n, .int .i64 R.d, .int .i64 R.t, .int .i64 R.e] 30)) w3.heap.size R.n R.d R.t := by
    refine ⟨?_, ?_, ?_, ?_⟩
    all_goals simp [go_sem]
  have cG : (w3.alloc (.cells #[.int .i64 R.n, .int .i64 R.d, .int .i64 R.t, .int .i64 R.e] 30)).cell? ⟨w3.heap.size, 3, none⟩ = some (.int .i64 R.e) := by simp [go_sem]
  have hL : LastAt w (w3.alloc (.cells #[.int .i64 R.n, .int .i64 R.d, .int .i64 R.t, .int .i64 R.e] 30)) s0 s1 s2 q0 q1 q2 w2.heap.size w3.heap.size R := ⟨(hA.go hb).go (by go_grown), (lA.go hb).go (by go_grown), lG, cG⟩
  clear hb hA lA lG cG
  go_wp2
  generalize w3.alloc (.cells #[.int .i64 R.n, .int .i64 R.d, .int .i64 R.t, .int .i64 R.e] 30) = W at *
  go_region_held3 (fun v => v.cell? ⟨w.heap.size, 0, none⟩ = some (.int .i64 s0) ∧ v.cell? ⟨w.heap.size, 1, none⟩ = some (.int .i64 s1) ∧ v.cell? ⟨w.heap.size, 2, none⟩ = some (.int .i64 s2) ∧ v.cell? ⟨w.heap.size + 1, 0, none⟩ = some (.int .i64 q0) ∧ v.cell? ⟨w.heap.size + 1, 1, none⟩ = some (.int .i64 q1) ∧ v.cell? ⟨w.heap.size + 1, 2, none⟩ = some (.int .i64 q2) ∧ v.cell? ⟨w2.heap.size, 0, none⟩ = some (.int .i64 R.n) ∧ v.cell? ⟨w2.heap.size, 1, none⟩ = some (.int .i64 R.d) ∧ v.cell? ⟨w2.heap.size, 2, none⟩ = some (.int .i64 R.t) ∧ v.cell? ⟨w3.heap.size, 0, none⟩ = some (.int .i64 R.n) ∧ v.cell? ⟨w3.heap.size, 1, none⟩ = some (.int .i64 R.d) ∧ v.cell? ⟨w3.heap.size, 2, none⟩ = some (.int .i64 R.t) ∧ v.cell? ⟨w3.heap.size, 3, none⟩ = some (.int .i64 R.e))
    (first | exact hL.cells | exact hL.drew.cells | go_keep)
    (first
      | (go_at_call 15; refine (hsp _ b0 b1 b2.1 b2.2).mono ?_; rintro e u ⟨rfl, hb⟩; (first | (replace hL := hL.go hb) | (replace hL := hL.drew.go hb)); clear hb)
      | (go_at_call_of 14 (Value.agg #[Value.int IntKind.i64 A.n, Value.int IntKind.i64 A.d, Value.int IntKind.i64 A.t]); refine (t1 _ (hE.below hL.1.1) hsm.1 hsm.2).mono ?_; rintro e u ⟨rfl, hb⟩; (first | (replace hL := hL.go hb) | (replace hL := hL.drew.go hb)); clear hb)
      | (go_at_call_of 14 (Value.agg #[Value.int IntKind.i64 q0, Value.int IntKind.i64 q1, Value.int IntKind.i64 q2]); refine (t3 _ (hE.below hL.1.1) b3 b4).mono ?_; rintro e u ⟨rfl, hb⟩; (first | (replace hL := hL.go hb) | (replace hL := hL.drew.go hb)); clear hb)
      | (go_at_call_of 16 (Value.agg #[Value.int IntKind.i64 A.n, Value.int IntKind.i64 A.d, Value.int IntKind.i64 A.t]); refine (t2 _ hsm.1 hsm.2).mono ?_; rintro e u ⟨rfl, hb⟩; (first | (replace hL := hL.go hb) | (replace hL := hL.drew.go hb)); clear hb)
      | (go_at_call_of 16 (Value.agg #[Value.int IntKind.i64 q0, Value.int IntKind.i64 q1, Value.int IntKind.i64 q2]); refine (t4 _ b3 b4).mono ?_; rintro e u ⟨rfl, hb⟩; (first | (replace hL := hL.go hb) | (replace hL := hL.drew.go hb)); clear hb))
  go_wp2
  go_ret
  exact ⟨rfl, hL.1.1⟩

theorem texts_walk (s0 s1 s2 q0 q1 q2 : Int) (tx : ByteArray) (w : World) (hE : Env w) (b0 : -9223372036854775808 ≤ s0 ∧ s0 ≤ 9223372036854775807) (b1 : -9223372036854775808 ≤ s1 ∧ s1 ≤ 9223372036854775807) (b2 : -9223372036854775808 ≤ s2 ∧ s2 ≤ 9223372036854775807) (b3 : -9223372036854775808 ≤ q0 ∧ q0 ≤ 9223372036854775807) (b4 : -9223372036854775808 ≤ q1 ∧ q1 ≤ 9223372036854775807) (b5 : -9223372036854775808 ≤ q2 ∧ q2 ≤ 9223372036854775807) (hs : tx.size ≤ maxLen) :
    Calls Tryd.prog 3 #[.agg #[.int .i64 s0, .int .i64 s1, .int .i64 s2], .agg #[.int .i64 q0, .int .i64 q1, .int .i64 q2], .string tx] w fun e w' => e = .returned (.bool true) ∧ Below w.heap.size w w' := by
  rw [← bs_of tx]
  by_cases h : tx.data.toList.length ≤ 60
  · exact texts_short s0 s1 s2 q0 q1 q2 tx.data.toList w hE b0.2 b1.2 b2 b3.2 b4.2 h
  · exact texts_long s0 s1 s2 q0 q1 q2 tx.data.toList (tx.data.toList.take 60) w hE b0.2 b1.2 b2 b3.2 b4.2 (by omega) rfl

end Go.Proofs.YtjklbnakgkffnaaDoor.Texts

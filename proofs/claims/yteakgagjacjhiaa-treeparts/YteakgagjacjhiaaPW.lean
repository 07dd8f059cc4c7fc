/-
  TreeParts.
-/
import Derived.Test.YteakgagjacjhiaaPU
import Derived.Test.YteakgagjacjhiaaGS
import Derived.Deep.RegionHeld3
namespace Go.Proofs.Yteakgagjacjhiaa.Trees
open Go.RowKit Go.Shelf
open Go.Proofs.Yteakgagjacjhiaa.Style (bs bs_size bs_at getD_at bs_of)
open Go.Proofs.Yteakgagjacjhiaa.Toks (cell_lt cell_same SliceAt Above)
set_option linter.unusedVariables false
set_option linter.unusedSimpArgs false
attribute [local irreducible] symT mayZ

theorem bs_one (s : ByteArray) (h : s.size ≤ maxLen) : ∃ t : List UInt8, s = bs t ∧ t.length ≤ 9223372036854775807 := by
  refine ⟨s.data.toList, (bs_of s).symm, ?_⟩
  have : maxLen = 9223372036854775807 := by decide
  have h2 : s.data.toList.length = s.size := rfl
  omega
/-- While TreeParts goes: how it is spoilt, the numbers. -/
structure TpI (w : World) (qb : Nat) (sa : Value) (la : List Int) (h0 a0 n0 : Int) (x0 : List UInt8) (W : World) : Prop where
  q : W.cell? ⟨qb, 0, none⟩ = some (.int .i64 h0) ∧ W.cell? ⟨qb, 1, none⟩ = some (.int .i64 a0) ∧ W.cell? ⟨qb, 2, none⟩ = some (.int .i64 n0) ∧ W.cell? ⟨qb, 3, none⟩ = some (.string (bs x0))
  iv : IV W sa la
  below : Below w.heap.size w W
theorem TpI.go {w W W' : World} {qb : Nat} {sa : Value} {la : List Int} {h0 a0 n0 : Int} {x0 : List UInt8} (h : TpI w qb sa la h0 a0 n0 x0 W) (hb : Below W.heap.size W W') : TpI w qb sa la h0 a0 n0 x0 W' := by
  obtain ⟨⟨q0, q1, q2, q3⟩, hi, hw⟩ := h
  have hl := cell_lt q0
  exact ⟨⟨(hb.cell (p := ⟨qb, 0, none⟩) hl).trans q0, (hb.cell (p := ⟨qb, 1, none⟩) hl).trans q1, (hb.cell (p := ⟨qb, 2, none⟩) hl).trans q2, (hb.cell (p := ⟨qb, 3, none⟩) hl).trans q3⟩, hi.go hb, hw.trans (hb.mono hw.size)⟩
theorem TpI.drew {w W : World} {qb : Nat} {sa : Value} {la : List Int} {h0 a0 n0 : Int} {x0 : List UInt8} (h : TpI w qb sa la h0 a0 n0 x0 W) : TpI w qb sa la h0 a0 n0 x0 W.drew := h.go (Below.refl _ _).drew
/-- Made, and that parts holds of what it tells. -/
theorem made_parts {w : World} {e : Ending} {w' : World} (h : MadeEnd w e w') : ∃ (L : List Stp) (s : Value), e = .returned s ∧ PartsOk L ∧ View w' s L ∧ TextsOk L ∧ L.length ≤ 31 ∧ Below w.heap.size w w' := by
  obtain ⟨t, s, he, hg, hl, hT, hs, _, hb⟩ := h
  have hF : TextsOk t.flat := fun x hx => by have := hT x hx; omega
  exact ⟨t.flat, s, he, parts_all _ (by omega) hF, hs.view, hF, hl, hb⟩

set_option maxRecDepth 100000 in
set_option maxHeartbeats 8000000 in
theorem parts_go (sa : Value) (la : List Int) (h0 a0 n0 : Int) (t0 : ByteArray) (w : World) (ha : IV w sa la)
    (b0 : -9223372036854775808 ≤ h0 ∧ h0 ≤ 9223372036854775807) (b1 : -9223372036854775808 ≤ a0 ∧ a0 ≤ 9223372036854775807) (b2 : -9223372036854775808 ≤ n0 ∧ n0 ≤ 9223372036854775807) (b3 : t0.size ≤ maxLen) (hla : la.length ≤ 9223372036854775807) :
    Calls Try.prog 4 #[sa, .agg #[.int .i64 h0, .int .i64 a0, .int .i64 n0, .string t0]] w fun e w' => e = .returned (.bool true) ∧ Below w.heap.size w w' := by
  obtain ⟨x0, rfl, hx0⟩ := bs_one t0 b3
  have hAw := fun W => awake_yes W
  have hMa := fun W h => (made_x sa la W h hla).mono (fun _ _ he => made_parts he)
  have hSp := fun s L W hV hT hl => spoilt_x s L h0 a0 n0 x0 W hV hT hl hx0
  have hu : Below w.heap.size w (w.alloc (.cells #[.int .i64 h0, .int .i64 a0, .int .i64 n0, .string (bs x0)] 24)) := by go_grown
  have hI : TpI w w.heap.size sa la h0 a0 n0 x0 (w.alloc (.cells #[.int .i64 h0, .int .i64 a0, .int .i64 n0, .string (bs x0)] 24)) :=
    ⟨⟨by simp [go_sem], by simp [go_sem], by simp [go_sem], by simp [go_sem]⟩, ha.go hu, hu⟩
  clear b0 b1 b2 b3 ha hu
  go_enter Try.func4, Try.ntmps4
  go_upto_region 1 with fail
  generalize w.alloc (.cells #[.int .i64 h0, .int .i64 a0, .int .i64 n0, .string (bs x0)] 24) = W0 at *
  obtain ⟨qb, hqb⟩ : ∃ qb, w.heap.size = qb := ⟨_, rfl⟩
  go_wp2_with fail
  refine (hAw _).mono ?_
  rintro e w1 ⟨rfl, hb1⟩
  have hA := hI.go hb1
  clear hI hb1 hAw hqb
  go_upto_region 2 with fail
  go_region_held3 (fun v => v.cell? ⟨w.heap.size, 0, none⟩ = some (.int .i64 h0) ∧ v.cell? ⟨w.heap.size, 1, none⟩ = some (.int .i64 a0) ∧ v.cell? ⟨w.heap.size, 2, none⟩ = some (.int .i64 n0) ∧ v.cell? ⟨w.heap.size, 3, none⟩ = some (.string (bs x0)))
    (first | with_reducible exact hA.q | with_reducible exact hA.drew.q)
    (first
      | (go_at_call 10; refine (hMa _ (by first | with_reducible exact hA.iv | with_reducible exact hA.drew.iv)).mono ?_; rintro e u ⟨L, s2, rfl, hp, hv, hF, hl, hb⟩; obtain ⟨o2, c2, rfl, _⟩ := hv.slice; (first | (replace hA := hA.go hb) | (replace hA := hA.drew.go hb)); clear hb)
      | (go_at_call 13; refine (hp _ _ hv).mono ?_; rintro e u ⟨rfl, hb⟩; replace hA := hA.go hb; clear hb hp hv hF hl)
      | (go_at_call 11; refine (hSp _ L _ hv hF (by omega)).mono ?_; rintro e u ⟨M, s3, rfl, hs3, hF3, hl3, hb⟩; obtain ⟨o3, c3, rfl⟩ := SliceAt.slice hs3; replace hA := hA.go hb; have hv3 := hs3.view; have hp3 := parts_all M (by omega) hF3; clear hb hp hv hF hl; have hp := hp3; have hv := hv3; have hF := hF3; have hl := hl3))
  have hB := hA.below
  clear hA hMa hSp
  go_wp2_with fail
  go_ret
  exact ⟨by first | rfl | simp, hB⟩

end Go.Proofs.Yteakgagjacjhiaa.Trees

/-
  Contract of the law's tells.
-/
import Derived.Test.YteakgagjacjhiaaRD
import Derived.Test.YteakgagjacjhiaaURX
namespace Go.Proofs.Yteakgagjacjhiaa.Trees
open Go.RowKit Go.Shelf
open Go.Proofs.Yteakgagjacjhiaa.Style (bs bs_size bs_at getD_at bs_of)
open Go.Proofs.Yteakgagjacjhiaa.Toks (cell_lt cell_same)
set_option linter.unusedVariables false
set_option linter.unusedSimpArgs false
attribute [local irreducible] symT mayZ

theorem parts_len (L : List Stp) : (partsZ symT L).1.length ≤ L.length ∧ (partsZ symT L).2.length ≤ L.length := by
  unfold partsZ
  split
  · split
    · simp only [List.length_take, List.length_drop, List.length_dropLast]; omega
    · split
      · simp only [List.length_nil, List.length_dropLast]; omega
      · simp
  · simp

set_option maxRecDepth 100000 in
set_option maxHeartbeats 4000000 in
theorem tells_x (s : Value) (L : List Stp) (w : World) (hV : View w s L) (hF : ∀ x ∈ L, x.text.length ≤ 9223372036854775807) (hl : L.length ≤ 1000) :
    Calls Try.prog 12 #[s] w fun e w' => e = .returned (.bool true) ∧ Below w.heap.size w w' := by
  have hP := fun W h => parts_any s L W h hF (by omega)
  have hQ := fun W h => rparts_any s L W h hF (by omega)
  have hS := fun W h => sound_any s L W h hF (by omega)
  have hT := fun W h => rsound_any s L W h hF (by omega)
  have hN := fun W h => nest_any s L W h hF (by omega)
  have hM := fun W h => rNest_any s L W h hF (by omega)
  have hpl := parts_len L
  generalize (partsZ symT L).1 = A at *
  generalize (partsZ symT L).2 = B at *
  generalize soundZ symT L = sb at *
  generalize nestZ symT L = nb at *
  have hE := fun (a b : Value) (M : List Stp) (W : World) (h1 : View W a M) (h2 : View W b M) (h3 : M.length ≤ 1000) => same_any a b M M W h1 h2 (by omega) (by omega)
  simp only [decide_true] at hE
  clear hF
  go_enter Try.func12, Try.ntmps12
  go_wp2_with fail
  refine (hP w hV).mono ?_
  rintro e w1 ⟨⟨s1, s2, rfl, h1, h2⟩, hb1⟩
  obtain ⟨o1, c1, rfl⟩ := Toks.SliceAt.slice h1
  obtain ⟨o2, c2, rfl⟩ := Toks.SliceAt.slice h2
  have hV1 := hV.go hb1
  replace h1 := h1.view
  replace h2 := h2.view
  clear hP
  go_wp2_with fail
  refine (hQ w1 hV1).mono ?_
  rintro e w2 ⟨⟨s3, s4, rfl, h3, h4⟩, hb2⟩
  obtain ⟨o3, c3, rfl, _⟩ := h3.slice
  obtain ⟨o4, c4, rfl, _⟩ := h4.slice
  have hu : Below w2.heap.size w2 (w2.alloc (.cells #[.slice o3 A.length c3, .slice o4 B.length c4] 55)) := (Below.refl _ _).alloc (Nat.le_refl _) _
  have hV2 := (hV1.go hb2).go hu
  replace h1 := (h1.go hb2).go hu
  replace h2 := (h2.go hb2).go hu
  replace h3 := h3.go hu
  replace h4 := h4.go hu
  have p0 : (w2.alloc (.cells #[.slice o3 A.length c3, .slice o4 B.length c4] 55)).cell? ⟨w2.heap.size, 0, none⟩ = some (.slice o3 A.length c3) := by simp [go_sem]
  have p1 : (w2.alloc (.cells #[.slice o3 A.length c3, .slice o4 B.length c4] 55)).cell? ⟨w2.heap.size, 1, none⟩ = some (.slice o4 B.length c4) := by simp [go_sem]
  have hB2 := (hb1.trans (hb2.mono hb1.size)).trans (hu.mono (by have := hb1.size; have := hb2.size; omega))
  clear hV1 hb1 hb2 hu hQ hV
  go_upto_region 3 with fail
  generalize w2.alloc (.cells #[.slice o3 A.length c3, .slice o4 B.length c4] 55) = W2 at *
  generalize w2.heap.size = pb at *
  go_wp2_with fail
  refine (hE _ _ A W2 h1 h3 (by omega)).mono ?_
  rintro e w3 ⟨rfl, hb3⟩
  have hV3 := hV2.go hb3
  replace p1 := (hb3.cell (p := ⟨pb, 1, none⟩) (cell_lt p1)).trans p1
  replace h2 := h2.go hb3
  replace h4 := h4.go hb3
  have hB3 := hB2.trans (hb3.mono hB2.size)
  clear hV2 hB2 hb3 p0 h1 h3
  go_wp2_with fail
  refine (hE _ _ B w3 h2 h4 (by omega)).mono ?_
  rintro e w4 ⟨rfl, hb4⟩
  have hV4 := hV3.go hb4
  have hB4 := hB3.trans (hb4.mono hB3.size)
  clear hV3 hB3 hb4 p1 h2 h4 hE
  go_wp2_with fail
  refine (hS w4 hV4).mono ?_
  rintro e w5 ⟨rfl, hb5⟩
  have hV5 := hV4.go hb5
  have hB5 := hB4.trans (hb5.mono hB4.size)
  clear hV4 hB4 hb5 hS
  go_wp2_with fail
  refine (hT w5 hV5).mono ?_
  rintro e w6 ⟨rfl, hb6⟩
  have hV6 := hV5.go hb6
  have hB6 := hB5.trans (hb6.mono hB5.size)
  clear hV5 hB5 hb6 hT
  go_wp2_with fail
  refine (hN w6 hV6).mono ?_
  rintro e w7 ⟨rfl, hb7⟩
  have hV7 := hV6.go hb7
  have hB7 := hB6.trans (hb7.mono hB6.size)
  clear hV6 hB6 hb7 hN
  go_wp2_with fail
  refine (hM w7 hV7).mono ?_
  rintro e w8 ⟨rfl, hb8⟩
  have hB8 := hB7.trans (hb8.mono hB7.size)
  clear hV7 hB7 hb8 hM
  go_wp2_with fail
  go_ret
  exact ⟨by first | rfl | simp, hB8⟩

end Go.Proofs.Yteakgagjacjhiaa.Trees

/-
  Contracts of the document's nest and Nest.
-/
import Derived.Test.YteakgagjacjhiaaRC
namespace Go.Proofs.Yteakgagjacjhiaa.Trees
open Go.RowKit Go.Shelf
open Go.Proofs.Yteakgagjacjhiaa.Style (bs bs_size bs_at getD_at bs_of)
open Go.Proofs.Yteakgagjacjhiaa.Toks (cell_lt cell_same)
set_option linter.unusedVariables false
set_option linter.unusedSimpArgs false
attribute [local irreducible] symT mayZ

theorem top_of (t : Tr) : t.flat.getD (t.flat.length - 1) default = t.top := by
  rw [← flat_last t, List.getLastD_eq_getLast?, List.getLast?_eq_getElem?, List.getD_eq_getElem?_getD]
theorem nest_lt : ∀ t : Tr, t.nest + 1 ≤ t.flat.length
  | .leaf x => by simp [Tr.nest, Tr.flat]
  | .one x a => by
    have := nest_lt a
    have h3 : inZ x.op a.top.op ≤ 1 := by unfold inZ; split <;> omega
    simp only [Tr.nest, Tr.flat, List.length_append, List.length_cons, List.length_nil]; omega
  | .two x a b => by
    have := nest_lt a
    have := nest_lt b
    have h3 : inZ x.op b.top.op ≤ 1 := by unfold inZ; split <;> omega
    simp only [Tr.nest, Tr.flat, List.length_append, List.length_cons, List.length_nil]; omega
/-- The last step of a tree, as it lies. -/
theorem View.last {w : World} {s : Value} {t : Tr} (h : View w s t.flat) : ∃ b off c n, s = .slice (some ⟨b, off, none⟩) (n + 1) c ∧ t.flat.length = n + 1 ∧ n + 1 ≤ c ∧ w.cell? ⟨b, off + n * 6, none⟩ = some (.int .i64 t.top.op) := by
  obtain ⟨o, c, e, hc, hv⟩ := h
  have hp := flat_pos t
  obtain ⟨n, hn⟩ : ∃ n, t.flat.length = n + 1 := ⟨t.flat.length - 1, by omega⟩
  obtain ⟨b, off, rfl, v0, _⟩ := hv n (by omega)
  have ht := top_of t
  rw [show t.flat.length - 1 = n by omega] at ht
  rw [ht] at v0
  exact ⟨b, off, c, n, by rw [e, hn], hn, by omega, v0⟩

/-- While nest goes: both parts, their box. -/
structure NeI (w W : World) (pb : Nat) (s1 s2 : Value) (L1 L2 : List Stp) : Prop where
  v1 : View W s1 L1
  v2 : View W s2 L2
  p0 : W.cell? ⟨pb, 0, none⟩ = some s1
  p1 : W.cell? ⟨pb, 1, none⟩ = some s2
  below : Below w.heap.size w W
theorem NeI.go {w W W' : World} {pb : Nat} {s1 s2 : Value} {L1 L2 : List Stp} (h : NeI w W pb s1 s2 L1 L2) (hb : Below W.heap.size W W') : NeI w W' pb s1 s2 L1 L2 :=
  ⟨h.v1.go hb, h.v2.go hb, (hb.cell (p := ⟨pb, 0, none⟩) (cell_lt h.p0)).trans h.p0, (hb.cell (p := ⟨pb, 1, none⟩) (cell_lt h.p0)).trans h.p1, h.below.trans (hb.mono h.below.size)⟩

set_option maxRecDepth 100000 in
set_option maxHeartbeats 4000000 in
theorem rnest_x : ∀ (t : Tr) (s : Value) (w : World), t.good symT → t.flat.length ≤ 255 → (∀ x ∈ t.flat, x.text.length ≤ 9223372036854775807) → View w s t.flat →
    Calls Try.prog 41 #[s] w fun e w' => e = .returned (.int .i64 (t.nest : Int)) ∧ Below w.heap.size w w' := by
  intro t
  induction t with
  | leaf x =>
    intro s w hg hl hF hV
    have hT := fun W => rtakes_any x.op W
    rw [hg.2] at hT
    obtain ⟨b, off, c, n, rfl, hn, hc, u0⟩ := hV.last
    have hn0 : n = 0 := by simpa [Tr.flat] using hn.symm
    subst hn0
    simp only [Tr.top, Nat.zero_mul, Nat.add_zero] at u0
    have hci : (1 : Int) ≤ (c : Int) := by omega
    clear hV hF hl hg
    go_enter Try.func41, Try.ntmps41
    go_wp2_with fail
    refine (hT _).mono ?_
    rintro e w2 ⟨rfl, rfl⟩
    go_wp2_with fail
    go_ret
    exact ⟨rfl, by first | exact Below.refl _ _ | go_grown⟩
  | one x a iha =>
    intro s w hg hl hF hV
    have hT := fun W => rtakes_any x.op W
    rw [hg.1.2] at hT
    have hP := rparts_any s _ w hV hF (by omega)
    rw [parts_one hg hl] at hP
    have hFa : ∀ y ∈ a.flat, y.text.length ≤ 9223372036854775807 := fun y hy => hF y (by simp [Tr.flat, hy])
    have hla : a.flat.length ≤ 254 := by simp only [Tr.flat, List.length_append, List.length_cons, List.length_nil] at hl; omega
    have hpa := flat_pos a
    have hin := fun sv W (h : View W sv a.flat) => rin_any x.op sv a.flat W h hpa (by omega)
    rw [top_of] at hin
    have hia := fun sv W (h : View W sv a.flat) => iha sv W hg.2 (by omega) hFa h
    have hna := nest_lt a
    obtain ⟨b, off, c, n, rfl, hn, hc, u0⟩ := hV.last
    simp only [Tr.top] at u0
    obtain ⟨N, hN⟩ : ∃ N, n + 1 = N := ⟨_, rfl⟩
    rw [hN] at hP hV ⊢
    have hci : (N : Int) ≤ (c : Int) := by omega
    have hni : (n : Int) ≤ 254 := by omega
    have hnN : (N : Int) - 1 = (n : Int) := by omega
    have hnl : (n : Int) < (N : Int) := by omega
    clear hN
    obtain ⟨D, hD⟩ : ∃ D, (Tr.one x a).nest = D := ⟨_, rfl⟩
    rw [hD]
    have HI : Hid (D = a.nest + (if brkZ x.op a.top.op = true then 1 else 0)) := hD.symm
    clear hD
    clear hV hF hl hg iha hFa hn
    generalize a.top.op = ao at *
    generalize x.op = xo at *
    go_enter Try.func41, Try.ntmps41
    go_wp2_with fail
    refine (hT _).mono ?_
    rintro e w1 ⟨rfl, rfl⟩
    clear hT
    go_wp2_with fail
    refine hP.mono ?_
    rintro e w2 ⟨⟨s1, s2, rfl, h1, h2⟩, hb2⟩
    have hu2 : Below w2.heap.size w2 (w2.alloc (.cells #[s1, s2] 55)) := (Below.refl _ _).alloc (Nat.le_refl _) _
    obtain ⟨o1, c1, rfl, _⟩ := h1.slice
    obtain ⟨o2, c2, rfl, _⟩ := h2.slice
    replace h1 : View w2 (.slice o1 0 c1) [] := h1
    replace h2 : View w2 (.slice o2 a.flat.length c2) a.flat := h2
    have hI : NeI w (w2.alloc (.cells #[.slice o1 0 c1, .slice o2 a.flat.length c2] 55)) w2.heap.size (.slice o1 0 c1) (.slice o2 a.flat.length c2) [] a.flat := ⟨h1.go hu2, h2.go hu2, by simp [go_sem], by simp [go_sem], hb2.trans (hu2.mono hb2.size)⟩
    replace u0 := (hu2.cell (p := ⟨b, off + n * 6, none⟩) (Nat.lt_of_lt_of_le (cell_lt u0) hb2.size)).trans ((hb2.cell (p := ⟨b, off + n * 6, none⟩) (cell_lt u0)).trans u0)
    clear h1 h2 hb2 hP hu2
    go_upto_region 5 with fail
    change Code.wp _ _ _ _ (w2.alloc (.cells #[.slice o1 0 c1, .slice o2 a.flat.length c2] 55))
    generalize w2.alloc (.cells #[.slice o1 0 c1, .slice o2 a.flat.length c2] 55) = W3 at *
    generalize w2.heap.size = pb at *
    have p1 := hI.p1
    go_wp2_with fail
    refine (hia _ _ hI.v2).mono ?_
    rintro e W4 ⟨rfl, hb4⟩
    replace u0 := (hb4.cell (p := ⟨b, off + n * 6, none⟩) (cell_lt u0)).trans u0
    replace hI := hI.go hb4
    clear p1 hb4 hia
    have p1 := hI.p1
    go_wp2_with fail
    go_still_tail 7, (by kernel_rfl)
    change wpList _ _ _ _ _ W4.drew
    replace hI := hI.go (Below.refl _ _).drew
    clear u0 p1
    generalize W4.drew = V at *
    go_wp2_with fail
    refine (hin _ _ hI.v2).mono ?_
    rintro e V5 ⟨rfl, hb5⟩
    replace hI := hI.go hb5
    have p0 := hI.p0
    have hB := hI.below
    clear hI hb5 hin
    have hai : (a.nest : Int) ≤ 254 := by omega
    generalize a.nest = d at *
    cases hbk : brkZ xo ao with
    | true =>
      rw [hbk] at HI
      have HE : Hid ((D : Int) = (d : Int) + 1) := by have := HI.out; show _ = _; simp at this; omega
      clear HI
      go_wp2_with fail
      go_ret
      exact ⟨by rw [HE.out]; rfl, hB⟩
    | false =>
      rw [hbk] at HI
      have HE : Hid ((D : Int) = (d : Int)) := by have := HI.out; show _ = _; simp at this; omega
      clear HI
      go_wp2_with fail
      go_ret
      exact ⟨by rw [HE.out]; rfl, hB⟩
  | two x a b iha ihb =>
    intro s w hg hl hF hV
    have hT := fun W => rtakes_any x.op W
    rw [hg.1.2] at hT
    have hP := rparts_any s _ w hV hF (by omega)
    rw [parts_two hg hl] at hP
    have hFa : ∀ y ∈ a.flat, y.text.length ≤ 9223372036854775807 := fun y hy => hF y (by simp [Tr.flat, hy])
    have hFb : ∀ y ∈ b.flat, y.text.length ≤ 9223372036854775807 := fun y hy => hF y (by simp [Tr.flat, hy])
    have hll : a.flat.length + b.flat.length ≤ 254 := by simp only [Tr.flat, List.length_append, List.length_cons, List.length_nil] at hl; omega
    have hpa := flat_pos a
    have hpb := flat_pos b
    have hin := fun sv W (h : View W sv b.flat) => rin_any x.op sv b.flat W h hpb (by omega)
    rw [top_of] at hin
    have hia := fun sv W (h : View W sv a.flat) => iha sv W hg.2.1 (by omega) hFa h
    have hib := fun sv W (h : View W sv b.flat) => ihb sv W hg.2.2 (by omega) hFb h
    have hna := nest_lt a
    have hnb := nest_lt b
    obtain ⟨b0, off, c, n, rfl, hn, hc, u0⟩ := hV.last
    simp only [Tr.top] at u0
    obtain ⟨N, hN⟩ : ∃ N, n + 1 = N := ⟨_, rfl⟩
    rw [hN] at hP hV ⊢
    have hci : (N : Int) ≤ (c : Int) := by omega
    have hni : (n : Int) ≤ 254 := by omega
    have hnN : (N : Int) - 1 = (n : Int) := by omega
    have hnl : (n : Int) < (N : Int) := by omega
    clear hN
    obtain ⟨D, hD⟩ : ∃ D, (Tr.two x a b).nest = D := ⟨_, rfl⟩
    rw [hD]
    have HI : Hid (D = max a.nest (b.nest + (if brkZ x.op b.top.op = true then 1 else 0))) := hD.symm
    clear hD
    clear hV hF hl hg iha ihb hFa hFb hn
    generalize b.top.op = ao at *
    generalize x.op = xo at *
    have hla0 : (0 : Int) < (a.flat.length : Int) := by omega
    go_enter Try.func41, Try.ntmps41
    go_wp2_with fail
    refine (hT _).mono ?_
    rintro e w1 ⟨rfl, rfl⟩
    clear hT
    go_wp2_with fail
    refine hP.mono ?_
    rintro e w2 ⟨⟨s1, s2, rfl, h1, h2⟩, hb2⟩
    have hu2 : Below w2.heap.size w2 (w2.alloc (.cells #[s1, s2] 55)) := (Below.refl _ _).alloc (Nat.le_refl _) _
    obtain ⟨o1, c1, rfl, _⟩ := h1.slice
    obtain ⟨o2, c2, rfl, _⟩ := h2.slice
    replace h1 : View w2 (.slice o1 a.flat.length c1) a.flat := h1
    replace h2 : View w2 (.slice o2 b.flat.length c2) b.flat := h2
    have hI : NeI w (w2.alloc (.cells #[.slice o1 a.flat.length c1, .slice o2 b.flat.length c2] 55)) w2.heap.size (.slice o1 a.flat.length c1) (.slice o2 b.flat.length c2) a.flat b.flat := ⟨h1.go hu2, h2.go hu2, by simp [go_sem], by simp [go_sem], hb2.trans (hu2.mono hb2.size)⟩
    replace u0 := (hu2.cell (p := ⟨b0, off + n * 6, none⟩) (Nat.lt_of_lt_of_le (cell_lt u0) hb2.size)).trans ((hb2.cell (p := ⟨b0, off + n * 6, none⟩) (cell_lt u0)).trans u0)
    clear h1 h2 hb2 hP hu2
    go_upto_region 5 with fail
    change Code.wp _ _ _ _ (w2.alloc (.cells #[.slice o1 a.flat.length c1, .slice o2 b.flat.length c2] 55))
    generalize w2.alloc (.cells #[.slice o1 a.flat.length c1, .slice o2 b.flat.length c2] 55) = W3 at *
    generalize w2.heap.size = pb at *
    have p1 := hI.p1
    go_wp2_with fail
    refine (hib _ _ hI.v2).mono ?_
    rintro e W4 ⟨rfl, hb4⟩
    replace u0 := (hb4.cell (p := ⟨b0, off + n * 6, none⟩) (cell_lt u0)).trans u0
    replace hI := hI.go hb4
    clear p1 hb4 hib
    have p1 := hI.p1
    go_wp2_with fail
    go_still_tail 7, (by kernel_rfl)
    change wpList _ _ _ _ _ W4.drew
    replace hI := hI.go (Below.refl _ _).drew
    clear u0 p1
    generalize W4.drew = V at *
    go_wp2_with fail
    refine (hin _ _ hI.v2).mono ?_
    rintro e V5 ⟨rfl, hb5⟩
    replace hI := hI.go hb5
    have p0 := hI.p0
    clear hb5 hin
    have hai : (a.nest : Int) ≤ 254 := by omega
    have hbi : (b.nest : Int) ≤ 254 := by omega
    cases hbk : brkZ xo ao with
    | true =>
      rw [hbk] at HI
      have HE : Hid ((D : Int) = ((max a.nest (b.nest + 1) : Nat) : Int)) := by have := HI.out; show _ = _; simp only [if_true] at this; rw [this]
      clear HI
      go_wp2_with fail
      refine (hia _ _ hI.v1).mono ?_
      rintro e V6 ⟨rfl, hb6⟩
      have hB := (hI.go hb6).below
      clear hI hb6 hia p0
      generalize a.nest = d at *
      generalize b.nest = d2 at *
      by_cases hmx : d2 + 1 < d
      · have hmi : (d2 : Int) + 1 < (d : Int) := by omega
        have HE2 : Hid ((D : Int) = (d : Int)) := by show _ = _; rw [HE.out]; omega
        go_wp2_with fail
        go_ret
        exact ⟨by rw [HE2.out]; rfl, hB⟩
      · have hmi : ¬ (d2 : Int) + 1 < (d : Int) := by omega
        have hmi2 : (d : Int) ≤ (d2 : Int) + 1 := by omega
        have HE2 : Hid ((D : Int) = (d2 : Int) + 1) := by show _ = _; rw [HE.out]; omega
        go_wp2_with fail
        go_ret
        exact ⟨by rw [HE2.out]; rfl, hB⟩
    | false =>
      rw [hbk] at HI
      have HE : Hid ((D : Int) = ((max a.nest b.nest : Nat) : Int)) := by have := HI.out; show _ = _; simp only [Bool.false_eq_true, if_false, Nat.add_zero] at this; rw [this]
      clear HI
      go_wp2_with fail
      refine (hia _ _ hI.v1).mono ?_
      rintro e V6 ⟨rfl, hb6⟩
      have hB := (hI.go hb6).below
      clear hI hb6 hia p0
      generalize a.nest = d at *
      generalize b.nest = d2 at *
      by_cases hmx : d2 < d
      · have hmi : (d2 : Int) < (d : Int) := by omega
        have HE2 : Hid ((D : Int) = (d : Int)) := by show _ = _; rw [HE.out]; omega
        go_wp2_with fail
        go_ret
        exact ⟨by rw [HE2.out]; rfl, hB⟩
      · have hmi : ¬ (d2 : Int) < (d : Int) := by omega
        have hmi2 : (d : Int) ≤ (d2 : Int) := by omega
        have HE2 : Hid ((D : Int) = (d2 : Int)) := by show _ = _; rw [HE.out]; omega
        go_wp2_with fail
        go_ret
        exact ⟨by rw [HE2.out]; rfl, hB⟩

set_option maxRecDepth 100000 in
set_option maxHeartbeats 2000000 in
theorem rNest_any (s : Value) (L : List Stp) (w : World) (hV : View w s L) (hF : ∀ x ∈ L, x.text.length ≤ 9223372036854775807) (hl : L.length ≤ 100000) :
    Calls Try.prog 25 #[s] w fun e w' => e = .returned (.int .i64 (nestZ symT L)) ∧ Below w.heap.size w w' := by
  have hS := rsound_any s L w hV hF hl
  cases hs : soundZ symT L with
  | false =>
    have hz : nestZ symT L = -1 := by unfold nestZ; rw [hs]; rfl
    rw [hs] at hS
    rw [hz]
    clear hV hF
    go_enter Try.func25, Try.ntmps25
    go_wp2_with fail
    refine hS.mono ?_
    rintro e w2 ⟨rfl, hb2⟩
    go_wp2_with fail
    go_ret
    exact ⟨rfl, hb2⟩
  | true =>
    rw [hs] at hS
    obtain ⟨t, hg, rfl, h255⟩ := sound_tree hs
    rw [nest_tree hg h255]
    have hR := fun W h => rnest_x t s W hg h255 hF h
    clear hF hs
    go_enter Try.func25, Try.ntmps25
    go_wp2_with fail
    refine hS.mono ?_
    rintro e w2 ⟨rfl, hb2⟩
    have hV2 := hV.go hb2
    go_wp2_with fail
    refine (hR _ hV2).mono ?_
    rintro e w3 ⟨rfl, hb3⟩
    have hB := hb2.trans (hb3.mono hb2.size)
    go_wp2_with fail
    go_ret
    exact ⟨rfl, hB⟩

end Go.Proofs.Yteakgagjacjhiaa.Trees

/-
  Contract of tree.Parts.
-/
import Derived.Test.YtgbhfhdhmkmpcaaUFX
import Derived.Test.YtgbhfhdhmkmpcaaUJX
namespace Go.Proofs.Ytgbhfhdhmkmpcaa.Trees
open Go.RowKit Go.Shelf
open Go.Proofs.Ytgbhfhdhmkmpcaa.Style (bs bs_size bs_at getD_at bs_of)
open Go.Proofs.Ytgbhfhdhmkmpcaa.Toks (cell_lt cell_same SliceAt Above)
set_option linter.unusedVariables false
set_option linter.unusedSimpArgs false

theorem sound_pos {ok : Int → Int → Bool} {L : List Stp} (h : soundZ ok L = true) : 1 ≤ L.length ∧ L.length ≤ 255 := by
  obtain ⟨t, _, rfl, hl⟩ := sound_tree h
  exact ⟨flat_pos t, hl⟩
theorem sound_two {ok : Int → Int → Bool} {L : List Stp} (h : soundZ ok L = true) (h2 : takesZ (L.getD (L.length - 1) default).op = 2) : cutZ (L.take (L.length - 1)) < L.length - 1 := by
  obtain ⟨t, hg, rfl, hl⟩ := sound_tree h
  have hlast : t.flat.getD (t.flat.length - 1) default = t.top := by
    rw [← flat_last t, List.getLastD_eq_getLast?, List.getLast?_eq_getElem?, List.getD_eq_getElem?_getD]
  rw [hlast] at h2
  cases t with
  | leaf x => have := hg.2; simp only [Tr.top] at h2; omega
  | one x a => have := hg.1.2; simp only [Tr.top] at h2; omega
  | two x a b =>
    have e : (Tr.two x a b).flat.take ((Tr.two x a b).flat.length - 1) = a.flat ++ b.flat := by
      simp only [Tr.flat]
      rw [List.length_append, List.length_cons, List.length_nil, Nat.add_sub_cancel, List.take_left']
      rfl
    rw [e, cut_two a.flat hg.2.2]
    have := flat_pos b
    simp only [Tr.flat, List.length_append, List.length_cons, List.length_nil]
    omega
theorem last_getD (L : List Stp) : L.getLastD default = L.getD (L.length - 1) default := by
  rw [List.getLastD_eq_getLast?, List.getLast?_eq_getElem?, List.getD_eq_getElem?_getD]

theorem StepsAt.go {w w' : World} {s : Value} {L : List Stp} (h : StepsAt w s L) (hb : Below w.heap.size w w') : StepsAt w' s L := SliceAt.go h hb
theorem slice_rest (b off n c k : Nat) (hk : k < n) (hc : n ≤ c) (W : World) : (Instr.slice 26 (.slice (some ⟨b, off, none⟩) n c) (some (.int .i64 (k : Int))) none none).run Try.prog W = .ok (.slice (some ⟨b, off + k * 6, none⟩) (n - k) (c - k)) W := by
  have hs : (sizeOf (Try.prog.elem 26)).run Try.prog W = .ok 6 W := by kernel_rfl
  rw [run_slice_l (P := Try.prog) (w := W) 26 (some ⟨b, off, none⟩) n c (by kernel_rfl) .i64 (k : Int) (by omega) (by omega), hs]
  show Result.ok (sliced _ _ _ _ _) W = _
  unfold sliced
  rw [if_neg (by omega)]
  simp [Addr.add_mid]
/-- While Parts goes. -/
structure PaI (w W : World) (b off n c : Nat) (L : List Stp) (xo : Int) : Prop where
  view : View W (.slice (some ⟨b, off, none⟩) n c) (L.take n)
  below : Below w.heap.size w W
  u0 : W.cell? ⟨b, off + n * 6, none⟩ = some (.int .i64 xo)
theorem PaI.go {w W W' : World} {b off n c : Nat} {L : List Stp} {xo : Int} (h : PaI w W b off n c L xo) (hb : Below W.heap.size W W') : PaI w W' b off n c L xo :=
  ⟨h.view.go hb, h.below.trans (hb.mono h.below.size), (hb.cell (p := ⟨b, off + n * 6, none⟩) (cell_lt h.u0)).trans h.u0⟩
theorem PaI.drew {w W : World} {b off n c : Nat} {L : List Stp} {xo : Int} (h : PaI w W b off n c L xo) : PaI w W.drew b off n c L xo := h.go (Below.refl _ _).drew

set_option maxRecDepth 100000 in
set_option maxHeartbeats 4000000 in
theorem parts_any (s : Value) (L : List Stp) (w : World) (hV : View w s L) (hF : ∀ x ∈ L, x.text.length ≤ 9223372036854775807) (hl : L.length ≤ 100000) :
    Calls Try.prog 14 #[s] w fun e w' => (∃ a b, e = .returned (.tuple #[a, b]) ∧ StepsAt w' a (partsZ symT L).1 ∧ StepsAt w' b (partsZ symT L).2) ∧ Below w.heap.size w w' := by
  have hS := sound_any s L w hV hF hl
  have hV0 := hV
  obtain ⟨o, c, rfl, hlc, hv⟩ := hV
  unfold partsZ
  cases hs : soundZ symT L with
  | false =>
    rw [hs] at hS
    rw [if_neg (by simp)]
    clear hv hV0 hF
    go_enter Try.func14, Try.ntmps14
    go_wp2_with fail
    refine hS.mono ?_
    rintro e w2 ⟨rfl, hb2⟩
    go_wp2_with fail
    refine bodyPost_ret (v := .tuple #[.slice none 0 0, .slice none 0 0]) (by simp [results, Try.results14, go_sem]) rfl ⟨⟨_, _, rfl, .inl ⟨rfl, rfl⟩, .inl ⟨rfl, rfl⟩⟩, hb2⟩
  | true =>
    rw [hs] at hS
    rw [if_pos rfl]
    obtain ⟨h1, h255⟩ := sound_pos hs
    have h2 := sound_two hs
    rw [last_getD, List.dropLast_eq_take]
    obtain ⟨n, hn⟩ : ∃ n, L.length = n + 1 := ⟨L.length - 1, by omega⟩
    rw [show L.length - 1 = n by omega] at h2 ⊢
    obtain ⟨b, off, rfl, v0, _⟩ := hv n (by omega)
    have hli : (L.length : Int) = (n : Int) + 1 := by omega
    have hni : (n : Int) ≤ 254 := by omega
    have hci : (n : Int) + 1 ≤ c := by omega
    have hT := fun W => takes_any (L.getD n default).op W
    have ht := takes_le (L.getD n default).op
    have hVa : View w (.slice (some ⟨b, off, none⟩) n c) (L.take n) := hV0.take (by omega)
    have hna : (L.take n).length = n := by rw [List.length_take]; omega
    clear hv hV0 hs hF
    generalize takesZ (L.getD n default).op = m at *
    generalize (L.getD n default).op = xo at *
    rw [hn] at hS
    rcases (by omega : m = 0 ∨ m = 1 ∨ m = 2) with rfl | rfl | rfl
    · rw [if_neg (by omega), if_neg (by omega)]
      clear hVa
      go_enter Try.func14, Try.ntmps14
      rw [hn]
      go_wp2_with fail
      refine hS.mono ?_
      rintro e w2 ⟨rfl, hb2⟩
      have u0 := (hb2.cell (p := ⟨b, off + n * 6, none⟩) (cell_lt v0)).trans v0
      go_wp2_with fail
      refine (hT _).mono ?_
      rintro e w3 ⟨rfl, rfl⟩
      go_wp2_with fail
      refine bodyPost_ret (v := .tuple #[.slice none 0 0, .slice none 0 0]) (by simp [results, Try.results14, go_sem]) rfl ⟨⟨_, _, rfl, .inl ⟨rfl, rfl⟩, .inl ⟨rfl, rfl⟩⟩, hb2⟩
    · rw [if_neg (by omega), if_pos rfl]
      have hC := fun W h => clone_any (.slice (some ⟨b, off, none⟩) n c) (L.take n) W h (by omega)
      go_enter Try.func14, Try.ntmps14
      rw [hn]
      go_wp2_with fail
      refine hS.mono ?_
      rintro e w2 ⟨rfl, hb2⟩
      have u0 := (hb2.cell (p := ⟨b, off + n * 6, none⟩) (cell_lt v0)).trans v0
      have hVa2 := hVa.go hb2
      go_wp2_with fail
      refine (hT _).mono ?_
      rintro e w3 ⟨rfl, rfl⟩
      go_wp2_with fail
      refine (hC _ hVa2).mono ?_
      rintro e w4 ⟨s4, rfl, hR4, hA4, hb4⟩
      go_wp2_with fail
      refine bodyPost_ret (v := .tuple #[.slice none 0 0, s4]) (by simp [results, Try.results14, go_sem]) rfl ⟨⟨_, _, rfl, .inl ⟨rfl, rfl⟩, hR4⟩, hb2.trans (hb4.mono hb2.size)⟩
    · rw [if_pos rfl]
      have hLt := fun W h => last_any (.slice (some ⟨b, off, none⟩) n c) (L.take n) W h (by omega)
      have h3 := h2 rfl
      clear h2
      generalize cutZ (L.take n) = k at *
      have hki : (k : Int) < n := by omega
      have hkc : (k : Int) ≤ c := by omega
      have hcl : (n : Int) ≤ c := by omega
      have hCl := fun W h => clone_any (.slice (some ⟨b, off, none⟩) k c) ((L.take n).take k) W h (by rw [List.length_take]; omega)
      have hCr := fun W h => clone_any (.slice (some ⟨b, off + k * 6, none⟩) (n - k) (c - k)) ((L.take n).drop k) W h (by rw [List.length_drop]; omega)
      have hVl := fun W (h : View W (.slice (some ⟨b, off, none⟩) n c) (L.take n)) => View.take (n := k) (by rw [hna]; exact h) (by omega)
      have hVr := fun W (h : View W (.slice (some ⟨b, off, none⟩) n c) (L.take n)) => View.rest (n := k) (by rw [hna]; exact h) (by omega)
      rw [hna] at hVr
      go_enter Try.func14, Try.ntmps14
      rw [hn]
      go_wp2_with fail
      refine hS.mono ?_
      rintro e w2 ⟨rfl, hb2⟩
      have u0 := (hb2.cell (p := ⟨b, off + n * 6, none⟩) (cell_lt v0)).trans v0
      have hVa2 := hVa.go hb2
      go_wp2_with fail
      refine (hT _).mono ?_
      rintro e w3 ⟨rfl, rfl⟩
      go_wp2_with fail
      refine (hLt _ hVa2).mono ?_
      rintro e w4 ⟨rfl, hb4⟩
      have hVa4 := hVa2.go hb4
      have hB4 := hb2.trans (hb4.mono hb2.size)
      go_wp2_with fail
      have hA : PaI w w4 b off n c L xo := ⟨hVa4, hB4, (hb4.cell (p := ⟨b, off + n * 6, none⟩) (cell_lt u0)).trans u0⟩
      have hck : ¬ c = k := by omega
      have hsl := fun W => slice_rest b off n c k h3 (by omega) W
      clear hVa hVa2 hVa4 hB4 hb2 hb4 hLt hS hT u0 v0
      go_region_held3 (fun v => v.cell? ⟨b, off + n * 6, none⟩ = some (.int .i64 xo))
        (first | with_reducible exact hA.u0 | with_reducible exact hA.drew.u0 | go_keep)
        (first
          | (go_at_call_of 23 (Value.slice (some ⟨b, off, none⟩) k c); refine (hCl _ (hVl _ (by first | with_reducible exact hA.view | with_reducible exact hA.drew.view))).mono ?_; rintro e u ⟨s5, rfl, hR5, hA5, hb5⟩; (first | (replace hA := hA.go hb5) | (replace hA := hA.drew.go hb5)); clear hb5)
          | (go_at_call_of 23 (Value.slice (some ⟨b, off + k * 6, none⟩) (n - k) (c - k)); refine (hCr _ (hVr _ (by first | with_reducible exact hA.view | with_reducible exact hA.drew.view))).mono ?_; rintro e u2 ⟨s6, rfl, hR6, hA6, hb6⟩; replace hA := hA.go hb6; replace hR5 := hR5.go hb6; clear hb6))
      all_goals go_wp2
      all_goals refine bodyPost_ret (v := .tuple #[s5, s6]) (by simp [results, Try.results14, go_sem]) rfl ⟨⟨_, _, rfl, hR5, hR6⟩, hA.below⟩

end Go.Proofs.Ytgbhfhdhmkmpcaa.Trees

/-
  Contracts of the document's Parts and In.
-/
import Derived.Test.YteakgagjacjhiaaRB
import Derived.Test.YteakgagjacjhiaaUOX
import Derived.StillTailTactics
namespace Go.Proofs.Yteakgagjacjhiaa.Trees
open Go.RowKit Go.Shelf
open Go.Proofs.Yteakgagjacjhiaa.Style (bs bs_size bs_at getD_at bs_of)
open Go.Proofs.Yteakgagjacjhiaa.Toks (cell_lt cell_same)
set_option linter.unusedVariables false
set_option linter.unusedSimpArgs false
attribute [local irreducible] symT mayZ

theorem slice_mid (b off n c k m : Nat) (hk : k ≤ m) (hc : m ≤ c) (hkc : k < c) (W : World) : (Instr.slice 27 (.slice (some ⟨b, off, none⟩) n c) (some (.int .i64 (k : Int))) (some (.int .i64 (m : Int))) none).run Try.prog W = .ok (.slice (some ⟨b, off + k * 6, none⟩) (m - k) (c - k)) W := by
  have hs : (sizeOf (Try.prog.elem 27)).run Try.prog W = .ok 6 W := by kernel_rfl
  rw [run_slice_lh (P := Try.prog) (w := W) 27 (some ⟨b, off, none⟩) n c (by kernel_rfl) .i64 .i64 (k : Int) (m : Int) (by omega) (by omega) (by omega), hs]
  show Result.ok (sliced _ _ _ _ _) W = _
  unfold sliced
  simp only [Int.toNat_natCast]
  rw [if_neg (by omega)]
  simp [Addr.add_mid]
theorem slice_head (b off n c m : Nat) (hc : m ≤ c) (W : World) : (Instr.slice 27 (.slice (some ⟨b, off, none⟩) n c) none (some (.int .i64 (m : Int))) none).run Try.prog W = .ok (.slice (some ⟨b, off, none⟩) m c) W := by
  have hs : (sizeOf (Try.prog.elem 27)).run Try.prog W = .ok 6 W := by kernel_rfl
  rw [run_slice_h (P := Try.prog) (w := W) 27 (some ⟨b, off, none⟩) n c (by kernel_rfl) .i64 (m : Int) (by omega) (by omega), hs]
  show Result.ok (sliced _ _ _ _ _) W = _
  unfold sliced
  rw [Nat.zero_mul, Nat.sub_zero, Nat.sub_zero, Int.toNat_natCast]
  have h0 : (if c = 0 then some (⟨b, off, none⟩ : Addr) else (some (⟨b, off, none⟩ : Addr)).map (·.add 0)) = some ⟨b, off, none⟩ := by simp [Addr.add_zero']
  rw [h0]

set_option maxRecDepth 100000 in
set_option maxHeartbeats 4000000 in
theorem rin_any (op : Int) (s : Value) (L : List Stp) (w : World) (hV : View w s L) (h0 : 1 ≤ L.length) (hl : L.length ≤ 100000) :
    Calls Try.prog 53 #[.int .i64 op, s] w fun e w' => e = .returned (.bool (brkZ op (L.getD (L.length - 1) default).op)) ∧ Below w.heap.size w w' := by
  have hLo := loose_any s L w hV h0 hl
  obtain ⟨o, c, rfl, hlc, hv⟩ := hV
  obtain ⟨n, hn⟩ : ∃ n, L.length = n + 1 := ⟨L.length - 1, by omega⟩
  obtain ⟨b, off, rfl, v0, _⟩ := hv n (by omega)
  rw [show L.length - 1 = n by omega] at hLo ⊢
  have hni : (n : Int) ≤ 100000 := by omega
  clear hv
  rw [hn] at hLo ⊢
  rw [hn] at hlc
  have hci : (n : Int) + 1 ≤ (c : Int) := by omega
  generalize (L.getD n default).op = lo at *
  obtain ⟨R, hR⟩ : ∃ R, brkZ op lo = R := ⟨_, rfl⟩
  rw [hR]
  have HR := Lib.hid hR
  clear hR
  have hq : looseZ lo = decide (lo = 3 ∨ lo = 4 ∨ lo = 5) := rfl
  have HB : Hid (R = (looseZ lo || (decide (op = 6) && decide (lo = 6 ∨ lo = 7)))) := HR.out.symm
  clear hq HR
  generalize looseZ lo = lz at *
  go_enter Try.func53, Try.ntmps53
  go_wp2_with fail
  refine hLo.mono ?_
  rintro e w2 ⟨rfl, hb2⟩
  have q0 := (hb2.cell (p := ⟨b, off + n * 6, none⟩) (cell_lt v0)).trans v0
  cases lz with
  | true =>
    have HE : Hid (R = true) := by show _ = _; rw [HB.out]; rfl
    go_wp2_with fail
    go_ret
    exact ⟨by rw [HE.out]; rfl, hb2⟩
  | false =>
    by_cases h6 : op = 6
    · subst h6
      by_cases l6 : lo = 6
      · have HE : Hid (R = true) := by show _ = _; rw [HB.out, l6]; rfl
        subst l6
        go_wp2_with fail
        go_ret
        exact ⟨by rw [HE.out]; rfl, hb2⟩
      · have l6b : (lo == 6) = false := by simpa using l6
        by_cases l7 : lo = 7
        · have HE : Hid (R = true) := by show _ = _; rw [HB.out, l7]; rfl
          subst l7
          go_wp2_with fail
          go_ret
          exact ⟨by rw [HE.out]; rfl, hb2⟩
        · have l7b : (lo == 7) = false := by simpa using l7
          have HE : Hid (R = false) := by show _ = _; rw [HB.out, decide_eq_false (show ¬ (lo = 6 ∨ lo = 7) by omega)]; rfl
          go_wp2_with fail
          go_ret
          exact ⟨by rw [HE.out]; rfl, hb2⟩
    · have h6b : (op == 6) = false := by simpa using h6
      have HE : Hid (R = false) := by show _ = _; rw [HB.out, decide_eq_false h6]; rfl
      go_wp2_with fail
      go_ret
      exact ⟨by rw [HE.out]; rfl, hb2⟩

set_option maxRecDepth 100000 in
set_option maxHeartbeats 4000000 in
theorem rparts_any (s : Value) (L : List Stp) (w : World) (hV : View w s L) (hF : ∀ x ∈ L, x.text.length ≤ 9223372036854775807) (hl : L.length ≤ 100000) :
    Calls Try.prog 22 #[s] w fun e w' => (∃ a b, e = .returned (.agg #[a, b]) ∧ View w' a (partsZ symT L).1 ∧ View w' b (partsZ symT L).2) ∧ Below w.heap.size w w' := by
  have hS := fun W h => rsound_any s L W h hF hl
  have hV0 := hV
  obtain ⟨o, c, rfl, hlc, hv⟩ := hV
  have hu : Below w.heap.size w (w.alloc (.cells #[.slice none 0 0, .slice none 0 0] 55)) := by go_grown
  have r0 : (w.alloc (.cells #[.slice none 0 0, .slice none 0 0] 55)).cell? ⟨w.heap.size, 0, none⟩ = some (.slice none 0 0) := by simp [go_sem]
  have r1 : (w.alloc (.cells #[.slice none 0 0, .slice none 0 0] 55)).cell? ⟨w.heap.size, 1, none⟩ = some (.slice none 0 0) := by simp [go_sem]
  have rf0 : (w.alloc (.cells #[.slice none 0 0, .slice none 0 0] 55)).frozen? ⟨w.heap.size, 0, none⟩ = false := by simp [go_sem]
  have rf1 : (w.alloc (.cells #[.slice none 0 0, .slice none 0 0] 55)).frozen? ⟨w.heap.size, 1, none⟩ = false := by simp [go_sem]
  have hz : (w.alloc (.cells #[.slice none 0 0, .slice none 0 0] 55)).heap.size = w.heap.size + 1 := World.size_alloc _ _
  have hVu := hV0.go hu
  unfold partsZ
  cases hs : soundZ symT L with
  | false =>
    rw [hs] at hS
    rw [if_neg (by simp)]
    clear hv hV0 hF
    go_enter Try.func22, Try.ntmps22
    go_wp2_with fail
    generalize w.alloc (.cells #[.slice none 0 0, .slice none 0 0] 55) = W1 at *
    refine (hS _ hVu).mono ?_
    rintro e w2 ⟨rfl, hb2⟩
    replace r0 := (hb2.cell (p := ⟨w.heap.size, 0, none⟩) (cell_lt r0)).trans r0
    replace r1 := (hb2.cell (p := ⟨w.heap.size, 1, none⟩) (cell_lt r1)).trans r1
    replace rf0 := (hb2.frozen (p := ⟨w.heap.size, 0, none⟩) (by show w.heap.size < W1.heap.size; omega)).trans rf0
    replace rf1 := (hb2.frozen (p := ⟨w.heap.size, 1, none⟩) (by show w.heap.size < W1.heap.size; omega)).trans rf1
    have hB := hu.trans (hb2.mono hu.size)
    go_wp2_with fail
    have x0 : ((w2.setCell ⟨w.heap.size, 0, none⟩ (.slice none 0 0)).setCell ⟨w.heap.size, 1, none⟩ (.slice none 0 0)).cell? ⟨w.heap.size, 0, none⟩ = some (.slice none 0 0) := by simp [go_sem, r0]
    have x1 : ((w2.setCell ⟨w.heap.size, 0, none⟩ (.slice none 0 0)).setCell ⟨w.heap.size, 1, none⟩ (.slice none 0 0)).cell? ⟨w.heap.size, 1, none⟩ = some (.slice none 0 0) := by simp [go_sem, r1]
    have hX := (hB.setCell (p := ⟨w.heap.size, 0, none⟩) (Nat.le_refl _) (.slice none 0 0)).setCell (p := ⟨w.heap.size, 1, none⟩) (Nat.le_refl _) (.slice none 0 0)
    generalize (w2.setCell ⟨w.heap.size, 0, none⟩ (.slice none 0 0)).setCell ⟨w.heap.size, 1, none⟩ (.slice none 0 0) = X at *
    refine bodyPost_ret (v := .agg #[(.slice none 0 0), (.slice none 0 0)]) (by simp [results, Try.results22, go_sem, x0, x1]) rfl ⟨⟨_, _, rfl, View.nil _ _ _, View.nil _ _ _⟩, hX⟩
  | true =>
    rw [hs] at hS
    rw [if_pos rfl]
    obtain ⟨h1, h255⟩ := sound_pos hs
    have h2 := sound_two hs
    rw [last_getD, List.dropLast_eq_take]
    obtain ⟨n, hn⟩ : ∃ n, L.length = n + 1 := ⟨L.length - 1, by omega⟩
    rw [show L.length - 1 = n by omega] at h2 ⊢
    obtain ⟨b, off, rfl, v0, _⟩ := hv n (by omega)
    have u0 := (hu.cell (p := ⟨b, off + n * 6, none⟩) (cell_lt v0)).trans v0
    have hni : (n : Int) ≤ 254 := by omega
    have hci : (n : Int) + 1 ≤ c := by omega
    have hT := fun W => rtakes_any (L.getD n default).op W
    have ht := takes_le (L.getD n default).op
    have hVa : View w (.slice (some ⟨b, off, none⟩) n c) (L.take n) := hV0.take (by omega)
    have hna : (L.take n).length = n := by rw [List.length_take]; omega
    clear hv hV0 hs hF v0
    generalize takesZ (L.getD n default).op = m at *
    generalize (L.getD n default).op = xo at *
    rw [hn] at hS hVu
    have hcu := fun W h => cut_any (.slice (some ⟨b, off, none⟩) n c) (L.take n) W h (by omega)
    have hsh := fun W => slice_head b off (n + 1) c n (by omega) W
    rcases (by omega : m = 0 ∨ m = 1 ∨ m = 2) with rfl | rfl | rfl
    · rw [if_neg (by omega), if_neg (by omega)]
      clear hVa
      go_enter Try.func22, Try.ntmps22
      rw [hn]
      go_wp2_with fail
      generalize w.alloc (.cells #[.slice none 0 0, .slice none 0 0] 55) = W1 at *
      refine (hS _ hVu).mono ?_
      rintro e w2 ⟨rfl, hb2⟩
      replace r0 := (hb2.cell (p := ⟨w.heap.size, 0, none⟩) (cell_lt r0)).trans r0
      replace r1 := (hb2.cell (p := ⟨w.heap.size, 1, none⟩) (cell_lt r1)).trans r1
      replace rf0 := (hb2.frozen (p := ⟨w.heap.size, 0, none⟩) (by show w.heap.size < W1.heap.size; omega)).trans rf0
      replace rf1 := (hb2.frozen (p := ⟨w.heap.size, 1, none⟩) (by show w.heap.size < W1.heap.size; omega)).trans rf1
      have hB := hu.trans (hb2.mono hu.size)
      replace u0 := (hb2.cell (p := ⟨b, off + n * 6, none⟩) (cell_lt u0)).trans u0
      go_wp2_with fail
      refine (hT _).mono ?_
      rintro e w3 ⟨rfl, rfl⟩
      go_wp2_with fail
      have x0 : ((w2.setCell ⟨w.heap.size, 0, none⟩ (.slice none 0 0)).setCell ⟨w.heap.size, 1, none⟩ (.slice none 0 0)).cell? ⟨w.heap.size, 0, none⟩ = some (.slice none 0 0) := by simp [go_sem, r0]
      have x1 : ((w2.setCell ⟨w.heap.size, 0, none⟩ (.slice none 0 0)).setCell ⟨w.heap.size, 1, none⟩ (.slice none 0 0)).cell? ⟨w.heap.size, 1, none⟩ = some (.slice none 0 0) := by simp [go_sem, r1]
      have hX := (hB.setCell (p := ⟨w.heap.size, 0, none⟩) (Nat.le_refl _) (.slice none 0 0)).setCell (p := ⟨w.heap.size, 1, none⟩) (Nat.le_refl _) (.slice none 0 0)
      generalize (w2.setCell ⟨w.heap.size, 0, none⟩ (.slice none 0 0)).setCell ⟨w.heap.size, 1, none⟩ (.slice none 0 0) = X at *
      refine bodyPost_ret (v := .agg #[(.slice none 0 0), (.slice none 0 0)]) (by simp [results, Try.results22, go_sem, x0, x1]) rfl ⟨⟨_, _, rfl, View.nil _ _ _, View.nil _ _ _⟩, hX⟩
    · rw [if_neg (by omega), if_pos rfl]
      go_enter Try.func22, Try.ntmps22
      rw [hn]
      go_wp2_with fail
      generalize w.alloc (.cells #[.slice none 0 0, .slice none 0 0] 55) = W1 at *
      refine (hS _ hVu).mono ?_
      rintro e w2 ⟨rfl, hb2⟩
      replace r0 := (hb2.cell (p := ⟨w.heap.size, 0, none⟩) (cell_lt r0)).trans r0
      replace r1 := (hb2.cell (p := ⟨w.heap.size, 1, none⟩) (cell_lt r1)).trans r1
      replace rf0 := (hb2.frozen (p := ⟨w.heap.size, 0, none⟩) (by show w.heap.size < W1.heap.size; omega)).trans rf0
      replace rf1 := (hb2.frozen (p := ⟨w.heap.size, 1, none⟩) (by show w.heap.size < W1.heap.size; omega)).trans rf1
      have hB := hu.trans (hb2.mono hu.size)
      replace u0 := (hb2.cell (p := ⟨b, off + n * 6, none⟩) (cell_lt u0)).trans u0
      go_wp2_with fail
      refine (hT _).mono ?_
      rintro e w3 ⟨rfl, rfl⟩
      go_wp2_with fail
      refine (hcu _ (hVa.go hB)).mono ?_
      rintro e w4 ⟨rfl, hb4⟩
      replace r0 := (hb4.cell (p := ⟨w.heap.size, 0, none⟩) (cell_lt r0)).trans r0
      have rz := cell_lt r1
      replace r1 := (hb4.cell (p := ⟨w.heap.size, 1, none⟩) (cell_lt r1)).trans r1
      replace rf0 := (hb4.frozen (p := ⟨w.heap.size, 0, none⟩) rz).trans rf0
      replace rf1 := (hb4.frozen (p := ⟨w.heap.size, 1, none⟩) rz).trans rf1
      replace hB := hB.trans (hb4.mono hB.size)
      go_wp2_with fail
      have x0 : ((w4.setCell ⟨w.heap.size, 0, none⟩ (.slice none 0 0)).setCell ⟨w.heap.size, 1, none⟩ (.slice (some ⟨b, off, none⟩) n c)).cell? ⟨w.heap.size, 0, none⟩ = some (.slice none 0 0) := by simp [go_sem, r0]
      have x1 : ((w4.setCell ⟨w.heap.size, 0, none⟩ (.slice none 0 0)).setCell ⟨w.heap.size, 1, none⟩ (.slice (some ⟨b, off, none⟩) n c)).cell? ⟨w.heap.size, 1, none⟩ = some (.slice (some ⟨b, off, none⟩) n c) := by simp [go_sem, r1]
      have hX := (hB.setCell (p := ⟨w.heap.size, 0, none⟩) (Nat.le_refl _) (.slice none 0 0)).setCell (p := ⟨w.heap.size, 1, none⟩) (Nat.le_refl _) (.slice (some ⟨b, off, none⟩) n c)
      generalize (w4.setCell ⟨w.heap.size, 0, none⟩ (.slice none 0 0)).setCell ⟨w.heap.size, 1, none⟩ (.slice (some ⟨b, off, none⟩) n c) = X at *
      refine bodyPost_ret (v := .agg #[(.slice none 0 0), (.slice (some ⟨b, off, none⟩) n c)]) (by simp [results, Try.results22, go_sem, x0, x1]) rfl ⟨⟨_, _, rfl, View.nil _ _ _, hVa.go hX⟩, hX⟩
    · rw [if_pos rfl]
      have h3 := h2 rfl
      clear h2
      have hVl := View.take (n := cutZ (L.take n)) (by rw [hna]; exact hVa) (by omega)
      have hVr := View.rest (n := cutZ (L.take n)) (by rw [hna]; exact hVa) (by omega)
      rw [hna] at hVr
      generalize cutZ (L.take n) = k at *
      have hki : (k : Int) < n := by omega
      have hkc : (k : Int) ≤ c := by omega
      have hsm := fun W => slice_mid b off (n + 1) c k n (by omega) (by omega) (by omega) W
      have hsk := fun W => slice_head b off (n + 1) c k (by omega) W
      go_enter Try.func22, Try.ntmps22
      rw [hn]
      go_wp2_with fail
      generalize w.alloc (.cells #[.slice none 0 0, .slice none 0 0] 55) = W1 at *
      refine (hS _ hVu).mono ?_
      rintro e w2 ⟨rfl, hb2⟩
      replace r0 := (hb2.cell (p := ⟨w.heap.size, 0, none⟩) (cell_lt r0)).trans r0
      replace r1 := (hb2.cell (p := ⟨w.heap.size, 1, none⟩) (cell_lt r1)).trans r1
      replace rf0 := (hb2.frozen (p := ⟨w.heap.size, 0, none⟩) (by show w.heap.size < W1.heap.size; omega)).trans rf0
      replace rf1 := (hb2.frozen (p := ⟨w.heap.size, 1, none⟩) (by show w.heap.size < W1.heap.size; omega)).trans rf1
      have hB := hu.trans (hb2.mono hu.size)
      replace u0 := (hb2.cell (p := ⟨b, off + n * 6, none⟩) (cell_lt u0)).trans u0
      go_wp2_with fail
      refine (hT _).mono ?_
      rintro e w3 ⟨rfl, rfl⟩
      go_wp2_with fail
      refine (hcu _ (hVa.go hB)).mono ?_
      rintro e w4 ⟨rfl, hb4⟩
      replace r0 := (hb4.cell (p := ⟨w.heap.size, 0, none⟩) (cell_lt r0)).trans r0
      have rz := cell_lt r1
      replace r1 := (hb4.cell (p := ⟨w.heap.size, 1, none⟩) (cell_lt r1)).trans r1
      replace rf0 := (hb4.frozen (p := ⟨w.heap.size, 0, none⟩) rz).trans rf0
      replace rf1 := (hb4.frozen (p := ⟨w.heap.size, 1, none⟩) rz).trans rf1
      replace hB := (hB.trans (hb4.mono hB.size)).drew
      go_wp2_with fail
      go_still_tail 8, (by kernel_rfl)
      change wpList _ _ _ _ _ w4.drew
      replace r0 : w4.drew.cell? ⟨w.heap.size, 0, none⟩ = some (.slice none 0 0) := r0
      replace r1 : w4.drew.cell? ⟨w.heap.size, 1, none⟩ = some (.slice none 0 0) := r1
      replace rf0 : w4.drew.frozen? ⟨w.heap.size, 0, none⟩ = false := rf0
      replace rf1 : w4.drew.frozen? ⟨w.heap.size, 1, none⟩ = false := rf1
      generalize w4.drew = V at *
      go_wp2_with fail
      have x0 : ((V.setCell ⟨w.heap.size, 0, none⟩ (.slice (some ⟨b, off, none⟩) k c)).setCell ⟨w.heap.size, 1, none⟩ (.slice (some ⟨b, off + k * 6, none⟩) (n - k) (c - k))).cell? ⟨w.heap.size, 0, none⟩ = some (.slice (some ⟨b, off, none⟩) k c) := by simp [go_sem, r0]
      have x1 : ((V.setCell ⟨w.heap.size, 0, none⟩ (.slice (some ⟨b, off, none⟩) k c)).setCell ⟨w.heap.size, 1, none⟩ (.slice (some ⟨b, off + k * 6, none⟩) (n - k) (c - k))).cell? ⟨w.heap.size, 1, none⟩ = some (.slice (some ⟨b, off + k * 6, none⟩) (n - k) (c - k)) := by simp [go_sem, r1]
      have hX := (hB.setCell (p := ⟨w.heap.size, 0, none⟩) (Nat.le_refl _) (.slice (some ⟨b, off, none⟩) k c)).setCell (p := ⟨w.heap.size, 1, none⟩) (Nat.le_refl _) (.slice (some ⟨b, off + k * 6, none⟩) (n - k) (c - k))
      generalize (V.setCell ⟨w.heap.size, 0, none⟩ (.slice (some ⟨b, off, none⟩) k c)).setCell ⟨w.heap.size, 1, none⟩ (.slice (some ⟨b, off + k * 6, none⟩) (n - k) (c - k)) = X at *
      refine bodyPost_ret (v := .agg #[(.slice (some ⟨b, off, none⟩) k c), (.slice (some ⟨b, off + k * 6, none⟩) (n - k) (c - k))]) (by simp [results, Try.results22, go_sem, x0, x1]) rfl ⟨⟨_, _, rfl, hVl.go hX, hVr.go hX⟩, hX⟩

end Go.Proofs.Yteakgagjacjhiaa.Trees

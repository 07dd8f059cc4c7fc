/-
  Contract of the law's spoilt.
-/
import Derived.Test.YtgbhfhdhmkmpcaaSX
import Derived.Test.YtgbhfhdhmkmpcaaUK
namespace Go.Proofs.Ytgbhfhdhmkmpcaa.Trees
open Go.RowKit Go.Shelf
open Go.Proofs.Ytgbhfhdhmkmpcaa.Style (bs bs_size bs_at getD_at bs_of)
open Go.Proofs.Ytgbhfhdhmkmpcaa.Toks (cell_lt cell_same SliceAt Above Grid Spare wpList_app)
set_option linter.unusedVariables false
set_option linter.unusedSimpArgs false

theorem texts_take {L : List Stp} (h : TextsOk L) (k : Nat) : TextsOk (L.take k) := fun x hx => h x (List.mem_of_mem_take hx)
theorem texts_drop {L : List Stp} (h : TextsOk L) (k : Nat) : TextsOk (L.drop k) := fun x hx => h x (List.mem_of_mem_drop hx)
theorem texts_app {L M : List Stp} (h : TextsOk L) (g : TextsOk M) : TextsOk (L ++ M) := fun x hx => by
  rcases List.mem_append.1 hx with h1 | h1
  · exact h x h1
  · exact g x h1
theorem slice_first6 (b n c m : Nat) (hc : m ≤ c) (W : World) : (Instr.slice 26 (.slice (some ⟨b, 0, none⟩) n c) none (some (.int .i64 (m : Int))) none).run Try.prog W = .ok (.slice (some ⟨b, 0, none⟩) m c) W := by
  have hs : (sizeOf (Try.prog.elem 26)).run Try.prog W = .ok 6 W := by kernel_rfl
  rw [run_slice_h (P := Try.prog) (w := W) 26 (some ⟨b, 0, none⟩) n c (by kernel_rfl) .i64 (m : Int) (by omega) (by omega), hs]
  show Result.ok (sliced _ _ _ _ _) W = _
  unfold sliced
  rw [Nat.zero_mul, Nat.sub_zero, Nat.sub_zero, Int.toNat_natCast]
  have h0 : (if c = 0 then some (⟨b, 0, none⟩ : Addr) else (some (⟨b, 0, none⟩ : Addr)).map (·.add 0)) = some ⟨b, 0, none⟩ := by simp [Addr.add_zero']
  rw [h0]
/-- One step goes: the row ahead of it, and what stands behind it. -/
theorem OwnB.cut {w W : World} {b c : Nat} {L : List Stp} (h : OwnB w W b c L) (i : Nat) (hi : i < L.length) (hl : L.length ≤ 1000) :
    ∃ oo V s', (∀ V', (Instr.slice 26 (.slice (some ⟨b, 0, none⟩) L.length c) (some (.int .i64 ((i : Int) + 1))) none none).run Try.prog V' = .ok (.slice oo (L.length - (i + 1)) (c - (i + 1))) V')
      ∧ (∀ ty, (Builtin.append_ #[26, 26] ty #[.slice (some ⟨b, 0, none⟩) i c, .slice oo (L.length - (i + 1)) (c - (i + 1))]).run Try.prog W = .ok s' V) ∧ StepsAt V s' (L.take i ++ L.drop (i + 1)) ∧ Below w.heap.size w V := by
  have hlt : (L.take i).length = i := by rw [List.length_take]; omega
  have hat : StepsAt W (.slice (some ⟨b, 0, none⟩) i c) (L.take i) := by
    refine .inr ⟨b, c, by rw [hlt], by rw [hlt]; have := h.cap; omega, h.spare, ?_⟩
    rw [hlt]
    refine (h.grid.short (by omega)).ext (fun i' hi' j' hj' => ?_)
    unfold cellS
    rw [show (L.take i).getD i' default = L.getD i' default by rw [List.getD_eq_getElem?_getD, List.getD_eq_getElem?_getD, List.getElem?_take_of_lt hi']]
  have hab : Above w.heap.size (.slice (some ⟨b, 0, none⟩) i c) := fun a n c e => by injection e with e; injection e with e; subst e; exact h.new
  have hs : ∀ V', ∃ oo, (Instr.slice 26 (.slice (some ⟨b, 0, none⟩) L.length c) (some (.int .i64 ((i : Int) + 1))) none none).run Try.prog V' = .ok (.slice oo (L.length - (i + 1)) (c - (i + 1))) V' ∧ oo = (if c = i + 1 then some ⟨b, 0, none⟩ else some ⟨b, (i + 1) * 6, none⟩) := by
    intro V'
    have hz : (sizeOf (Try.prog.elem 26)).run Try.prog V' = .ok 6 V' := by kernel_rfl
    have hcp := h.cap
    refine ⟨_, ?_, rfl⟩
    rw [show ((i : Int) + 1) = ((i + 1 : Nat) : Int) by omega]
    rw [run_slice_l (P := Try.prog) (w := V') 26 (some ⟨b, 0, none⟩) L.length c (by kernel_rfl) .i64 ((i + 1 : Nat) : Int) (by omega) (by omega), hz]
    show Result.ok (sliced _ _ _ _ _) V' = _
    unfold sliced
    simp [Addr.add_mid]
  have hv : View W (.slice (if c = i + 1 then some ⟨b, 0, none⟩ else some ⟨b, (i + 1) * 6, none⟩) (L.length - (i + 1)) (c - (i + 1))) (L.drop (i + 1)) := by
    by_cases e : i + 1 = L.length
    · rw [List.drop_eq_nil_of_le (by omega), show L.length - (i + 1) = 0 by omega]
      exact View.nil _ _ _
    · have hcp := h.cap
      rw [if_neg (by omega)]
      have := View.rest (n := i + 1) h.at_.view (by omega)
      rw [Nat.zero_add] at this
      exact this
  obtain ⟨V, s', hr, h1, h2, h3, _, _⟩ := app_steps hat hab h.below.size hv (by rw [hlt, List.length_drop]; omega) (.inr ⟨_, _, _, rfl⟩)
  refine ⟨_, V, s', fun V' => ?_, hr, h1, h.below.trans h3⟩
  obtain ⟨oo, e1, rfl⟩ := hs V'
  exact e1

theorem putA_only (W : World) (b o : Nat) (x : Stp) : Toks.Only b W (Trees.putA W b o x) := (((((Toks.Only.refl b W).set o _).set (o + 1) _).set (o + 2) _).set (o + 3) _ |>.set (o + 4) _).set (o + 5) _
theorem own_cells {w W : World} {b c : Nat} {L : List Stp} (h : OwnB w W b c L) (i : Nat) (hi : i < L.length) {x : Stp} (hx : L.getD i default = x) :
    W.cell? ⟨b, i * 6, none⟩ = some (.int .i64 x.op) ∧ W.cell? ⟨b, i * 6 + 1, none⟩ = some (.int .i64 x.pf) ∧ W.cell? ⟨b, i * 6 + 2, none⟩ = some (.int .i64 x.atom) ∧ W.cell? ⟨b, i * 6 + 3, none⟩ = some (.int .i64 x.n) ∧ W.cell? ⟨b, i * 6 + 4, none⟩ = some (.int .i64 x.num) ∧ W.cell? ⟨b, i * 6 + 5, none⟩ = some (.string (bs x.text)) := by
  subst hx
  exact ⟨h.grid.1 i hi 0 (by omega), h.grid.1 i hi 1 (by omega), h.grid.1 i hi 2 (by omega), h.grid.1 i hi 3 (by omega), h.grid.1 i hi 4 (by omega), h.grid.1 i hi 5 (by omega)⟩

set_option maxRecDepth 100000 in
set_option maxHeartbeats 8000000 in
theorem spoilt_x (s : Value) (L : List Stp) (how at_ n : Int) (tx : List UInt8) (w : World) (hV : View w s L) (hT : TextsOk L) (hl : L.length ≤ 900) (htx : tx.length ≤ 9223372036854775807) :
    Calls Try.prog 6 #[s, .agg #[.int .i64 how, .int .i64 at_, .int .i64 n, .string (bs tx)]] w (SpoEnd L.length w) := by
  have hu : Below w.heap.size w (w.alloc (.cells #[.int .i64 how, .int .i64 at_, .int .i64 n, .string (bs tx)] 24)) := by go_grown
  have q0 : (w.alloc (.cells #[.int .i64 how, .int .i64 at_, .int .i64 n, .string (bs tx)] 24)).cell? ⟨w.heap.size, 0, none⟩ = some (.int .i64 how) := by simp [go_sem]
  have q1 : (w.alloc (.cells #[.int .i64 how, .int .i64 at_, .int .i64 n, .string (bs tx)] 24)).cell? ⟨w.heap.size, 1, none⟩ = some (.int .i64 at_) := by simp [go_sem]
  have q2 : (w.alloc (.cells #[.int .i64 how, .int .i64 at_, .int .i64 n, .string (bs tx)] 24)).cell? ⟨w.heap.size, 2, none⟩ = some (.int .i64 n) := by simp [go_sem]
  have q3 : (w.alloc (.cells #[.int .i64 how, .int .i64 at_, .int .i64 n, .string (bs tx)] 24)).cell? ⟨w.heap.size, 3, none⟩ = some (.string (bs tx)) := by simp [go_sem]
  have hz : (w.alloc (.cells #[.int .i64 how, .int .i64 at_, .int .i64 n, .string (bs tx)] 24)).heap.size = w.heap.size + 1 := World.size_alloc _ _
  have HZ := Lib.hid hz
  clear hz
  have hVu := hV.go hu
  obtain ⟨o, c, rfl, hlc⟩ := hV.slice
  go_enter Try.func6, Try.ntmps6
  go_upto_region 1 with fail
  generalize w.alloc (.cells #[.int .i64 how, .int .i64 at_, .int .i64 n, .string (bs tx)] 24) = W0 at *
  obtain ⟨W1, o1, c1, hr1, hs1, hA1, hb1, hc1⟩ := copy_steps hVu (by omega)
  replace q0 := (hb1.cell (p := ⟨w.heap.size, 0, none⟩) (cell_lt q0)).trans q0
  replace q2 := (hb1.cell (p := ⟨w.heap.size, 2, none⟩) (cell_lt q2)).trans q2
  replace q3 := (hb1.cell (p := ⟨w.heap.size, 3, none⟩) (cell_lt q3)).trans q3
  replace q1 := (hb1.cell (p := ⟨w.heap.size, 1, none⟩) (cell_lt q1)).trans q1
  have hA1' : Above w.heap.size (.slice o1 L.length c1) := hA1.mono (by have := HZ.out; omega)
  have hB1 := hu.trans (hb1.mono hu.size)
  clear hVu hV hu hb1 hA1 hlc
  go_upto_region 2 with (first | (at_builtin; refine wpList_app rfl _ _ 26 26 rfl hr1 ?_) | fail)
  clear hr1
  by_cases hL0 : L.length = 0
  · have hE : SpoEnd L.length w (.returned (.slice o1 0 c1)) W1 := ⟨L, _, rfl, by rw [← hL0]; exact hs1, hT, by omega, hB1⟩
    have HE := Lib.hid hE
    clear hE hs1 hA1' hB1
    rw [hL0]
    go_wp2_with fail
    go_ret
    exact HE.out
  have hLn : ((L.length : Int) == 0) = false := by rw [beq_eq_false_iff_ne]; omega
  obtain ⟨b, rfl, hO⟩ := OwnB.of hs1 (by omega) hA1' hB1
  have hRa := fun W => rest_any at_ L.length W (by omega) (by omega)
  have hRh := fun W => rest_any how 9 W (by omega) (by omega)
  have hi := restN_lt at_ L.length (by omega)
  have hm := restN_lt how 9 (by omega)
  generalize restN at_ L.length = i at *
  generalize restN how 9 = m at *
  clear hs1 hA1' hB1 hL0
  have hLl := hl
  go_wp2_with fail
  refine (hRa W1).mono ?_
  rintro e W2 ⟨rfl, rfl⟩
  go_wp2_with fail
  refine (hRh W1).mono ?_
  rintro e W3 ⟨rfl, rfl⟩
  clear hRa hRh q0 q1
  have hii : (i : Int) < (L.length : Int) := by omega
  have hcc : (L.length : Int) ≤ (c1 : Int) := by have := hO.cap; omega
  have hli : (L.length : Int) ≤ 900 := by omega
  have f0 := hO.grid.2.1
  rcases (by omega : m = 0 ∨ m = 1 ∨ m = 2 ∨ m = 3 ∨ m = 4 ∨ m = 5 ∨ m = 6 ∨ m = 7 ∨ m = 8) with rfl | rfl | rfl | rfl | rfl | rfl | rfl | rfl | rfl
  · have cj := hO.grid.1 i hi 0 (by omega)
    have fj := f0 (i * 6 + 0)
    have hP := hO.put i 0 hi (by omega) (.int .i64 n) { L.getD i default with op := n } (fun j' hj' => by match j', hj' with | 0, _ => rfl | 1, _ => rfl | 2, _ => rfl | 3, _ => rfl | 4, _ => rfl | 5, _ => rfl)
    have hE := hP.fin (n := L.length) (texts_set hT i _ (texts_at hT hi)) (by rw [List.length_set]; omega)
    rw [List.length_set] at hE
    simp only [Nat.add_zero] at cj fj hE
    have HE := Lib.hid hE
    clear hE hP hO f0 hT
    go_wp2_with fail
    go_ret
    exact HE.out
  · have cj := hO.grid.1 i hi 1 (by omega)
    have fj := f0 (i * 6 + 1)
    have hP := hO.put i 1 hi (by omega) (.int .i64 n) { L.getD i default with pf := n } (fun j' hj' => by match j', hj' with | 0, _ => rfl | 1, _ => rfl | 2, _ => rfl | 3, _ => rfl | 4, _ => rfl | 5, _ => rfl)
    have hE := hP.fin (n := L.length) (texts_set hT i _ (texts_at hT hi)) (by rw [List.length_set]; omega)
    rw [List.length_set] at hE
    skip
    have HE := Lib.hid hE
    clear hE hP hO f0 hT
    go_wp2_with fail
    go_ret
    exact HE.out
  · have cj := hO.grid.1 i hi 2 (by omega)
    have fj := f0 (i * 6 + 2)
    have hP := hO.put i 2 hi (by omega) (.int .i64 n) { L.getD i default with atom := n } (fun j' hj' => by match j', hj' with | 0, _ => rfl | 1, _ => rfl | 2, _ => rfl | 3, _ => rfl | 4, _ => rfl | 5, _ => rfl)
    have hE := hP.fin (n := L.length) (texts_set hT i _ (texts_at hT hi)) (by rw [List.length_set]; omega)
    rw [List.length_set] at hE
    skip
    have HE := Lib.hid hE
    clear hE hP hO f0 hT
    go_wp2_with fail
    go_ret
    exact HE.out
  · have cj := hO.grid.1 i hi 3 (by omega)
    have fj := f0 (i * 6 + 3)
    have hP := hO.put i 3 hi (by omega) (.int .i64 n) { L.getD i default with n := n } (fun j' hj' => by match j', hj' with | 0, _ => rfl | 1, _ => rfl | 2, _ => rfl | 3, _ => rfl | 4, _ => rfl | 5, _ => rfl)
    have hE := hP.fin (n := L.length) (texts_set hT i _ (texts_at hT hi)) (by rw [List.length_set]; omega)
    rw [List.length_set] at hE
    skip
    have HE := Lib.hid hE
    clear hE hP hO f0 hT
    go_wp2_with fail
    go_ret
    exact HE.out
  · have cj := hO.grid.1 i hi 4 (by omega)
    have fj := f0 (i * 6 + 4)
    have hP := hO.put i 4 hi (by omega) (.int .i64 n) { L.getD i default with num := n } (fun j' hj' => by match j', hj' with | 0, _ => rfl | 1, _ => rfl | 2, _ => rfl | 3, _ => rfl | 4, _ => rfl | 5, _ => rfl)
    have hE := hP.fin (n := L.length) (texts_set hT i _ (texts_at hT hi)) (by rw [List.length_set]; omega)
    rw [List.length_set] at hE
    skip
    have HE := Lib.hid hE
    clear hE hP hO f0 hT
    go_wp2_with fail
    go_ret
    exact HE.out
  · have cj := hO.grid.1 i hi 5 (by omega)
    have fj := f0 (i * 6 + 5)
    have hP := hO.put i 5 hi (by omega) (.string (bs tx)) { L.getD i default with text := tx } (fun j' hj' => by match j', hj' with | 0, _ => rfl | 1, _ => rfl | 2, _ => rfl | 3, _ => rfl | 4, _ => rfl | 5, _ => rfl)
    have hE := hP.fin (n := L.length) (texts_set hT i _ htx) (by rw [List.length_set]; omega)
    rw [List.length_set] at hE
    skip
    have HE := Lib.hid hE
    clear hE hP hO f0 hT
    go_wp2_with fail
    go_ret
    exact HE.out
  · have hod := hO.go (Below.refl _ _).drew
    obtain ⟨oo, V, s', hsl, hrn, hst, hbV⟩ := hod.cut i hi (by omega)
    have hsh := fun W => slice_first6 b L.length c1 i (by have := hO.cap; omega) W
    have hE : SpoEnd L.length w (.returned s') V := ⟨_, s', rfl, hst, texts_app (texts_take hT _) (texts_drop hT _), by rw [List.length_append, List.length_take, List.length_drop]; omega, hbV⟩
    have hw1 : IntKind.i64.wrap ((i : Int) + 1) = (i : Int) + 1 := by unfold IntKind.wrap; simp [IntKind.bits, IntKind.signed]; omega
    have HE := Lib.hid hE
    clear hE hO hod f0 hT hst hbV
    go_wp2_with fail
    go_still_tail 7, (by kernel_rfl)
    change wpList _ _ _ _ _ W1.drew
    go_wp2_with (first | (at_builtin; refine wpList_app rfl _ _ 26 26 rfl hrn ?_) | fail)
    go_ret
    exact HE.out
  · obtain ⟨x, hx⟩ : ∃ x, L.getD i default = x := ⟨_, rfl⟩
    have hx1 := texts_at hT hi
    obtain ⟨c0, c1', c2, c3, c4, c5⟩ : (W1.cell? ⟨b, i * 6, none⟩ = some (.int .i64 x.op) ∧ W1.cell? ⟨b, i * 6 + 1, none⟩ = some (.int .i64 x.pf) ∧ W1.cell? ⟨b, i * 6 + 2, none⟩ = some (.int .i64 x.atom) ∧ W1.cell? ⟨b, i * 6 + 3, none⟩ = some (.int .i64 x.n) ∧ W1.cell? ⟨b, i * 6 + 4, none⟩ = some (.int .i64 x.num) ∧ W1.cell? ⟨b, i * 6 + 5, none⟩ = some (.string (bs x.text))) := by
      rw [← hx]
      exact ⟨hO.grid.1 i hi 0 (by omega), hO.grid.1 i hi 1 (by omega), hO.grid.1 i hi 2 (by omega), hO.grid.1 i hi 3 (by omega), hO.grid.1 i hi 4 (by omega), hO.grid.1 i hi 5 (by omega)⟩
    obtain ⟨V, s', hr, hst, _, hbV⟩ := add_step hO.at_ (B := w.heap.size) (fun a n c e => by injection e with e; injection e with e; subst e; exact hO.new) hO.below.size (by omega) x
    rw [hx] at hx1
    have hE : SpoEnd L.length w (.returned s') V := ⟨_, s', rfl, hst, texts_app hT (by intro y hy; have hyx : y = x := (by simpa using hy); rw [hyx]; exact hx1), by simp, hO.below.trans hbV⟩
    have HE := Lib.hid hE
    clear hE hO f0 hT hst hbV hx hx1
    obtain ⟨xo, xp, xa, xn, xm, xt⟩ := x
    simp only [Stp.cs] at hr
    simp only at c0 c1' c2 c3 c4 c5
    go_wp2_with (first | (at_builtin; refine wpList_app rfl _ _ 26 26 rfl hr ?_) | fail)
    go_ret
    exact HE.out
  · obtain ⟨k, hk⟩ : ∃ k, (i + 1) % L.length = k := ⟨_, rfl⟩
    have hkl : k < L.length := by rw [← hk]; exact Nat.mod_lt _ (by omega)
    have hki : ((i : Int) + 1).tmod (L.length : Int) = (k : Int) := by
      rw [show ((i : Int) + 1) = ((i + 1 : Nat) : Int) from by omega, ← hk]; rfl
    have hkm : ((i : Int) + 1) % (L.length : Int) = (k : Int) := by
      rw [show ((i : Int) + 1) = ((i + 1 : Nat) : Int) from by omega, ← hk]; rfl
    have hkk : (k : Int) < (L.length : Int) := by omega
    have hl0 : ¬ (L.length : Int) = 0 := by omega
    have hx1 := texts_at hT hi
    have hx2 := texts_at hT hkl
    clear hk
    obtain ⟨x, hx⟩ : ∃ x, L.getD i default = x := ⟨_, rfl⟩
    obtain ⟨y, hy⟩ : ∃ y, L.getD k default = y := ⟨_, rfl⟩
    rw [hx] at hx1
    rw [hy] at hx2
    obtain ⟨c0, c1', c2, c3, c4, c5⟩ := own_cells hO i hi hx
    have hO2 := hO.go (alloc_own W1 (.cells x.cs 36))
    have hX := StAt.new W1 x
    have hne : W1.heap.size ≠ b := by have := hO.grid.2.2; omega
    obtain ⟨d0, d1, d2, d3, d4, d5⟩ := own_cells hO2 k hkl hy
    obtain ⟨a0, a1, a2, a3, a4, a5⟩ := own_cells hO2 i hi hx
    have hf2 := hO2.grid.2.1
    have g0 := hf2 (i * 6)
    have g1 := hf2 (i * 6 + 1)
    have g2 := hf2 (i * 6 + 2)
    have g3 := hf2 (i * 6 + 3)
    have g4 := hf2 (i * 6 + 4)
    have g5 := hf2 (i * 6 + 5)
    have hO3 := hO2.putA i hi y
    have hX3 := hX.only (putA_only _ b (i * 6) y) hne
    have hk3 : k < (L.set i y).length := by rw [List.length_set]; exact hkl
    have hT3 : TextsOk ((L.set i y).set k x) := texts_set (texts_set hT i y hx2) k x hx1
    have hl3 : ((L.set i y).set k x).length = L.length := by rw [List.length_set, List.length_set]
    obtain ⟨z, hz⟩ : ∃ z, (L.set i y).getD k default = z := ⟨_, rfl⟩
    obtain ⟨b0, b1, b2, b3, b4, b5⟩ := own_cells hO3 k hk3 hz
    have hf3 := hO3.grid.2.1
    have k0 := hf3 (k * 6)
    have k1 := hf3 (k * 6 + 1)
    have k2 := hf3 (k * 6 + 2)
    have k3 := hf3 (k * 6 + 3)
    have k4 := hf3 (k * 6 + 4)
    have k5 := hf3 (k * 6 + 5)
    have hE := (hO3.putA k hk3 x).fin (n := L.length) hT3 (by rw [hl3]; omega)
    rw [hl3] at hE
    obtain ⟨y0, y1, y2, y3, y4, y5⟩ := hX3
    have HE := Lib.hid hE
    clear hE hO3 hO2 hX hO f0 hT hT3 hl3 hk3 hx hy hz hx1 hx2 hf2 hf3
    obtain ⟨xo, xp, xa, xn, xm, xt⟩ := x
    obtain ⟨yo, yp, ya, yn, ym, yt⟩ := y
    simp only [Stp.cs] at *
    go_upto_region 7 with fail
    go_upto_region 8 with fail
    generalize W1.alloc (.cells #[.int .i64 xo, .int .i64 xp, .int .i64 xa, .int .i64 xn, .int .i64 xm, .string (bs xt)] 36) = W2 at *
    generalize W1.heap.size = xb at *
    clear c0 c1' c2 c3 c4 c5
    go_upto_region 9 with fail
    change Code.wp _ _ _ _ (Trees.putA W2 b (i * 6) ⟨yo, yp, ya, yn, ym, yt⟩)
    generalize Trees.putA W2 b (i * 6) ⟨yo, yp, ya, yn, ym, yt⟩ = W3 at *
    clear d0 d1 d2 d3 d4 d5 a0 a1 a2 a3 a4 a5 g0 g1 g2 g3 g4 g5
    go_wp2_with fail
    go_ret
    exact HE.out

end Go.Proofs.Ytgbhfhdhmkmpcaa.Trees

/-
  Contract of the document's Lex.
-/
import Derived.Test.YtnkfjbfllcdkbaaDoorXX
namespace Go.Proofs.YtnkfjbfllcdkbaaDoor.Toks
open Go.RowKit Go.Shelf
open Go.Proofs.YtnkfjbfllcdkbaaDoor.Style
set_option linter.unusedVariables false
set_option linter.unusedSimpArgs false

/-- The box of what is handed back. -/
structure LB (w W : World) : Prop where
  z0 : W.cell? ⟨w.heap.size, 0, none⟩ = some (.slice none 0 0)
  z1 : W.cell? ⟨w.heap.size, 1, none⟩ = some (.int .i64 0)
  z2 : W.cell? ⟨w.heap.size, 2, none⟩ = some (.int .i64 0)
  fr : ∀ j, W.frozen? ⟨w.heap.size, j, none⟩ = false
  below : Below w.heap.size w W
theorem LB.go {w W W' : World} (h : LB w W) (hb : Below W.heap.size W W') : LB w W' :=
  ⟨(hb.cell (p := ⟨w.heap.size, 0, none⟩) (cell_lt h.z0)).trans h.z0, (hb.cell (p := ⟨w.heap.size, 1, none⟩) (cell_lt h.z0)).trans h.z1, (hb.cell (p := ⟨w.heap.size, 2, none⟩) (cell_lt h.z0)).trans h.z2, fun j => (hb.frozen (p := ⟨w.heap.size, j, none⟩) (cell_lt h.z0)).trans (h.fr j), h.below.trans (hb.mono h.below.size)⟩
theorem LB.drew {w W : World} (h : LB w W) : LB w W.drew := h.go (Below.refl _ _).drew
theorem LB.new (w : World) : LB w (w.alloc (.cells #[.slice none 0 0, .int .i64 0, .int .i64 0] 35)) :=
  ⟨by simp [go_sem], by simp [go_sem], by simp [go_sem], fun j => by simp [go_sem], by go_grown⟩
theorem LB.fill {w W : World} (h : LB w W) (a b c : Value) :
    ((((W.setCell ⟨w.heap.size, 0, none⟩ a).setCell ⟨w.heap.size, 1, none⟩ b).setCell ⟨w.heap.size, 2, none⟩ c).cell? ⟨w.heap.size, 0, none⟩ = some a
    ∧ (((W.setCell ⟨w.heap.size, 0, none⟩ a).setCell ⟨w.heap.size, 1, none⟩ b).setCell ⟨w.heap.size, 2, none⟩ c).cell? ⟨w.heap.size, 1, none⟩ = some b
    ∧ (((W.setCell ⟨w.heap.size, 0, none⟩ a).setCell ⟨w.heap.size, 1, none⟩ b).setCell ⟨w.heap.size, 2, none⟩ c).cell? ⟨w.heap.size, 2, none⟩ = some c)
    ∧ Below w.heap.size w (((W.setCell ⟨w.heap.size, 0, none⟩ a).setCell ⟨w.heap.size, 1, none⟩ b).setCell ⟨w.heap.size, 2, none⟩ c)
    ∧ ∀ (o : Option Addr) (m k : Nat) (L : List Tok), ToksAt W (.slice o m k) L → Above (w.heap.size + 1) (.slice o m k) → ToksAt (((W.setCell ⟨w.heap.size, 0, none⟩ a).setCell ⟨w.heap.size, 1, none⟩ b).setCell ⟨w.heap.size, 2, none⟩ c) (.slice o m k) L := by
  obtain ⟨z0, z1, z2, fr, hbl⟩ := h
  refine ⟨⟨?_, ?_, ?_⟩, ((hbl.setCell (p := ⟨w.heap.size, 0, none⟩) (Nat.le_refl _) a).setCell (p := ⟨w.heap.size, 1, none⟩) (Nat.le_refl _) b).setCell (p := ⟨w.heap.size, 2, none⟩) (Nat.le_refl _) c, fun o m k L hT hA => toks_far (toks_far (toks_far hT hA _ _ _ (by omega)) hA _ _ _ (by omega)) hA _ _ _ (by omega)⟩
  all_goals simp [go_sem, z0, z1, z2]

set_option maxRecDepth 100000 in
set_option maxHeartbeats 2000000 in
theorem rlex_any (n : Int) (s : List UInt8) (w : World) (hl : s.length ≤ 1000) :
    Calls Tryd.prog 9 #[.int .i64 n, .string (bs s)] w fun e w' => (∃ o c, e = .returned (.agg #[.slice o (lexToks n s).length c, .int .i64 (lexAt n s : Int), .int .i64 (lexErr n s)]) ∧ ToksAt w' (.slice o (lexToks n s).length c) (lexToks n s)) ∧ Below w.heap.size w w' := by
  have hzi : ((bs s).size : Int) = (s.length : Int) := by rw [bs_size]
  have hli : (s.length : Int) ≤ 1000 := by omega
  have hB0 := LB.new w
  obtain ⟨z0, z1, z2, fr, hbl⟩ := id hB0
  have f0 := fr 0
  have f1 := fr 1
  have f2 := fr 2
  clear fr
  cases hn : isN n with
  | false =>
    have he : lexErr n s = 1 := by unfold lexErr; rw [if_pos hn]
    have ha : lexAt n s = 0 := by unfold lexAt; rw [if_pos (.inl hn)]
    have ht : lexToks n s = [] := by unfold lexToks; rw [he]; rfl
    rw [he, ha, ht]
    have hn' : n < 1 ∨ 5 < n := by unfold isN at hn; have := of_decide_eq_false hn; omega
    clear he ha ht hn
    by_cases h1 : n < 1
    · have d1 : decide (n < 1) = true := decide_eq_true h1
      go_enter Tryd.func9, Tryd.ntmps9
      go_wp2_with fail
      refine bodyPost_ret (v := .agg #[.slice none 0 0, .int .i64 0, .int .i64 1]) (by simp [results, Tryd.results9, go_sem]) rfl ⟨⟨none, 0, rfl, .inl ⟨rfl, rfl⟩⟩, by go_grown⟩
    · have d1 : decide (n < 1) = false := decide_eq_false h1
      have h5 : 5 < n := by omega
      go_enter Tryd.func9, Tryd.ntmps9
      go_wp2_with fail
      refine bodyPost_ret (v := .agg #[.slice none 0 0, .int .i64 0, .int .i64 1]) (by simp [results, Tryd.results9, go_sem]) rfl ⟨⟨none, 0, rfl, .inl ⟨rfl, rfl⟩⟩, by go_grown⟩
  | true =>
    have hn' : ¬ n < 1 ∧ ¬ 5 < n := by unfold isN at hn; have := of_decide_eq_true hn; omega
    obtain ⟨h1, h5⟩ := hn'
    by_cases h : 255 < s.length
    · have he : lexErr n s = 12 := by unfold lexErr; rw [if_neg (by rw [hn]; simp), if_pos h]
      have ha : lexAt n s = 0 := by unfold lexAt; rw [if_pos (.inr h)]
      have ht : lexToks n s = [] := by unfold lexToks; rw [he]; rfl
      rw [he, ha, ht]
      have hi : (255 : Int) < s.length := by omega
      clear he ha ht hn
      go_enter Tryd.func9, Tryd.ntmps9
      go_wp2_with fail
      refine bodyPost_ret (v := .agg #[.slice none 0 0, .int .i64 0, .int .i64 12]) (by simp [results, Tryd.results9, go_sem]) rfl ⟨⟨none, 0, rfl, .inl ⟨rfl, rfl⟩⟩, by go_grown⟩
    · have hi : ¬ (255 : Int) < s.length := by omega
      have hEa := fun (W : World) => reach_any n s W hl
      have hel := lex_end n s
      have ha : lexAt n s = endL 0 (lexL n 0 s) := by unfold lexAt; rw [if_neg (by rw [hn]; simp; omega)]
      rw [ha]
      have HC : Hid ((endL 0 (lexL n 0 s) < s.length → lexErr n s = 14 ∧ lexToks n s = []) ∧ (¬ endL 0 (lexL n 0 s) < s.length → lexErr n s = 0 ∧ lexToks n s = toks n s)) := by
        refine ⟨fun h9 => ?_, fun h9 => ?_⟩
        · have he : lexErr n s = 14 := by unfold lexErr; rw [if_neg (by rw [hn]; simp), if_neg h, if_pos h9]
          exact ⟨he, by unfold lexToks; rw [he]; rfl⟩
        · have he : lexErr n s = 0 := by unfold lexErr; rw [if_neg (by rw [hn]; simp), if_neg h, if_neg h9]
          exact ⟨he, by unfold lexToks; rw [he]; rfl⟩
      clear hn ha
      generalize endL 0 (lexL n 0 s) = en at *
      generalize toks n s = L at *
      by_cases h9 : en < s.length
      · obtain ⟨he, ht⟩ := HC.out.1 h9
        rw [he, ht]
        have hi9 : (en : Int) < s.length := by omega
        have HEN : Hid (True) := by show _; trivial
        clear HC he ht
        go_enter Tryd.func9, Tryd.ntmps9
        go_wp2_with fail
        have hzw : (w.alloc (.cells #[.slice none 0 0, .int .i64 0, .int .i64 0] 35)).heap.size = w.heap.size + 1 := World.size_alloc _ _
        generalize w.alloc (.cells #[.slice none 0 0, .int .i64 0, .int .i64 0] 35) = W0 at *
        refine (hEa W0).mono ?_
        rintro e w1 ⟨⟨o, c, rfl, hT, hab⟩, hb1⟩
        have hB1 := hB0.go hb1
        rw [hzw] at hab
        clear hzw
        have hu : Below w1.heap.size w1 (w1.alloc (.cells #[.slice o L.length c, .int .i64 (en : Int)] 40)) := (Below.refl w1.heap.size w1).alloc (Nat.le_refl _) _
        have hB2 := hB1.go hu
        have hT2 := hT.go hu
        have y0 : (w1.alloc (.cells #[.slice o L.length c, .int .i64 (en : Int)] 40)).cell? ⟨w1.heap.size, 0, none⟩ = some (.slice o L.length c) := by simp [go_sem]
        have y1 : (w1.alloc (.cells #[.slice o L.length c, .int .i64 (en : Int)] 40)).cell? ⟨w1.heap.size, 1, none⟩ = some (.int .i64 (en : Int)) := by simp [go_sem]
        clear hEa z0 z1 z2 f0 f1 f2 hbl hB0 hB1 hT hb1 hu
        go_upto_region 6 with fail
        generalize w1.alloc (.cells #[.slice o L.length c, .int .i64 (en : Int)] 40) = W2 at *
        obtain ⟨z0, z1, z2, fr, hbl⟩ := id hB2
        have f0 := fr 0
        have f1 := fr 1
        have f2 := fr 2
        clear fr
        go_wp2_with fail
        obtain ⟨⟨x0, x1, x2⟩, hX, hXT⟩ := hB2.fill (.slice none 0 0) (.int .i64 (en : Int)) (.int .i64 14)
        generalize ((W2.setCell ⟨w.heap.size, 0, none⟩ (.slice none 0 0)).setCell ⟨w.heap.size, 1, none⟩ (.int .i64 (en : Int))).setCell ⟨w.heap.size, 2, none⟩ (.int .i64 14) = X at *
        refine bodyPost_ret (v := .agg #[.slice none 0 0, .int .i64 (en : Int), .int .i64 14]) (by simp [results, Tryd.results9, go_sem, x0, x1, x2]) rfl ?_
        exact ⟨⟨none, 0, rfl, .inl ⟨rfl, rfl⟩⟩, hX⟩
      
      · obtain ⟨he, ht⟩ := HC.out.2 h9
        rw [he, ht]
        have hi9 : ¬ (en : Int) < s.length := by omega
        have HEN : Hid ((s.length : Int) = (en : Int)) := by show _ = _; omega
        clear HC he ht
        go_enter Tryd.func9, Tryd.ntmps9
        go_wp2_with fail
        have hzw : (w.alloc (.cells #[.slice none 0 0, .int .i64 0, .int .i64 0] 35)).heap.size = w.heap.size + 1 := World.size_alloc _ _
        generalize w.alloc (.cells #[.slice none 0 0, .int .i64 0, .int .i64 0] 35) = W0 at *
        refine (hEa W0).mono ?_
        rintro e w1 ⟨⟨o, c, rfl, hT, hab⟩, hb1⟩
        have hB1 := hB0.go hb1
        rw [hzw] at hab
        clear hzw
        have hu : Below w1.heap.size w1 (w1.alloc (.cells #[.slice o L.length c, .int .i64 (en : Int)] 40)) := (Below.refl w1.heap.size w1).alloc (Nat.le_refl _) _
        have hB2 := hB1.go hu
        have hT2 := hT.go hu
        have y0 : (w1.alloc (.cells #[.slice o L.length c, .int .i64 (en : Int)] 40)).cell? ⟨w1.heap.size, 0, none⟩ = some (.slice o L.length c) := by simp [go_sem]
        have y1 : (w1.alloc (.cells #[.slice o L.length c, .int .i64 (en : Int)] 40)).cell? ⟨w1.heap.size, 1, none⟩ = some (.int .i64 (en : Int)) := by simp [go_sem]
        clear hEa z0 z1 z2 f0 f1 f2 hbl hB0 hB1 hT hb1 hu
        go_upto_region 6 with fail
        generalize w1.alloc (.cells #[.slice o L.length c, .int .i64 (en : Int)] 40) = W2 at *
        obtain ⟨z0, z1, z2, fr, hbl⟩ := id hB2
        have f0 := fr 0
        have f1 := fr 1
        have f2 := fr 2
        clear fr
        go_wp2_with fail
        obtain ⟨⟨x0, x1, x2⟩, hX, hXT⟩ := hB2.fill (.slice o L.length c) (.int .i64 (s.length : Int)) (.int .i64 0)
        have hXT' := hXT o L.length c L hT2 hab
        generalize ((W2.setCell ⟨w.heap.size, 0, none⟩ (.slice o L.length c)).setCell ⟨w.heap.size, 1, none⟩ (.int .i64 (s.length : Int))).setCell ⟨w.heap.size, 2, none⟩ (.int .i64 0) = X at *
        refine bodyPost_ret (v := .agg #[.slice o L.length c, .int .i64 (s.length : Int), .int .i64 0]) (by simp [results, Tryd.results9, go_sem, x0, x1, x2]) rfl ?_
        rw [← HEN.out]
        exact ⟨⟨o, c, rfl, hXT' ⟩, hX⟩

end Go.Proofs.YtnkfjbfllcdkbaaDoor.Toks

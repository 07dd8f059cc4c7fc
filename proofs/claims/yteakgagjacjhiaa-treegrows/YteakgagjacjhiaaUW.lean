/-
  Contracts of tree of the document's Row, of Made.
-/
import Derived.Test.YteakgagjacjhiaaUV
namespace Go.Proofs.Yteakgagjacjhiaa.Trees
open Go.RowKit Go.Shelf
open Go.Proofs.Yteakgagjacjhiaa.Style (bs bs_size bs_at getD_at bs_of)
open Go.Proofs.Yteakgagjacjhiaa.Toks (cell_lt cell_same SliceAt Above wpList_app)
set_option linter.unusedVariables false
set_option linter.unusedSimpArgs false

theorem RowX.keep {W V : World} {rb : Nat} (h : RowX W rb) (hb : ∀ k, k ≤ rb → V.heap[k]? = W.heap[k]?) : RowX V rb := by
  obtain ⟨l, k, ⟨⟨o, c, h0, hc, hv⟩, h1, h2⟩, hk⟩ := h
  refine ⟨l, k, ⟨⟨o, c, cell_same h0 (hb rb (Nat.le_refl _)), hc, fun i hi => ?_⟩, cell_same h1 (hb rb (Nat.le_refl _)), (Toks.frozen_of_block (hb rb (Nat.le_refl _)) 1).trans h2⟩, hk⟩
  obtain ⟨b, off, e, hn, hx⟩ := hv i hi
  exact ⟨b, off, e, hn, cell_same hx (hb b (by omega))⟩

/-- How tree ends. -/
def TreeEnd (rb lev : Nat) (w : World) (e : Ending) (w' : World) : Prop :=
  ∃ (t : Tr) (s : Value), e = .returned s ∧ t.good symT ∧ t.flat.length + 1 ≤ 2 ^ (lev + 1) ∧ (∀ x ∈ t.flat, x.text.length ≤ 10) ∧ StepsAt w' s t.flat ∧ Above w.heap.size s ∧ RowX w' rb ∧ But rb w w'
theorem pow_ge (lev : Nat) : 2 ≤ 2 ^ (lev + 1) := by
  have := Nat.one_le_two_pow (n := lev)
  rw [Nat.pow_succ]; omega
/-- A leaf. -/
theorem leaf_end {rb lev : Nat} {w W : World} (x : Stp) (hr : RowX W rb) (hb : But rb w W) (hm : mayZ symT x = true) (h0 : takesZ x.op = 0) (ht : x.text.length ≤ 10) : TreeEnd rb lev w (.returned (.slice (some ⟨W.heap.size, 0, none⟩) 1 1)) (W.alloc (.cells x.cs 35)) := by
  have hu : Below W.heap.size W (W.alloc (.cells x.cs 35)) := (Below.refl _ _).alloc (Nat.le_refl _) _
  have hz := hb.size
  refine ⟨.leaf x, _, rfl, ⟨hm, h0⟩, pow_ge lev, fun y hy => ?_, StepsAt.new W 35 [x] x.cs (by first | rfl | simp), fun a n c e => ?_, hr.go hu, hb.trans (But.of hu)⟩
  · have : y = x := by simpa [Tr.flat] using hy
    rw [this]; exact ht
  · injection e with e
    injection e with e
    subst e
    exact hz
/-- One step behind a row of one's own. -/
theorem add_step {B : Nat} {W : World} {s : Value} {L : List Stp} (h : StepsAt W s L) (hA : Above B s) (hB : B ≤ W.heap.size) (hl : L.length ≤ 1000) (x : Stp) :
    ∃ V s', (∀ ty, (Builtin.append_ #[27, 27] ty #[s, .slice (some ⟨W.heap.size, 0, none⟩) 1 1]).run Try.prog (W.alloc (.cells x.cs 35)) = .ok s' V) ∧ StepsAt V s' (L ++ [x]) ∧ Above B s' ∧ Below B W V := by
  have hu : Below W.heap.size W (W.alloc (.cells x.cs 35)) := (Below.refl _ _).alloc (Nat.le_refl _) _
  obtain ⟨V, s', hr, h1, h2, h3, _, _⟩ := app_steps (h.go hu) hA (by rw [World.size_alloc]; omega) (StepsAt.new W 35 [x] x.cs (by first | rfl | simp)).view (by simp only [List.length_cons, List.length_nil]; omega) (.inl (by simp))
  exact ⟨V, s', hr, h1, h2, (hu.mono hB).trans h3⟩
/-- A step on one tree. -/
theorem one_end {rb lev : Nat} {w V : World} {t : Tr} {s : Value} (x : Stp) (hb : But rb w V) (hr : RowX V rb) (hg : t.good symT) (hl : t.flat.length + 1 ≤ 2 ^ (lev + 1)) (hT : ∀ x ∈ t.flat, x.text.length ≤ 10) (hm : mayZ symT x = true) (h1 : takesZ x.op = 1) (ht : x.text.length ≤ 10) (hs : StepsAt V s (t.flat ++ [x])) (hA : Above w.heap.size s) : TreeEnd rb (lev + 1) w (.returned s) V := by
  refine ⟨.one x t, s, rfl, ⟨⟨hm, h1⟩, hg⟩, ?_, fun y hy => ?_, hs, hA, hr, hb⟩
  · simp only [Tr.flat, List.length_append, List.length_cons, List.length_nil]
    rw [Nat.pow_succ]
    have := pow_ge lev
    omega
  · rcases List.mem_append.1 hy with h | h
    · exact hT y h
    · have : y = x := by simpa using h
      rw [this]; exact ht
theorem two_end {rb lev : Nat} {w V : World} {t u : Tr} {s : Value} (x : Stp) (hb : But rb w V) (hr : RowX V rb) (hg : t.good symT) (hl : t.flat.length + 1 ≤ 2 ^ (lev + 1)) (hT : ∀ x ∈ t.flat, x.text.length ≤ 10) (hg2 : u.good symT) (hl2 : u.flat.length + 1 ≤ 2 ^ (lev + 1)) (hT2 : ∀ x ∈ u.flat, x.text.length ≤ 10) (hm : mayZ symT x = true) (h1 : takesZ x.op = 2) (ht : x.text.length ≤ 10) (hs : StepsAt V s (t.flat ++ u.flat ++ [x])) (hA : Above w.heap.size s) : TreeEnd rb (lev + 1) w (.returned s) V := by
  refine ⟨.two x t u, s, rfl, ⟨⟨hm, h1⟩, hg, hg2⟩, ?_, fun y hy => ?_, hs, hA, hr, hb⟩
  · simp only [Tr.flat, List.length_append, List.length_cons, List.length_nil]
    rw [Nat.pow_succ]
    omega
  · rcases List.mem_append.1 hy with h | h
    · rcases List.mem_append.1 h with h | h
      · exact hT y h
      · exact hT2 y h
    · have : y = x := by simpa using h
      rw [this]; exact ht

theorem takes_0 (op : Int) (h : op = 1 ∨ op = 2 ∨ op = 7) : takesZ op = 0 := by unfold takesZ; rw [if_neg (by omega), if_neg (by omega)]
theorem may_num (v : Int) (h : 1 ≤ v) : mayZ symT ⟨1, -1, 0, 0, v, []⟩ = true := by
  rw [may_1, decide_eq_true h, empty_iff]; rfl
theorem may_note (o : Int) (t : List UInt8) (h : o = 6 ∨ o = 7) (ht : fineT t = true) : mayZ symT ⟨o, -1, 0, 0, 0, t⟩ = true := by
  rw [may_67 _ _ _ _ _ _ _ h, ht]; rfl
theorem may_op3 (o : Int) (h : o = 3 ∨ o = 4 ∨ o = 5) : mayZ symT ⟨o, -1, 0, 0, 0, []⟩ = true := by
  rw [may_345 _ _ _ _ _ _ _ h, empty_iff]; rfl
set_option maxRecDepth 100000 in
set_option maxHeartbeats 4000000 in
theorem tree_x (rb : Nat) : ∀ (lev : Nat) (w : World), RowX w rb → lev ≤ 4 → Calls Try.prog 21 #[.pointer (some ⟨rb, 0, none⟩), .int .i64 (lev : Int)] w (TreeEnd rb lev w) := by
  intro lev
  induction lev with
  | zero =>
    intro w h _
    have hN := fun (n : Nat) W hW hn hn2 => next_x rb n W hW hn hn2
    have hS := fun W hW => sym_x rb W hW
    show Calls _ _ #[.pointer (some ⟨rb, 0, none⟩), .int .i64 0] _ _
    go_enter Try.func21, Try.ntmps21
    go_wp2_with fail
    refine (hN 12 _ h (by omega) (by omega)).mono ?_
    rintro e w1 ⟨k, rfl, hk, hr1, ho1⟩
    go_wp2_with fail
    refine (hS _ hr1).mono ?_
    rintro e w2 ⟨⟨xo, xp, xa, xn, xm, xt⟩, rfl, hm, hop, htx, hr2, hb2⟩
    simp only at hop htx
    subst hop htx
    have hE := leaf_end (lev := 0) ⟨2, xp, xa, xn, xm, []⟩ hr2 ((But.only ho1).trans hb2) hm (takes_0 _ (by simp)) (by simp)
    simp only [Stp.cs] at hE
    simp only [Stp.v]
    go_wp2_with fail
    go_ret
    exact hE
  | succ lev ih =>
    intro w h hlev
    have hN := fun (n : Nat) W hW hn hn2 => next_x rb n W hW hn hn2
    have hS := fun W hW => sym_x rb W hW
    have hX := fun W hW => text_x rb W hW
    have hl0 : ((lev : Int) + 1 == 0) = false := by simp; omega
    have hl1 : ((lev + 1 : Nat) : Int) - 1 = (lev : Int) := by omega
    have hl2 : ((lev + 1 : Nat) : Int) ≤ 4 := by omega
    have hrw := h.lt
    go_enter Try.func21, Try.ntmps21
    go_wp2_with fail
    refine (hN 12 _ h (by omega) (by omega)).mono ?_
    rintro e w1 ⟨k, rfl, hk, hr1, ho1⟩
    have hb1 := But.only ho1
    have hz1 := ho1.size
    clear h ho1
    by_cases h4 : k < 4
    · have h4i : (k : Int) < 4 := by omega
      go_wp2_with fail
      refine (hS _ hr1).mono ?_
      rintro e w2 ⟨⟨xo, xp, xa, xn, xm, xt⟩, rfl, hm, hop, htx, hr2, hb2⟩
      simp only at hop htx
      subst hop htx
      have hE := leaf_end (lev := lev + 1) ⟨2, xp, xa, xn, xm, []⟩ hr2 (hb1.trans hb2) hm (takes_0 _ (by simp)) (by simp)
      simp only [Stp.cs] at hE
      simp only [Stp.v]
      go_wp2_with fail
      go_ret
      exact hE
    have h4i : ¬ (k : Int) < 4 := by omega
    have h4d : decide ((k : Int) < 4) = false := decide_eq_false h4i
    by_cases h5 : k = 4
    · subst h5
      go_wp2_with fail
      refine (hN 1200 _ hr1 (by omega) (by omega)).mono ?_
      rintro e w2 ⟨d, rfl, hd, hr2, ho2⟩
      have hdi : (d : Int) < 1200 := by omega
      have hE := leaf_end (lev := lev + 1) ⟨1, -1, 0, 0, 1 + d, []⟩ hr2 (hb1.trans (But.only ho2)) (may_num _ (by omega)) (takes_0 _ (by simp)) (by simp)
      simp only [Stp.cs] at hE
      go_wp2_with fail
      go_ret
      exact hE
    by_cases h6 : k = 5
    · subst h6
      go_wp2_with fail
      refine (hX _ hr1).mono ?_
      rintro e w2 ⟨t, rfl, hf, htl, hr2, hb2⟩
      have hE := leaf_end (lev := lev + 1) ⟨7, -1, 0, 0, 0, t⟩ hr2 (hb1.trans hb2) (may_note _ _ (by simp) hf) (takes_0 _ (by simp)) htl
      simp only [Stp.cs] at hE
      go_wp2_with fail
      go_ret
      exact hE
    have k4 : ((k : Int) == 4) = false := by simp; omega
    have k5 : ((k : Int) == 5) = false := by simp; omega
    go_wp2_with fail
    refine (ih w1 hr1 (by omega)).mono ?_
    rintro e w2 ⟨ta, sa, rfl, hga, hla, hTa, hsa, hAa, hr2, hb2⟩
    obtain ⟨oa, ca, rfl⟩ := SliceAt.slice hsa
    have h31 : ta.flat.length ≤ 40 := by
      have : 2 ^ (lev + 1) ≤ 2 ^ 4 := Nat.pow_le_pow_right (by omega) (by omega)
      omega
    have hz2 := hb2.size
    have hB2 := hb1.trans hb2
    clear hb2 hr1
    by_cases h7 : k = 6
    · subst h7
      go_wp2_with fail
      refine (hX _ hr2).mono ?_
      rintro e w3 ⟨t, rfl, hf, htl, hr3, hb3⟩
      have hz3 := hb3.size
      have hsa3 := hsa.but hb3 (hAa.mono (by omega))
      obtain ⟨V, s', hr, hs', hA', hV⟩ := add_step hsa3 (hAa.mono (Nat.le_of_eq hz1.symm)) (by omega) (by omega) ⟨6, -1, 0, 0, 0, t⟩
      have hE := one_end ⟨6, -1, 0, 0, 0, t⟩ ((hB2.trans hb3).join hV (Nat.le_refl _)) (hr3.keep (fun k hk => hV.block k (by omega))) hga hla hTa (may_note _ _ (by simp) hf) rfl htl hs' hA'
      simp only [Stp.cs] at hr
      have HE := Lib.hid hE
      clear hE hsa hsa3 hs' hA' hV hAa hTa hla hga hf htl hr3 hb3 hB2 hb1 ih hN hS hX hr2
      go_wp2_with (first | (at_builtin; refine wpList_app rfl _ _ 27 27 rfl hr ?_) | fail)
      go_ret
      exact HE.out
    have k6 : ((k : Int) == 6) = false := by simp; omega
    by_cases h8 : k = 7
    · subst h8
      obtain ⟨V, s', hr, hs', hA', hV⟩ := add_step hsa (hAa.mono (Nat.le_of_eq hz1.symm)) (by omega) (by omega) ⟨5, -1, 0, 0, 0, []⟩
      have hE := one_end ⟨5, -1, 0, 0, 0, []⟩ (hB2.join hV (Nat.le_refl _)) (hr2.keep (fun k hk => hV.block k (by omega))) hga hla hTa (may_op3 _ (by simp)) rfl (by simp) hs' hA'
      simp only [Stp.cs] at hr
      have HE := Lib.hid hE
      clear hE hsa hs' hA' hV hAa hTa hla hga hB2 hb1 ih hN hS hX hr2
      go_wp2_with (first | (at_builtin; refine wpList_app rfl _ _ 27 27 rfl hr ?_) | fail)
      go_ret
      exact HE.out
    have k7 : ((k : Int) == 7) = false := by simp; omega
    go_wp2_with fail
    refine (ih w2 hr2 (by omega)).mono ?_
    rintro e w3 ⟨tb, sb, rfl, hgb, hlb, hTb, hsb, hAb, hr3, hb3⟩
    have hz3 := hb3.size
    have hsa3 := hsa.but hb3 (hAa.mono (by omega))
    have h32 : tb.flat.length ≤ 40 := by
      have : 2 ^ (lev + 1) ≤ 2 ^ 4 := Nat.pow_le_pow_right (by omega) (by omega)
      omega
    obtain ⟨ob, cb, rfl⟩ := SliceAt.slice hsb
    obtain ⟨V1, s1, hq1, hs1, hA1, hV1, ⟨o1, c1, rfl, _⟩, _⟩ := app_steps hsa3 (hAa.mono (Nat.le_of_eq hz1.symm)) (by omega) hsb.view (by omega) (.inl (by have := flat_pos ta; omega))
    have hzV := hV1.size
    have hB3 := (hB2.trans hb3).join hV1 (Nat.le_refl _)
    have hrV := hr3.keep (fun k hk => hV1.block k (by omega))
    have HG := Lib.hid (And.intro hB3 (And.intro hrV (And.intro hga (And.intro hla (And.intro hTa (And.intro hgb (And.intro hlb hTb)))))))
    clear hsa hsa3 hsb hAa hAb hTa hTb hla hlb hga hgb hB2 hb1 hb3 hV1 ih hN hS hX hr2 hr3 hB3 hrV
    by_cases h9 : 9 < k
    · have h9i : (9 : Int) < (k : Int) := by omega
      obtain ⟨V, s', hr, hs', hA', hV⟩ := add_step hs1 hA1 (by omega) (by simp only [List.length_append]; omega) ⟨4, -1, 0, 0, 0, []⟩
      have hE := two_end ⟨4, -1, 0, 0, 0, []⟩ (HG.out.1.join hV (Nat.le_refl _)) (HG.out.2.1.keep (fun k hk => hV.block k (by omega))) HG.out.2.2.1 HG.out.2.2.2.1 HG.out.2.2.2.2.1 HG.out.2.2.2.2.2.1 HG.out.2.2.2.2.2.2.1 HG.out.2.2.2.2.2.2.2 (may_op3 _ (by simp)) rfl (by simp) hs' hA'
      simp only [Stp.cs] at hr
      have HE := Lib.hid hE
      clear hE hs1 hA1 hs' hA' hV HG
      go_wp2_with (first | (at_builtin; first | refine wpList_app rfl _ _ 27 27 rfl hq1 ?_ | refine wpList_app rfl _ _ 27 27 rfl hr ?_) | fail)
      go_ret
      exact HE.out
    · have h9i : ¬ (9 : Int) < (k : Int) := by omega
      obtain ⟨V, s', hr, hs', hA', hV⟩ := add_step hs1 hA1 (by omega) (by simp only [List.length_append]; omega) ⟨3, -1, 0, 0, 0, []⟩
      have hE := two_end ⟨3, -1, 0, 0, 0, []⟩ (HG.out.1.join hV (Nat.le_refl _)) (HG.out.2.1.keep (fun k hk => hV.block k (by omega))) HG.out.2.2.1 HG.out.2.2.2.1 HG.out.2.2.2.2.1 HG.out.2.2.2.2.2.1 HG.out.2.2.2.2.2.2.1 HG.out.2.2.2.2.2.2.2 (may_op3 _ (by simp)) rfl (by simp) hs' hA'
      simp only [Stp.cs] at hr
      have HE := Lib.hid hE
      clear hE hs1 hA1 hs' hA' hV HG
      go_wp2_with (first | (at_builtin; first | refine wpList_app rfl _ _ 27 27 rfl hq1 ?_ | refine wpList_app rfl _ _ 27 27 rfl hr ?_) | fail)
      go_ret
      exact HE.out

end Go.Proofs.Yteakgagjacjhiaa.Trees

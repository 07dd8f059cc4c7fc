/-
  TreeParts.
-/
import Derived.Test.YteakgagjacjhiaaPT
import Derived.Test.YteakgagjacjhiaaSY
namespace Go.Proofs.Yteakgagjacjhiaa.Trees
open Go.RowKit Go.Shelf
open Go.Proofs.Yteakgagjacjhiaa.Style (bs bs_size bs_at getD_at bs_of)
open Go.Proofs.Yteakgagjacjhiaa.Toks (cell_lt cell_same SliceAt Above)
set_option linter.unusedVariables false
set_option linter.unusedSimpArgs false
attribute [local irreducible] symT mayZ

theorem takes_ops {x : Stp} (hm : mayZ symT x = true) : (takesZ x.op = 0 → x.op = 1 ∨ x.op = 2 ∨ x.op = 7) ∧ (takesZ x.op = 1 → x.op = 5 ∨ x.op = 6) ∧ (takesZ x.op = 2 → x.op = 3 ∨ x.op = 4) := by
  have := may_op hm
  unfold takesZ
  refine ⟨fun h => ?_, fun h => ?_, fun h => ?_⟩ <;> (split at h <;> (try split at h) <;> omega)

set_option maxRecDepth 100000 in
set_option maxHeartbeats 2000000 in
theorem parts_leaf_x (x : Stp) (hm : mayZ symT x = true) (h0 : takesZ x.op = 0) (hF : x.text.length ≤ 9223372036854775807) : PartsOk [x] := by
  intro s w hV
  have hg : (Tr.leaf x).good symT := ⟨hm, h0⟩
  have hP := parts_any s _ w hV (by intro y hy; have e : y = x := (by simpa using hy); rw [e]; exact hF) (by simp)
  have hS := fun W h => sound_any s [x] W h (by intro y hy; have e : y = x := (by simpa using hy); rw [e]; exact hF) (by simp)
  have hpl := parts_leaf hg
  have hsl := tree_sound hg (by simp [Tr.flat])
  simp only [Tr.flat] at hpl hsl
  rw [hpl] at hP
  rw [hsl] at hS
  have hop := (takes_ops hm).1 h0
  have hcell : ∀ W, View W s [x] → ∃ b off c, s = .slice (some ⟨b, off, none⟩) 1 c ∧ 1 ≤ c ∧ W.cell? ⟨b, off, none⟩ = some (.int .i64 x.op) ∧ W.cell? ⟨b, off + 1, none⟩ = some (.int .i64 x.pf) ∧ W.cell? ⟨b, off + 2, none⟩ = some (.int .i64 x.atom) ∧ W.cell? ⟨b, off + 3, none⟩ = some (.int .i64 x.n) ∧ W.cell? ⟨b, off + 4, none⟩ = some (.int .i64 x.num) ∧ W.cell? ⟨b, off + 5, none⟩ = some (.string (bs x.text)) := by
    intro W h
    obtain ⟨o', c', e', hc, hv⟩ := h
    obtain ⟨b1, off1, eo, hc2⟩ := hv 0 (by simp)
    subst eo
    simp only [Nat.zero_mul, Nat.add_zero] at hc2
    exact ⟨b1, off1, c', e', hc, hc2⟩
  obtain ⟨b, off, c, rfl, hc, _⟩ := hcell w hV
  have hci : (1 : Int) ≤ (c : Int) := by omega
  obtain ⟨xo, xp, xa, xn, xm, xt⟩ := x
  simp only at hop
  clear hpl hsl hg hm h0 hF
  go_enter Try.func13, Try.ntmps13
  go_wp2_with fail
  refine hP.mono ?_
  rintro e w1 ⟨⟨s1, s2, rfl, h1, h2⟩, hb1⟩
  obtain ⟨o1, c1, rfl⟩ : ∃ o c, s1 = .slice o 0 c := SliceAt.slice h1
  obtain ⟨o2, c2, rfl⟩ : ∃ o c, s2 = .slice o 0 c := SliceAt.slice h2
  have hV1 := hV.go hb1
  clear hP h1 h2
  go_wp2_with fail
  refine (hS _ hV1).mono ?_
  rintro e w2 ⟨rfl, hb2⟩
  have hB := hb1.trans (hb2.mono hb1.size)
  obtain ⟨b', off', c', e', _, c0, c1', c2', c3, c4, c5⟩ := hcell w2 (hV1.go hb2)
  injection e' with e1 _ e3
  injection e1 with e1
  injection e1 with e1 e2
  subst e1 e2 e3
  have hBB := hB.alloc hB.size (.cells #[.int .i64 xo, .int .i64 xp, .int .i64 xa, .int .i64 xn, .int .i64 xm, .string (bs xt)] 35)
  clear hS hV hV1 hb1 hb2 hcell
  rcases hop with rfl | rfl | rfl
  all_goals
    go_wp2_with fail
    go_ret
    exact ⟨by first | rfl | simp, hBB⟩

theorem parts_tree : ∀ t : Tr, t.good symT → t.flat.length ≤ 255 → TextsOk t.flat → PartsOk t.flat
  | .leaf x, hg, hl, hF => parts_leaf_x x hg.1 hg.2 (hF x (by simp [Tr.flat]))
  | .one x a, hg, hl, hF => by
    have hpa := parts_tree a hg.2 (by simp only [Tr.flat, List.length_append, List.length_cons, List.length_nil] at hl; omega) (fun y hy => hF y (by simp [Tr.flat, hy]))
    have hop := (takes_ops hg.1.1).2.1 hg.1.2
    have hla : a.flat.length ≤ 255 := by simp only [Tr.flat, List.length_append, List.length_cons, List.length_nil] at hl; omega
    intro s w hV
    exact parts_gen x [] a.flat false s w hV hl hF (parts_one hg hl) (tree_sound hg hl) (by unfold soundZ; rfl) (tree_sound hg.2 hla) (fun _ => rfl) (by omega) (decide_eq_false (by omega)) hpa (fun h => by cases h)
  | .two x a b, hg, hl, hF => by
    have hlab : a.flat.length ≤ 255 ∧ b.flat.length ≤ 255 := by simp only [Tr.flat, List.length_append, List.length_cons, List.length_nil] at hl; omega
    have hpa := parts_tree a hg.2.1 hlab.1 (fun y hy => hF y (by simp [Tr.flat, hy]))
    have hpb := parts_tree b hg.2.2 hlab.2 (fun y hy => hF y (by simp [Tr.flat, hy]))
    have hop := (takes_ops hg.1.1).2.2 hg.1.2
    intro s w hV
    exact parts_gen x a.flat b.flat true s w hV hl hF (parts_two hg hl) (tree_sound hg hl) (tree_sound hg.2.1 hlab.1) (tree_sound hg.2.2 hlab.2) (fun h => by cases h) (by omega) (decide_eq_true hop) hpb (fun _ => hpa)

set_option maxRecDepth 100000 in
set_option maxHeartbeats 2000000 in
theorem parts_all (L : List Stp) (hl : L.length ≤ 1000) (hF : TextsOk L) : PartsOk L := by
  cases hs : soundZ symT L with
  | true =>
    obtain ⟨t, hg, rfl, h255⟩ := sound_tree hs
    exact parts_tree t hg h255 hF
  | false =>
    intro s w hV
    have hP := parts_any s L w hV hF (by omega)
    have hS := fun W h => sound_any s L W h hF (by omega)
    rw [hs] at hS
    have hp : partsZ symT L = ([], []) := by unfold partsZ; rw [hs]; rfl
    rw [hp] at hP
    clear hF hp hs
    go_enter Try.func13, Try.ntmps13
    go_wp2_with fail
    refine hP.mono ?_
    rintro e w1 ⟨⟨s1, s2, rfl, h1, h2⟩, hb1⟩
    obtain ⟨o1, c1, rfl⟩ : ∃ o c, s1 = .slice o 0 c := SliceAt.slice h1
    obtain ⟨o2, c2, rfl⟩ : ∃ o c, s2 = .slice o 0 c := SliceAt.slice h2
    have hV1 := hV.go hb1
    clear hP h1 h2
    go_wp2_with fail
    refine (hS _ hV1).mono ?_
    rintro e w2 ⟨rfl, hb2⟩
    have hB := hb1.trans (hb2.mono hb1.size)
    go_wp2_with fail
    go_ret
    exact ⟨by first | rfl | simp, hB⟩

end Go.Proofs.Yteakgagjacjhiaa.Trees

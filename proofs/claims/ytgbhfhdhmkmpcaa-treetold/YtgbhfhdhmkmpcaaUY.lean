/-
  A row of steps that grows by appends, beside a row of one that waits: in whatever order both are made.
-/
import Derived.Test.YtgbhfhdhmkmpcaaUX
namespace Go.Proofs.Ytgbhfhdhmkmpcaa.Trees
open Go.RowKit Go.Shelf
open Go.Proofs.Ytgbhfhdhmkmpcaa.Style (bs bs_size bs_at getD_at bs_of)
open Go.Proofs.Ytgbhfhdhmkmpcaa.Toks (cell_lt cell_same SliceAt Above wpList_app append_any)
set_option linter.unusedVariables false
set_option linter.unusedSimpArgs false

/-- The row s of the steps L, made since V; the row of one at b, if there is one. -/
structure ChI (V W : World) (s : Value) (L : List Stp) (b1 : Option Nat) (x : Stp) : Prop where
  at_ : StepsAt W s L
  above : Above V.heap.size s
  some_ : 0 < L.length ∨ ∃ a n c, s = .slice (some a) n c
  below : Below V.heap.size V W
  one : ∀ b, b1 = some b → StepsAt W (.slice (some ⟨b, 0, none⟩) 1 1) [x] ∧ (∀ a n c, s = .slice (some a) n c → a.block ≠ b) ∧ b < W.heap.size
theorem alloc_own (W : World) (o : Obj) : Below W.heap.size W (W.alloc o) := (Below.refl _ _).alloc (Nat.le_refl _) _
theorem ChI.start0 {B : Nat} {w V : World} (h : Below B w V) (x : Stp) : ChI V (V.alloc (.cells #[] 36)) (.slice (some ⟨V.heap.size, 0, none⟩) 0 0) [] none x :=
  ⟨StepsAt.new V 36 [] #[] rfl, fun a n c e => by injection e with e; injection e with e; subst e; exact Nat.le_refl _, .inr ⟨_, _, _, rfl⟩, alloc_own _ _, fun b e => by cases e⟩
theorem ChI.start10 {B : Nat} {w V : World} (h : Below B w V) (x : Stp) : ChI V ((V.alloc (.cells x.cs 36)).alloc (.cells #[] 36)) (.slice (some ⟨V.heap.size + 1, 0, none⟩) 0 0) [] (some V.heap.size) x := by
  have hz : (V.alloc (.cells x.cs 36)).heap.size = V.heap.size + 1 := World.size_alloc _ _
  have h1 := StepsAt.new V 36 [x] x.cs (by first | rfl | simp)
  have h0 := StepsAt.new (V.alloc (.cells x.cs 36)) 36 [] #[] rfl
  rw [hz] at h0
  refine ⟨h0, fun a n c e => by injection e with e; injection e with e; subst e; exact Nat.le_succ _, .inr ⟨_, _, _, rfl⟩, (alloc_own V _).alloc (by rw [hz]; omega) _, fun b e => ?_⟩
  injection e with e
  subst e
  refine ⟨StepsAt.go h1 (alloc_own _ _), fun a n c e => ?_, by rw [World.size_alloc, hz]; omega⟩
  injection e with e; injection e with e; subst e
  show V.heap.size + 1 ≠ _
  omega
theorem ChI.one' {V W : World} {s : Value} {L : List Stp} {x : Stp} (h : ChI V W s L none x) : ChI V (W.alloc (.cells x.cs 36)) s L (some W.heap.size) x := by
  refine ⟨h.at_.go (alloc_own _ _), h.above, h.some_, h.below.alloc h.below.size _, fun b e => ?_⟩
  injection e with e
  subst e
  refine ⟨StepsAt.new W 36 [x] x.cs (by first | rfl | simp), fun a n c e => ?_, by rw [World.size_alloc]; omega⟩
  rcases h.at_ with ⟨_, e'⟩ | ⟨b', c', e', _, _, hg⟩
  · rw [e] at e'; cases e'
  · rw [e] at e'; injection e' with e'; injection e' with e'; subst e'; exact Nat.ne_of_lt hg.2.2
theorem ChI.app {V W : World} {s s2 : Value} {L M : List Stp} {b1 : Option Nat} {x : Stp} {n : Nat} (h : ChI V W s L b1 x) (hV : View W s2 M) (hl : L.length + M.length ≤ 2000) (hn : L.length + M.length = n) :
    ∃ V' o c, Hid (∀ ty, (Builtin.append_ #[26, 26] ty #[s, s2]).run Try.prog W = .ok (.slice o n c) V') ∧ ChI V V' (.slice o n c) (L ++ M) b1 x := by
  subst hn
  obtain ⟨o1, c1, rfl⟩ := SliceAt.slice h.at_
  have h0' : 0 < L.length + M.length ∨ o1 ≠ none := by
    rcases h.some_ with h0 | ⟨a, n, c, e⟩
    · exact .inl (by omega)
    · injection e with e; exact .inr (by rw [e]; simp)
  obtain ⟨V', s', hr, hj⟩ := append_any elem_step h.at_ (cell_oneS L) hV.source hl h0'
  have hR : StepsAt V' s' (L ++ M) := by
    show SliceAt V' s' 6 (L ++ M).length _
    rw [List.length_append]
    refine SliceAt.ext hj.rows (fun i hi j hj => ?_)
    unfold Toks.both cellS
    by_cases hi2 : i < L.length
    · rw [if_pos hi2, List.getD_eq_getElem?_getD (l := L ++ M), List.getElem?_append_left hi2, ← List.getD_eq_getElem?_getD]
    · rw [if_neg hi2, List.getD_eq_getElem?_getD (l := L ++ M), List.getElem?_append_right (by omega), ← List.getD_eq_getElem?_getD]
  rcases hj.way with ⟨c', rfl, hb⟩ | ⟨b, c', e1, rfl, rfl⟩
  · refine ⟨V', _, c', hr, ⟨hR, fun a n c e => ?_, .inr ⟨_, _, _, rfl⟩, h.below.trans (hb.mono h.below.size), fun b e => ?_⟩⟩
    · injection e with e; injection e with e; subst e; exact h.below.size
    · obtain ⟨g1, g2, g3⟩ := h.one b e
      refine ⟨StepsAt.go g1 hb, fun a n c e => ?_, Nat.lt_of_lt_of_le g3 hb.size⟩
      injection e with e; injection e with e; subst e
      show W.heap.size ≠ b
      omega
  · injection e1 with e1 _ e3
    subst e1 e3
    have hab : V.heap.size ≤ b := h.above _ _ _ rfl
    have hO := Toks.only_cells b (Toks.flat 6 M.length (cellS M)) (L.length * 6) W W (Toks.Only.refl b W)
    refine ⟨_, _, c1, hr, ⟨hR, fun a n c e => ?_, .inr ⟨_, _, _, rfl⟩, h.below.trans (hO.below hab), fun b' e => ?_⟩⟩
    · injection e with e; injection e with e; subst e; exact hab
    · obtain ⟨g1, g2, g3⟩ := h.one b' e
      have hne : b ≠ b' := g2 _ _ _ rfl
      have hk := hO.block b' (fun e => hne e.symm)
      refine ⟨?_, fun a n c e => ?_, by rw [hO.size]; exact g3⟩
      · rcases g1 with ⟨h, _⟩ | ⟨b2, c2, e2, hc, hm, hg⟩
        · cases h
        · injection e2 with e2 e3 e4; injection e2 with e2; injection e2 with e2; subst e2 e4
          exact .inr ⟨b', 1, rfl, hc, hm.block hk, hg.block (Nat.le_of_eq hO.size.symm) hk⟩
      · injection e with e; injection e with e; subst e; exact hne
theorem ChI.fin {V W : World} {s : Value} {L : List Stp} {b1 : Nat} {x : Stp} {n : Nat} (h : ChI V W s L (some b1) x) (hl : L.length ≤ 1000) (hn : L.length + 1 = n) :
    ∃ V' o c, Hid (∀ ty, (Builtin.append_ #[26, 26] ty #[s, .slice (some ⟨b1, 0, none⟩) 1 1]).run Try.prog W = .ok (.slice o n c) V') ∧ StepsAt V' (.slice o n c) (L ++ [x]) ∧ Below V.heap.size V V' := by
  obtain ⟨V', o, c, hr, hC⟩ := h.app (h.one b1 rfl).1.view (by simp only [List.length_cons, List.length_nil]; omega) (n := n) (by simpa using hn)
  exact ⟨V', o, c, hr, hC.at_, hC.below⟩

end Go.Proofs.Ytgbhfhdhmkmpcaa.Trees

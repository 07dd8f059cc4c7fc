/-
  Contract of the document's Made.
-/
import Derived.Test.YtgbhfhdhmkmpcaaUVX
namespace Go.Proofs.Ytgbhfhdhmkmpcaa.Trees
open Go.RowKit Go.Shelf
open Go.Proofs.Ytgbhfhdhmkmpcaa.Style (bs bs_size bs_at getD_at bs_of)
open Go.Proofs.Ytgbhfhdhmkmpcaa.Toks (cell_lt cell_same SliceAt Above wpList_app)
set_option linter.unusedVariables false
set_option linter.unusedSimpArgs false

/-- The value s is a slice that reads as these numbers. -/
def IV (w : World) (s : Value) (l : List Int) : Prop :=
  ∃ o c, s = .slice o l.length c ∧ l.length ≤ c ∧ ∀ i, i < l.length → ∃ b off, o = some ⟨b, off, none⟩ ∧ w.cell? ⟨b, off + i, none⟩ = some (.int .i64 (l.getD i 0)) ∧ -9223372036854775808 ≤ l.getD i 0 ∧ l.getD i 0 ≤ 9223372036854775807
theorem IV.go {w w' : World} {s : Value} {l : List Int} (h : IV w s l) (hb : Below w.heap.size w w') : IV w' s l := by
  obtain ⟨o, c, e, hc, h⟩ := h
  refine ⟨o, c, e, hc, fun i hi => ?_⟩
  obtain ⟨b, off, eo, h0, h1⟩ := h i hi
  exact ⟨b, off, eo, (hb.cell (p := ⟨b, _, none⟩) (cell_lt h0)).trans h0, h1⟩
/-- A tree that was made, of some steps. -/
def MadeEnd (w : World) (e : Ending) (w' : World) : Prop :=
  ∃ (t : Tr) (s : Value), e = .returned s ∧ t.good symT ∧ t.flat.length ≤ 31 ∧ (∀ x ∈ t.flat, x.text.length ≤ 10) ∧ StepsAt w' s t.flat ∧ Above w.heap.size s ∧ Below w.heap.size w w'

set_option maxRecDepth 100000 in
set_option maxHeartbeats 2000000 in
theorem made_x (s : Value) (l : List Int) (w : World) (hV : IV w s l) (hl : l.length ≤ 9223372036854775807) :
    Calls Try.prog 7 #[s] w (MadeEnd w) := by
  have key : ∀ (o : Option Addr) (n c : Nat), n ≤ l.length → n ≤ 120 → s = .slice o l.length c → l.length ≤ c → RowX (w.alloc (.cells #[.slice o n c, .int .i64 0] 48)) w.heap.size := by
    intro o n c hn h120 e hc
    have hu : Below w.heap.size w (w.alloc (.cells #[.slice o n c, .int .i64 0] 48)) := (Below.refl _ _).alloc (Nat.le_refl _) _
    obtain ⟨o', c', e', _, hv⟩ := hV
    rw [e] at e'
    injection e' with e1 _ e3
    subst e1 e3
    have hlt : (l.take n).length = n := by rw [List.length_take]; omega
    have hgd : ∀ i, i < n → (l.take n).getD i 0 = l.getD i 0 := fun i hi => by rw [List.getD_eq_getElem?_getD, List.getD_eq_getElem?_getD, List.getElem?_take_of_lt hi]
    refine ⟨l.take n, 0, ⟨⟨o, c, by rw [hlt]; simp [go_sem], by omega, fun i hi => ?_⟩, by simp [go_sem], by simp [go_sem]⟩, by omega, by omega, fun i hi => ?_⟩
    · rw [hlt] at hi
      obtain ⟨b, off, eo, h0, _⟩ := hv i (by omega)
      exact ⟨b, off, eo, cell_lt h0, by rw [hgd i hi]; exact (hu.cell (p := ⟨b, _, none⟩) (cell_lt h0)).trans h0⟩
    · rw [hlt] at hi
      obtain ⟨b, off, eo, _, h0⟩ := hv i (by omega)
      rw [hgd i hi]
      exact h0
  have fin : ∀ (o : Option Addr) (n c : Nat) (e : Ending) (w' : World), TreeEnd w.heap.size 4 (w.alloc (.cells #[.slice o n c, .int .i64 0] 48)) e w' → MadeEnd w e w' := by
    intro o n c e w' ⟨t, s', he, hg, hl, hT, hs, hA, hr, hb⟩
    have hz : (w.alloc (.cells #[.slice o n c, .int .i64 0] 48)).heap.size = w.heap.size + 1 := World.size_alloc _ _
    refine ⟨t, s', he, hg, by omega, hT, hs, hA.mono (by omega), ?_⟩
    have hu : Below w.heap.size w (w.alloc (.cells #[.slice o n c, .int .i64 0] 48)) := (Below.refl _ _).alloc (Nat.le_refl _) _
    exact hu.trans (hb.below (Nat.le_refl _) (by omega))
  obtain ⟨o, c, rfl, hc, hv⟩ := id hV
  have hTr := fun W h => tree_x w.heap.size 4 W h (by omega)
  have hli : (l.length : Int) ≤ 9223372036854775807 := by omega
  by_cases h120 : 120 < l.length
  · have hi : (120 : Int) < l.length := by omega
    have hci : (120 : Int) ≤ c := by omega
    have hK := key o 120 c (by omega) (by omega) rfl hc
    have hF := fin o 120 c
    clear key fin hv hV
    go_enter Try.func7, Try.ntmps7
    go_wp2_with fail
    refine (hTr _ hK).mono ?_
    intro e w' hE
    have hE2 := hF e w' hE
    obtain ⟨t, s', rfl, hr⟩ := id hE2
    have HE := Lib.hid hE2
    clear hE hE2 hr hF
    go_wp2_with fail
    go_ret
    exact HE.out
  · have hi : ¬ (120 : Int) < l.length := by omega
    have hK := key o l.length c (by omega) (by omega) rfl hc
    have hF := fin o l.length c
    clear key fin hv hV
    go_enter Try.func7, Try.ntmps7
    go_wp2_with fail
    refine (hTr _ hK).mono ?_
    intro e w' hE
    have hE2 := hF e w' hE
    obtain ⟨t, s', rfl, hr⟩ := id hE2
    have HE := Lib.hid hE2
    clear hE hE2 hr hF
    go_wp2_with fail
    go_ret
    exact HE.out

/-- Steps put behind nothing: a copy. -/
theorem copy_steps {W : World} {s : Value} {L : List Stp} (h : View W s L) (hl : L.length ≤ 1000) :
    ∃ V o c, (∀ ty, (Builtin.append_ #[26, 26] ty #[.slice (some ⟨W.heap.size, 0, none⟩) 0 0, s]).run Try.prog (W.alloc (.cells #[] 36)) = .ok (.slice o L.length c) V) ∧ StepsAt V (.slice o L.length c) L ∧ Above W.heap.size (.slice o L.length c) ∧ Below W.heap.size W V ∧ L.length ≤ c := by
  have hu : Below W.heap.size W (W.alloc (.cells #[] 36)) := (Below.refl _ _).alloc (Nat.le_refl _) _
  have h0 : StepsAt (W.alloc (.cells #[] 36)) (.slice (some ⟨W.heap.size, 0, none⟩) 0 0) [] := StepsAt.new W 36 [] #[] rfl
  obtain ⟨V, s', hr, h1, h2, h3, ⟨o, c, rfl, hc, _⟩, _⟩ := app_steps h0 (B := W.heap.size) (fun a n c e => by injection e with e; injection e with e; subst e; exact Nat.le_refl _) (by rw [World.size_alloc]; omega) (h.go hu) (by simp only [List.length_nil]; omega) (.inr ⟨_, _, _, rfl⟩)
  simp only [List.length_nil, Nat.zero_add, List.nil_append] at hr h1 h2 h3 hc
  exact ⟨V, o, c, hr, h1, h2, hu.trans (h3.mono (Nat.le_refl _)), hc⟩

/-- A copy, and one step behind it: two appends. -/
structure PairQ (V Wa Wb V1 V2 : World) (s0 s1 sx r1 r2 : Value) (L : List Stp) (x : Stp) : Prop where
  hr1 : ∀ ty, (Builtin.append_ #[26, 26] ty #[s0, sx]).run Try.prog Wa = .ok r1 V1
  hr2 : ∀ ty, (Builtin.append_ #[26, 26] ty #[r1, s1]).run Try.prog Wb = .ok r2 V2
  rows : StepsAt V2 r2 (L ++ [x])
  b1 : Below V.heap.size V V1
  b2 : Below V.heap.size V V2
theorem step_app2 {P : Program} {ops : Array Oper} {o : Oper} {a : Act} {w : World} {K : Act → World → Prop} {Q : Exit → Act → World → Prop} {E : Prop}
    (hw : Region.wanted o (yielded ops a.tmps) = true) (s x : Operand) (t tx : TypeId) (ho : o.op = .call { callee := .builtin .append, args := #[s, x], argTypes := #[t, tx] }) {v : Value} {V : World}
    (hr : ∀ ty, (Builtin.append_ #[t, tx] ty #[a.eval s, a.eval x]).run P w = .ok v V) (hK : K (a.put o.dst v) V) :
    if Region.wanted o (yielded ops a.tmps) = true then Oper.wp P o a w K Q else E := by
  rw [if_pos hw]
  unfold Oper.wp execOp
  simp only [ho, resolve, invoke, builtin, Sem.run_bind, Sem.run_pure, Result.andThen_ok, List.map_toArray, List.map_cons, List.map_nil, hr]
  exact hK
theorem pair_i {V : World} {s : Value} {L : List Stp} {n : Nat} (hV : View V s L) (x : Stp) (hl : L.length ≤ 1000) (hn : L.length = n) :
    ∃ V1 V2 o1 c1 o2 c2, PairQ V (V.alloc (.cells #[] 36)) (V1.alloc (.cells x.cs 36)) V1 V2 (.slice (some ⟨V.heap.size, 0, none⟩) 0 0) (.slice (some ⟨V1.heap.size, 0, none⟩) 1 1) s (.slice o1 n c1) (.slice o2 (n + 1) c2) L x := by
  subst hn
  obtain ⟨V1, o1, c1, h1, h2, h3, h4, _⟩ := copy_steps hV hl
  obtain ⟨V2, s2, g1, g2, g3, g4⟩ := add_step h2 h3 h4.size hl x
  obtain ⟨o2, c2, rfl⟩ := SliceAt.slice g2
  rw [List.length_append] at g1 g2
  exact ⟨V1, V2, o1, c1, o2, c2, h1, g1, g2, h4, h4.trans g4⟩
theorem pair_any {V W : World} {s : Value} {L : List Stp} (hV : View V s L) (hu : Below V.heap.size V W) {b0 b1 : Nat} (x : Stp) (h0 : StepsAt W (.slice (some ⟨b0, 0, none⟩) 0 0) []) (h1 : StepsAt W (.slice (some ⟨b1, 0, none⟩) 1 1) [x]) (hne : b0 ≠ b1) (hb0 : V.heap.size ≤ b0) (hl : L.length ≤ 1000) :
    ∃ V1 V2 o1 c1 o2 c2, PairQ V W V1 V1 V2 (.slice (some ⟨b0, 0, none⟩) 0 0) (.slice (some ⟨b1, 0, none⟩) 1 1) s (.slice o1 L.length c1) (.slice o2 (L.length + 1) c2) L x := by
  have hab : Above V.heap.size (.slice (some ⟨b0, 0, none⟩) 0 0) := fun a n c e => by injection e with e; injection e with e; subst e; exact hb0
  obtain ⟨V1, s1, hr1, g1, g2, g3, ⟨o1, c1, rfl, _, _⟩, g4⟩ := app_steps h0 hab hu.size (hV.go hu) (by simp only [List.length_nil]; omega) (.inr ⟨_, _, _, rfl⟩)
  simp only [List.length_nil, Nat.zero_add, List.nil_append] at hr1 g1 g2
  have hb1 : b1 < W.heap.size := by
    rcases h1 with ⟨h, _⟩ | ⟨b, c, e, _, _, hg⟩
    · cases h
    · injection e with e; injection e with e; injection e with e; subst e; exact hg.2.2
  have h1' : StepsAt V1 (.slice (some ⟨b1, 0, none⟩) 1 1) [x] := by
    rcases h1 with ⟨h, _⟩ | ⟨b, c, e, hc, hm, hg⟩
    · cases h
    · injection e with e e2 e3; injection e with e; injection e with e; subst e e3
      have hk := g4 b1 hb1 (fun a n c e => by injection e with e; injection e with e; subst e; exact hne)
      exact .inr ⟨b1, 1, rfl, hc, hm.block hk, hg.block g3.size hk⟩
  obtain ⟨V2, s2, hr2, k1, k2, k3, ⟨o2, c2, rfl, _, _⟩, _⟩ := app_steps g1 (g2.mono (Nat.le_refl _)) (by have := hu.size; have := g3.size; omega) h1'.view (by simp only [List.length_cons, List.length_nil]; omega) (.inl (by simp))
  exact ⟨V1, V2, o1, c1, o2, c2, hr1, hr2, k1, hu.trans g3, (hu.trans g3).trans k3⟩
theorem pair_ii {V : World} {s : Value} {L : List Stp} {n : Nat} (hV : View V s L) (x : Stp) (hl : L.length ≤ 1000) (hn : L.length = n) :
    ∃ V1 V2 o1 c1 o2 c2, PairQ V ((V.alloc (.cells #[] 36)).alloc (.cells x.cs 36)) V1 V1 V2 (.slice (some ⟨V.heap.size, 0, none⟩) 0 0) (.slice (some ⟨V.heap.size + 1, 0, none⟩) 1 1) s (.slice o1 n c1) (.slice o2 (n + 1) c2) L x := by
  subst hn
  have hu : Below V.heap.size V (V.alloc (.cells #[] 36)) := (Below.refl _ _).alloc (Nat.le_refl _) _
  have hz : (V.alloc (.cells #[] 36)).heap.size = V.heap.size + 1 := World.size_alloc _ _
  have h0 : StepsAt (V.alloc (.cells #[] 36)) (.slice (some ⟨V.heap.size, 0, none⟩) 0 0) [] := StepsAt.new V 36 [] #[] rfl
  have h1 := StepsAt.new (V.alloc (.cells #[] 36)) 36 [x] x.cs (by first | rfl | simp)
  rw [hz] at h1
  exact pair_any hV (hu.alloc (by rw [hz]; omega) _) x (h0.go ((Below.refl _ _).alloc (Nat.le_refl _) _)) h1 (by omega) (Nat.le_refl _) hl
theorem pair_iii {V : World} {s : Value} {L : List Stp} {n : Nat} (hV : View V s L) (x : Stp) (hl : L.length ≤ 1000) (hn : L.length = n) :
    ∃ V1 V2 o1 c1 o2 c2, PairQ V ((V.alloc (.cells x.cs 36)).alloc (.cells #[] 36)) V1 V1 V2 (.slice (some ⟨V.heap.size + 1, 0, none⟩) 0 0) (.slice (some ⟨V.heap.size, 0, none⟩) 1 1) s (.slice o1 n c1) (.slice o2 (n + 1) c2) L x := by
  subst hn
  have hu : Below V.heap.size V (V.alloc (.cells x.cs 36)) := (Below.refl _ _).alloc (Nat.le_refl _) _
  have hz : (V.alloc (.cells x.cs 36)).heap.size = V.heap.size + 1 := World.size_alloc _ _
  have h1 := StepsAt.new V 36 [x] x.cs (by first | rfl | simp)
  have h0 := StepsAt.new (V.alloc (.cells x.cs 36)) 36 [] #[] rfl
  rw [hz] at h0
  exact pair_any hV (hu.alloc (by rw [hz]; omega) _) x h0 (StepsAt.go h1 ((Below.refl _ _).alloc (Nat.le_refl _) _)) (by omega) (by omega) hl

end Go.Proofs.Ytgbhfhdhmkmpcaa.Trees

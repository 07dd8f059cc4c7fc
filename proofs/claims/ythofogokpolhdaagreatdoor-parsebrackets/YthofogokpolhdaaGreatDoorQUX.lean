/-
  Contract of drachmref11's Print. Contract of drachmlaw11's text.
-/
import Derived.Test.YthofogokpolhdaaGreatDoorQKX
import Derived.Test.YthofogokpolhdaaGreatDoorUVZ
import Derived.Test.YthofogokpolhdaaGreatDoorQAX
import Derived.Test.YthofogokpolhdaaGreatDoorRYX
namespace Go.Proofs.YthofogokpolhdaaGreatDoor.Parses
open Go.RowKit Go.Shelf
open Go.Proofs.YthofogokpolhdaaGreatDoor.Trees (Stp Tr View symT brkZ takesZ mayZ soundZ nestZ tree_sound nest_tree rsound_any rNest_any fitT)
open Go.Proofs.YthofogokpolhdaaGreatDoor.Style (bs bs_size bs_app stZ St rplain_any plainL)
open Go.Proofs.YthofogokpolhdaaGreatDoor.Toks (cell_lt cell_same)
open Go.Proofs.YthofogokpolhdaaGreatDoor.Syms (rTold_v)
open Go.Proofs.YthofogokpolhdaaGreatDoor.Atoms (tableRs tablePs)
set_option linter.unusedVariables false
set_option linter.unusedSimpArgs false

theorem text_x (k : Nat) (hk5 : k < 5) : ∀ (T : Tr), T.good symT → T.flat.length ≤ 31 → (∀ x ∈ T.flat, Ask k x) → ∀ (s : Value) (w : World), View w s T.flat →
    Calls Tryz.prog 37 #[.int .i64 ((k : Int) + 1), s] w fun e w' => e = .returned (.string (bs (txtT k T))) ∧ Below w.heap.size w w'
  | .leaf x, hg, hl, hA, s, w, hV => text_leaf k hk5 x s w hg (hA x (by simp [Tr.flat])) hV
  | .one x a, hg, hl, hA, s, w, hV => text_one k hk5 x a s w hg hl hA hV (fun s w h => text_x k hk5 a hg.2 (by simp only [Tr.flat, List.length_append, List.length_cons, List.length_nil] at hl; omega) (fun y hy => hA y (by simp [Tr.flat, hy])) s w h)
  | .two x a b, hg, hl, hA, s, w, hV => text_two k hk5 x a b s w hg hl hA hV
      (fun s w h => text_x k hk5 a hg.2.1 (by simp only [Tr.flat, List.length_append, List.length_cons, List.length_nil] at hl; omega) (fun y hy => hA y (by simp [Tr.flat, hy])) s w h)
      (fun s w h => text_x k hk5 b hg.2.2 (by simp only [Tr.flat, List.length_append, List.length_cons, List.length_nil] at hl; omega) (fun y hy => hA y (by simp [Tr.flat, hy])) s w h)

/-! ### Steps that may be -/

/-- What the notation k + 1 says of a step. -/
def saysS (k : Nat) (x : Stp) : Prop := (x.op = 2 → toldS k x.pf x.atom = true) ∧ (x.op = 6 ∨ x.op = 7 → plainL (stZ ((k : Int) + 1)) x.text = true)
theorem sym_in {pf a : Int} (h : symT pf a = true) : (-1 ≤ pf ∧ pf < (tablePs.length : Int)) ∧ (0 ≤ a ∧ a < (tableRs.length : Int)) := by
  have e : symT pf a = (decide (0 ≤ a ∧ a < (tableRs.length : Int)) && (decide (pf = -1) || (decide (0 ≤ pf ∧ pf < (tablePs.length : Int)) && (tableRs.getD a.toNat default).m))) := rfl
  rw [e, Bool.and_eq_true, decide_eq_true_eq, Bool.or_eq_true, Bool.and_eq_true, decide_eq_true_eq, decide_eq_true_eq] at h
  have := Syms.len_P
  refine ⟨?_, h.1⟩
  rcases h.2 with h2 | ⟨h2, _⟩ <;> omega
theorem ask_of {k : Nat} {x : Stp} (hm : mayZ symT x = true) (ht : fitT x) : Ask k x ∧ (saysS k x → FitS k x) := by
  obtain ⟨o, pf, a, n, num, t⟩ := x
  obtain ⟨h1, h2⟩ := ht
  have ho := Trees.may_op hm
  simp only at h1 h2 ho
  unfold mayZ at hm
  simp only at hm
  by_cases o1 : o = 1
  · subst o1
    rw [if_pos rfl, Bool.and_eq_true, decide_eq_true_eq, decide_eq_true_eq] at hm
    obtain ⟨m1, rfl, rfl, rfl, rfl⟩ := hm
    refine ⟨⟨ho, fun h => ?_, fun _ => ⟨m1, by show num ≤ _; omega⟩, h1⟩, fun _ => ⟨ho, fun h => ?_, fun _ => ⟨⟨m1, by show num ≤ _; omega⟩, rfl⟩, fun h => ?_, fun h => ?_⟩⟩
    · cases h
    · cases h
    · exfalso; simp only at h; omega
    · exfalso; simp only at h; omega
  rw [if_neg o1] at hm
  by_cases o2 : o = 2
  · subst o2
    rw [if_pos rfl, Bool.and_eq_true, Bool.and_eq_true, decide_eq_true_eq, decide_eq_true_eq] at hm
    obtain ⟨⟨m1, m2⟩, rfl, rfl⟩ := hm
    refine ⟨⟨ho, fun _ => ⟨sym_in m1, m2, rfl⟩, fun h => ?_, h1⟩, fun hs => ⟨ho, fun _ => ⟨hs.1 rfl, m2, rfl⟩, fun h => ?_, fun h => ?_, fun h => ?_⟩⟩
    · cases h
    · cases h
    · exfalso; simp only at h; omega
    · exfalso; simp only at h; omega
  rw [if_neg o2] at hm
  by_cases o3 : o = 3 ∨ o = 4 ∨ o = 5
  · rw [if_pos o3, decide_eq_true_eq] at hm
    obtain ⟨rfl, rfl, rfl, rfl, rfl⟩ := hm
    refine ⟨⟨ho, fun h => absurd h o2, fun h => absurd h o1, h1⟩, fun hs => ⟨ho, fun h => absurd h o2, fun h => absurd h o1, fun _ => rfl, fun h => ?_⟩⟩
    simp only at h
    omega
  · rw [if_neg o3] at hm
    by_cases o6 : o = 6 ∨ o = 7
    · rw [if_pos o6, Bool.and_eq_true, decide_eq_true_eq] at hm
      obtain ⟨_, rfl, rfl, rfl, rfl⟩ := hm
      exact ⟨⟨ho, fun h => absurd h o2, fun h => absurd h o1, h1⟩, fun hs => ⟨ho, fun h => absurd h o2, fun h => absurd h o1, fun h => absurd h o3, fun h => ⟨hs.2 h, rfl⟩⟩⟩
    · rw [if_neg o6] at hm; cases hm
theorem good_may {T : Tr} (hg : T.good symT) : ∀ x ∈ T.flat, mayZ symT x = true := by
  induction T with
  | leaf x =>
    intro y hy
    have : y = x := by simpa [Tr.flat] using hy
    rw [this]; exact hg.1
  | one x a ih =>
    intro y hy
    rcases List.mem_append.1 hy with h | h
    · exact ih hg.2 y h
    · rw [List.mem_singleton.1 h]; exact hg.1.1
  | two x a b iha ihb =>
    intro y hy
    rcases List.mem_append.1 hy with h | h
    · rcases List.mem_append.1 h with h | h
      · exact iha hg.2.1 y h
      · exact ihb hg.2.2 y h
    · rw [List.mem_singleton.1 h]; exact hg.1.1

/-- The result's box. -/
structure PBox (W : World) (b : Nat) : Prop where
  x0 : W.cell? ⟨b, 0, none⟩ = some (.string ⟨#[]⟩)
  x1 : W.cell? ⟨b, 1, none⟩ = some (.int .i64 0)
  x2 : W.cell? ⟨b, 2, none⟩ = some (.int .i64 0)
  xf : ∀ j, W.frozen? ⟨b, j, none⟩ = false
theorem PBox.go {W W' : World} {b B : Nat} (h : PBox W b) (hb : Below B W W') (hB : b < B) : PBox W' b :=
  ⟨(hb.cell (p := ⟨b, 0, none⟩) hB).trans h.x0, (hb.cell (p := ⟨b, 1, none⟩) hB).trans h.x1, (hb.cell (p := ⟨b, 2, none⟩) hB).trans h.x2, fun j => (hb.frozen (p := ⟨b, j, none⟩) hB).trans (h.xf j)⟩
/-- It is laid. -/
theorem PBox.laid {w W : World} {b : Nat} (h : PBox W b) (a0 a1 a2 : Value) (hb : w.heap.size ≤ b) (hw : Below w.heap.size w W) :
    (((W.setCell ⟨b, 0, none⟩ a0).setCell ⟨b, 1, none⟩ a1).setCell ⟨b, 2, none⟩ a2).cell? ⟨b, 0, none⟩ = some a0 ∧ (((W.setCell ⟨b, 0, none⟩ a0).setCell ⟨b, 1, none⟩ a1).setCell ⟨b, 2, none⟩ a2).cell? ⟨b, 1, none⟩ = some a1 ∧ (((W.setCell ⟨b, 0, none⟩ a0).setCell ⟨b, 1, none⟩ a1).setCell ⟨b, 2, none⟩ a2).cell? ⟨b, 2, none⟩ = some a2 ∧ Below w.heap.size w (((W.setCell ⟨b, 0, none⟩ a0).setCell ⟨b, 1, none⟩ a1).setCell ⟨b, 2, none⟩ a2) := by
  obtain ⟨x0, x1, x2, _⟩ := h
  exact ⟨by simp [go_sem, x0, x1, x2], by simp [go_sem, x0, x1, x2], by simp [go_sem, x0, x1, x2], ((hw.setCell (p := ⟨b, 0, none⟩) hb _).setCell (p := ⟨b, 1, none⟩) hb _).setCell (p := ⟨b, 2, none⟩) hb _⟩
/-- How Print ends. -/
def PrintEnd (k : Nat) (T : Tr) (w : World) (e : Ending) (w' : World) : Prop :=
  (∃ S a b, e = .returned (.agg #[.string (bs S), .int .i64 a, .int .i64 b]) ∧ (S = [] ∨ (S = txtT k T ∧ Fits k T ∧ S.length ≤ 255))) ∧ Below w.heap.size w w'

set_option maxRecDepth 100000 in
set_option maxHeartbeats 2000000 in
theorem print_v (k : Nat) (hk5 : k < 5) (T : Tr) (s : Value) (w : World) (hg : T.good symT) (hl : T.flat.length ≤ 31) (hf : ∀ x ∈ T.flat, fitT x) (hV : View w s T.flat) :
    Calls Tryz.prog 21 #[.int .i64 ((k : Int) + 1), s] w (PrintEnd k T w) := by
  have hm := good_may hg
  have hgg := hg
  have hask : ∀ x ∈ T.flat, Ask k x := fun x hx => (ask_of (hm x hx) (hf x hx)).1
  have hfit : ∀ x ∈ T.flat, saysS k x → FitS k x := fun x hx => (ask_of (hm x hx) (hf x hx)).2
  have hlt : ∀ x ∈ T.flat, x.text.length ≤ 9223372036854775807 := fun x hx => by have := (hask x hx).text; omega
  have hSo := fun sv W (h : View W sv T.flat) => rsound_any sv T.flat W h hlt (by omega)
  have hNe := fun sv W (h : View W sv T.flat) => rNest_any sv T.flat W h hlt (by omega)
  have hTx := fun sv W (h : View W sv T.flat) => text_x k hk5 T hg hl hask sv W h
  have hTo := fun pf a ha hpf W => rTold_v k pf a hk5 ha hpf W
  have hPl := fun t W ht => rplain_any ((k : Int) + 1) t W ht
  rw [tree_sound hg (by omega)] at hSo
  rw [nest_tree hg (by omega)] at hNe
  have hlen := txt_len hk5 T hg hask
  have zt : (bs (txtT k T)).size ≤ 40000 := by rw [bs_size]; omega
  have hki : (k : Int) < 5 := by omega
  have hk1 : ¬ (k : Int) + 1 < 1 := by omega
  have hk2 : ¬ 5 < (k : Int) + 1 := by omega
  obtain ⟨o, c, rfl, hc, hv⟩ := id hV
  have hci : (T.flat.length : Int) ≤ (c : Int) := by omega
  have hli : (T.flat.length : Int) ≤ 31 := by omega
  have hu : Below w.heap.size w (w.alloc (.cells #[.string ⟨#[]⟩, .int .i64 0, .int .i64 0] 55)) := by go_grown
  have hlt0 : w.heap.size < (w.alloc (.cells #[.string ⟨#[]⟩, .int .i64 0, .int .i64 0] 55)).heap.size := by rw [World.size_alloc]; omega
  have hX : PBox (w.alloc (.cells #[.string ⟨#[]⟩, .int .i64 0, .int .i64 0] 55)) w.heap.size := ⟨by simp [go_sem], by simp [go_sem], by simp [go_sem], fun j => by simp [go_sem]⟩
  have hV0 := hV.go hu
  clear hV hv
  go_enter Tryz.func21, Tryz.ntmps21
  go_wp2_with fail
  generalize w.alloc (.cells #[.string ⟨#[]⟩, .int .i64 0, .int .i64 0] 55) = W0 at *
  refine (hSo _ _ hV0).mono ?_
  rintro e W1 ⟨rfl, hb1⟩
  replace hX := hX.go hb1 hlt0
  have hlt1 : w.heap.size < W1.heap.size := by have := hb1.size; omega
  replace hV0 := hV0.go hb1
  replace hu := hu.trans (hb1.mono hu.size)
  have HM := Lib.hid hfit
  have HA := Lib.hid hask
  clear hb1 hSo hlt0 hfit hask hm hf hlt hg
  go_wp2_with fail
  go_loopw [6] (fun y wr => ∃ i : Nat, y = .int .i64 (i : Int) ∧ i ≤ T.flat.length ∧ Hid (∀ j, j < i → saysS k (T.flat.getD j default)) ∧ Below W1.heap.size W1 wr) (fun y _ => (T.flat.length - intOf y).toNat)
  case atStart => exact ⟨0, rfl, by omega, (fun j hj => by omega), Below.refl _ _⟩
  case round =>
    obtain ⟨i, rfl, hi, HJ, hB⟩ := hrel
    have hXr := hX.go hB hlt1
    have hVr := hV0.go hB
    have hur := hu.trans (hB.mono hu.size)
    by_cases hil : i < T.flat.length
    · have hii : (i : Int) < T.flat.length := by omega
      obtain ⟨o', c', e', _, hv⟩ := id hVr
      injection e' with e1 e2 e3
      clear e2
      subst e1 e3
      obtain ⟨b, off, rfl, a0, a1, a2, a3, a4, a5⟩ := hv i hil
      have hym : T.flat.getD i default ∈ T.flat := by
        rw [List.getD_eq_getElem?_getD, List.getElem?_eq_getElem hil]
        exact List.getElem_mem _
      have hAy := HA.out _ hym
      have HNX : Hid (saysS k (T.flat.getD i default) → ∀ j, j < i + 1 → saysS k (T.flat.getD j default)) := by
        intro h j hj
        rcases Nat.lt_succ_iff_lt_or_eq.1 hj with h' | rfl
        · exact HJ.out j h'
        · exact h
      clear hym HJ hv
      generalize T.flat.getD i default = y at *
      have hSy := Six.new wr y
      have hxu := alloc_own wr (.cells #[.int .i64 y.op, .int .i64 y.pf, .int .i64 y.atom, .int .i64 y.n, .int .i64 y.num, .string (bs y.text)] 47)
      have hlr : w.heap.size < wr.heap.size := by have := hB.size; omega
      have hXx := hXr.go hxu hlr
      have hBx := hB.trans (hxu.mono hB.size)
      have hux := hur.trans (hxu.mono hur.size)
      clear hXr hB hur hVr hV0 hX hu hlen zt HA HM hNe hTx
      by_cases h2 : y.op = 2
      · obtain ⟨⟨hp, ha⟩, -, -⟩ := hAy.sym h2
        have hT2 := fun W => hTo y.pf y.atom.toNat (by omega) hp W
        rw [show ((y.atom.toNat : Nat) : Int) = y.atom by omega] at hT2
        have HSY : Hid (toldS k y.pf y.atom = true → saysS k y) := fun h => ⟨fun _ => h, fun h' => by omega⟩
        have c0 := hSy.c0
        have hlx : w.heap.size < (wr.alloc (.cells #[.int .i64 y.op, .int .i64 y.pf, .int .i64 y.atom, .int .i64 y.n, .int .i64 y.num, .string (bs y.text)] 47)).heap.size := by have := hxu.size; omega
        rw [h2] at a0 c0 hxu hXx hBx hux hlx
        clear hTo hPl h2 hAy hSy hp ha
        generalize toldS k y.pf y.atom = tl at *
        go_wp2_with fail
        generalize wr.alloc (.cells #[.int .i64 2, .int .i64 y.pf, .int .i64 y.atom, .int .i64 y.n, .int .i64 y.num, .string (bs y.text)] 47) = Wx at *
        refine (hT2 _).mono ?_
        rintro e W3 ⟨rfl, hb3⟩
        have hX3 := hXx.go hb3 hlx
        have hB3 := hBx.trans (hb3.mono hBx.size)
        have hu3 := hux.trans (hb3.mono hux.size)
        have d0 := (hb3.cell (p := ⟨wr.heap.size, 0, none⟩) (cell_lt c0)).trans c0
        clear hb3 hXx hBx hux c0 hT2 hxu
        cases tl with
        | false =>
          clear HNX HSY hB3
          have HL := Lib.hid (hX3.laid (.string ⟨#[]⟩) (.int .i64 (i : Int)) (.int .i64 16) (Nat.le_refl _) hu3)
          obtain ⟨x0, x1, x2, xf⟩ := hX3
          have f0 := xf 0
          have f1 := xf 1
          have f2 := xf 2
          clear xf hu3
          go_wp2_with fail
          obtain ⟨l0, l1, l2, hB⟩ := HL.out
          refine bodyPost_ret (v := .agg #[.string ⟨#[]⟩, .int .i64 (i : Int), .int .i64 16]) (by simp [results, Tryz.results21, go_sem, l0, l1, l2]) rfl ⟨⟨[], _, _, rfl, .inl rfl⟩, hB⟩
        | true =>
          have HN := Lib.hid (HNX.out (HSY.out rfl))
          clear HNX hX3 hu3
          go_wp2_with fail
          exact ⟨⟨i + 1, by simp, by omega, HN, hB3⟩, by simp only [intOf]; omega⟩
      · by_cases h67 : y.op = 6 ∨ y.op = 7
        · have hP2 := fun W => hPl y.text W (by have := hAy.text; omega)
          have HSY : Hid (plainL (stZ ((k : Int) + 1)) y.text = true → saysS k y) := fun h => ⟨fun h' => absurd h' h2, fun _ => h⟩
          have c0 := hSy.c0
          have c5 := hSy.c5
          have hlx : w.heap.size < (wr.alloc (.cells #[.int .i64 y.op, .int .i64 y.pf, .int .i64 y.atom, .int .i64 y.n, .int .i64 y.num, .string (bs y.text)] 47)).heap.size := by have := hxu.size; omega
          clear hTo hPl h2 hAy hSy
          generalize plainL (stZ ((k : Int) + 1)) y.text = tl at *
          rcases h67 with h6 | h6
          all_goals
            rw [h6] at a0 c0 c5 hxu hXx hBx hux hlx
            clear h6
            go_wp2_with fail
            first | generalize wr.alloc (.cells #[.int .i64 6, .int .i64 y.pf, .int .i64 y.atom, .int .i64 y.n, .int .i64 y.num, .string (bs y.text)] 47) = Wx at * | skip
            first | generalize wr.alloc (.cells #[.int .i64 7, .int .i64 y.pf, .int .i64 y.atom, .int .i64 y.n, .int .i64 y.num, .string (bs y.text)] 47) = Wx at * | skip
            refine (hP2 _).mono ?_
            rintro e W3 ⟨rfl, hb3⟩
            have hX3 := hXx.go hb3 hlx
            have hB3 := hBx.trans (hb3.mono hBx.size)
            have hu3 := hux.trans (hb3.mono hux.size)
            clear hb3 hXx hBx hux c0 c5 hP2 hxu
            cases tl with
            | false =>
              clear HNX HSY hB3
              have HL := Lib.hid (hX3.laid (.string ⟨#[]⟩) (.int .i64 (i : Int)) (.int .i64 17) (Nat.le_refl _) hu3)
              obtain ⟨x0, x1, x2, xf⟩ := hX3
              have f0 := xf 0
              have f1 := xf 1
              have f2 := xf 2
              clear xf hu3
              go_wp2_with fail
              obtain ⟨l0, l1, l2, hB⟩ := HL.out
              refine bodyPost_ret (v := .agg #[.string ⟨#[]⟩, .int .i64 (i : Int), .int .i64 17]) (by simp [results, Tryz.results21, go_sem, l0, l1, l2]) rfl ⟨⟨[], _, _, rfl, .inl rfl⟩, hB⟩
            | true =>
              have HN := Lib.hid (HNX.out (HSY.out rfl))
              clear HNX hX3 hu3
              go_wp2_with fail
              exact ⟨⟨i + 1, by simp, by omega, HN, hB3⟩, by simp only [intOf]; omega⟩
        · have HSY : Hid (saysS k y) := ⟨fun h => absurd h h2, fun h => absurd h h67⟩
          have c0 := hSy.c0
          have t2 : (y.op != 2) = true := by simpa using h2
          have t6 : (y.op != 6) = true := by simp; omega
          have t7 : (y.op != 7) = true := by simp; omega
          have HN := Lib.hid (HNX.out HSY.out)
          clear hTo hPl h2 h67 hAy hSy HNX HSY hXx hux hxu
          go_wp2_with fail
          exact ⟨⟨i + 1, by simp, by omega, HN, hBx⟩, by simp only [intOf]; omega⟩
    · have hii : ¬ (i : Int) < T.flat.length := by omega
      have HFF : Hid (∀ x ∈ T.flat, FitS k x) := by
        intro x hx
        obtain ⟨j, hj⟩ := List.getElem?_of_mem hx
        have hjl := (List.getElem?_eq_some_iff.1 hj).1
        have := HJ.out j (by omega)
        rw [List.getD_eq_getElem?_getD, hj] at this
        exact HM.out x hx this
      have hN2 := hNe _ _ hVr
      have hnl := Trees.nest_lt T
      have hTx2 := fun W hW => hTx (.slice o T.flat.length c) W hW
      have hlr : w.heap.size < wr.heap.size := by have := hB.size; omega
      clear HJ HM HA hNe hTo hPl hTx hV0 hX hu hB
      by_cases h32 : 32 < T.nest
      · exfalso; omega
      · have h32i : ¬ (32 : Int) < (T.nest : Int) := by omega
        have HFit : Hid (Fits k T) := ⟨hk5, ⟨symT, hgg⟩, HFF.out, by omega⟩
        have hnb : (T.nest : Int) ≤ 31 := by omega
        clear HFF
        generalize T.nest = nn at *
        go_wp2_with fail
        refine hN2.mono ?_
        rintro e W3 ⟨rfl, hb3⟩
        have hX3 := hXr.go hb3 hlr
        have hu3 := hur.trans (hb3.mono hur.size)
        have hl3 : w.heap.size < W3.heap.size := by have := hb3.size; omega
        have hT3 := hTx2 W3 (hVr.go hb3)
        clear hN2 hXr hur hb3 hVr hTx2
        go_wp2_with fail
        refine hT3.mono ?_
        rintro e W4 ⟨rfl, hb4⟩
        replace hX3 := hX3.go hb4 hl3
        replace hu3 := hu3.trans (hb4.mono hu3.size)
        have hzi : ((bs (txtT k T)).size : Int) = ((txtT k T).length : Int) := by rw [bs_size]
        clear hb4 hT3
        have HTT : Hid (txtT k T = txtT k T) := rfl
        by_cases h255 : 255 < (txtT k T).length
        · have h255i : (255 : Int) < ((txtT k T).length : Int) := by omega
          clear HFit HTT
          generalize txtT k T = S at *
          have HL := Lib.hid (hX3.laid (.string ⟨#[]⟩) (.int .i64 0) (.int .i64 12) (Nat.le_refl _) hu3)
          obtain ⟨x0, x1, x2, xf⟩ := hX3
          have f0 := xf 0
          have f1 := xf 1
          have f2 := xf 2
          clear xf hu3
          go_wp2_with fail
          obtain ⟨l0, l1, l2, hB⟩ := HL.out
          refine bodyPost_ret (v := .agg #[.string ⟨#[]⟩, .int .i64 0, .int .i64 12]) (by simp [results, Tryz.results21, go_sem, l0, l1, l2]) rfl ⟨⟨[], _, _, rfl, .inl rfl⟩, hB⟩
        · have h255i : ¬ (255 : Int) < ((txtT k T).length : Int) := by omega
          have HEnd : Hid (∀ W, Below w.heap.size w W → PrintEnd k T w (.returned (.agg #[.string (bs (txtT k T)), .int .i64 0, .int .i64 0])) W) := fun W hW => ⟨⟨txtT k T, _, _, rfl, .inr ⟨rfl, HFit.out, by omega⟩⟩, hW⟩
          clear HFit HTT
          generalize txtT k T = S at *
          have HL := Lib.hid (hX3.laid (.string (bs S)) (.int .i64 0) (.int .i64 0) (Nat.le_refl _) hu3)
          obtain ⟨x0, x1, x2, xf⟩ := hX3
          have f0 := xf 0
          have f1 := xf 1
          have f2 := xf 2
          clear xf hu3
          go_wp2_with fail
          obtain ⟨l0, l1, l2, hB⟩ := HL.out
          exact bodyPost_ret (v := .agg #[.string (bs S), .int .i64 0, .int .i64 0]) (by simp [results, Tryz.results21, go_sem, l0, l1, l2]) rfl (HEnd.out _ hB)

end Go.Proofs.YthofogokpolhdaaGreatDoor.Parses

namespace Go.Proofs.YthofogokpolhdaaGreatDoor.Parses
open Go.RowKit Go.Shelf
open Go.Proofs.YthofogokpolhdaaGreatDoor.Trees (Stp Tr View symT fitT IV MadeEnd made_x nest_lt)
open Go.Proofs.YthofogokpolhdaaGreatDoor.Style (bs bs_size bs_app)
open Go.Proofs.YthofogokpolhdaaGreatDoor.Toks (cell_lt cell_same)
set_option linter.unusedVariables false
set_option linter.unusedSimpArgs false

/-- A text of a tree by numbers, or none. -/
def TextS (k : Nat) (S : List UInt8) : Prop := S = [] ∨ ∃ T, S = txtT k T ∧ Fits k T ∧ S.length ≤ 255 ∧ T.nest ≤ 30 ∧ T.good symT ∧ T.flat.length ≤ 31
theorem fldP (a b c : Value) (w : World) : (Instr.field 55 (.agg #[a, b, c]) 0).run Tryz.prog w = .ok a w := by kernel_rfl

set_option maxRecDepth 100000 in
set_option maxHeartbeats 1000000 in
theorem ltext_v (k : Nat) (hk5 : k < 5) (s : Value) (l : List Int) (w : World) (hV : IV w s l) (hl : l.length ≤ 9223372036854775807) :
    Calls Tryz.prog 12 #[.int .i64 (1 + (k : Int)), s] w fun e w' => (∃ S, e = .returned (.string (bs S)) ∧ TextS k S) ∧ Below w.heap.size w w' := by
  have hM := made_x s l w hV hl
  have hf := fldP
  obtain ⟨o, c, rfl, hc, _⟩ := hV
  have hkc : 1 + (k : Int) = (k : Int) + 1 := by omega
  rw [hkc]
  clear hkc hc hl
  go_enter Tryz.func12, Tryz.ntmps12
  go_wp2_with fail
  refine hM.mono ?_
  rintro e w1 ⟨t, s1, rfl, hg, hl, hfi, hst, hab, hb1⟩
  have hP := print_v k hk5 t s1 w1 hg hl hfi hst.view
  have hn := nest_lt t
  have HG := Lib.hid (And.intro hg hl)
  clear hM hst hab hfi hg hl
  go_wp2_with fail
  refine hP.mono ?_
  rintro e w2 ⟨⟨S, a, b, rfl, hS⟩, hb2⟩
  have hB := hb1.trans (hb2.mono hb1.size)
  have HS : Hid (TextS k S) := by
    rcases hS with h | ⟨h1, h2, h3⟩
    · exact .inl h
    · exact .inr ⟨t, h1, h2, h3, by have := HG.out.2; omega, HG.out.1, HG.out.2⟩
  clear hP hS hb1 hb2 HG
  go_wp2_with fail
  go_ret
  exact ⟨⟨S, rfl, HS.out⟩, hB⟩

end Go.Proofs.YthofogokpolhdaaGreatDoor.Parses


/-
  Contract of tree.above. The stack of shapes: plain mathematics, and as a row in memory. Contract of tree.Nest. Contract of tree.Parts. Contracts of the law's rest and sym, of the document's Loose, In, Next. Contract of Next of the document's Row. Contract of the document's Same of steps. Contract of tree.Nest. Contract of the law's awake. What leaves all blocks but one; appends to rows of steps; numbers taken one by one.
-/
import Derived.Test.YthofogokpolhdaaGreatDoorUBX
import Derived.Test.YthofogokpolhdaaGreatDoorUEX
import Derived.Test.YthofogokpolhdaaGreatDoorUJX
import Derived.StillTailTactics
namespace Go.Proofs.YthofogokpolhdaaGreatDoor.Trees
open Go.RowKit Go.Shelf
open Go.Proofs.YthofogokpolhdaaGreatDoor.Style (bs bs_size bs_at getD_at bs_of)
open Go.Proofs.YthofogokpolhdaaGreatDoor.Toks (cell_lt cell_same)
set_option linter.unusedVariables false
set_option linter.unusedSimpArgs false

/-- How deep a side stands: the last one with its brackets. -/
def sideZ (op : Int) (S : List (Int × Nat)) (i : Nat) : Nat := (S.getD i (0, 0)).2 + (if i + 1 = S.length then inZ op (S.getD i (0, 0)).1 else 0)
def upD (op : Int) (S : List (Int × Nat)) : Nat → Nat
  | 0 => 0
  | k + 1 => max (upD op S k) (sideZ op S k)
theorem up_none (op : Int) : upD op [] 0 = 0 := rfl
theorem up_one (op : Int) (a : Int × Nat) : upD op [a] 1 = a.2 + inZ op a.1 := by simp [upD, sideZ]
theorem up_two (op : Int) (a b : Int × Nat) : upD op [a, b] 2 = max a.2 (b.2 + inZ op b.1) := by simp [upD, sideZ]
/-- The value s is a slice that reads as these shapes. -/
def ShView (w : World) (s : Value) (S : List (Int × Nat)) : Prop :=
  ∃ o c, s = .slice o S.length c ∧ S.length ≤ c ∧ ∀ i, i < S.length → ∃ b off, o = some ⟨b, off, none⟩ ∧
    w.cell? ⟨b, off + i * 2, none⟩ = some (.int .i64 (S.getD i (0, 0)).1) ∧ w.cell? ⟨b, off + i * 2 + 1, none⟩ = some (.int .i64 ((S.getD i (0, 0)).2 : Int))
theorem ShView.go {w w' : World} {s : Value} {S : List (Int × Nat)} (h : ShView w s S) (hb : Below w.heap.size w w') : ShView w' s S := by
  obtain ⟨o, c, e, hc, h⟩ := h
  refine ⟨o, c, e, hc, fun i hi => ?_⟩
  obtain ⟨b, off, eo, c0, c1⟩ := h i hi
  exact ⟨b, off, eo, (hb.cell (p := ⟨b, _, none⟩) (cell_lt c0)).trans c0, (hb.cell (p := ⟨b, _, none⟩) (cell_lt c0)).trans c1⟩

/-- While above goes: the result's box, the shape's. -/
structure AbI (w W : World) (op : Int) (d : Nat) : Prop where
  r0 : W.cell? ⟨w.heap.size, 0, none⟩ = some (.int .i64 0)
  r1 : W.cell? ⟨w.heap.size, 1, none⟩ = some (.int .i64 0)
  rf : ∀ j, W.frozen? ⟨w.heap.size, j, none⟩ = false
  o0 : W.cell? ⟨w.heap.size + 1, 0, none⟩ = some (.int .i64 op)
  o1 : W.cell? ⟨w.heap.size + 1, 1, none⟩ = some (.int .i64 (d : Int))
  of : ∀ j, W.frozen? ⟨w.heap.size + 1, j, none⟩ = false
  below : Below w.heap.size w W
theorem AbI.go {w W W' : World} {op : Int} {d : Nat} (h : AbI w W op d) (hb : Below W.heap.size W W') : AbI w W' op d :=
  ⟨(hb.cell (p := ⟨w.heap.size, 0, none⟩) (cell_lt h.r0)).trans h.r0, (hb.cell (p := ⟨w.heap.size, 1, none⟩) (cell_lt h.r0)).trans h.r1, fun j => (hb.frozen (p := ⟨w.heap.size, j, none⟩) (cell_lt h.r0)).trans (h.rf j), (hb.cell (p := ⟨w.heap.size + 1, 0, none⟩) (cell_lt h.o0)).trans h.o0, (hb.cell (p := ⟨w.heap.size + 1, 1, none⟩) (cell_lt h.o0)).trans h.o1, fun j => (hb.frozen (p := ⟨w.heap.size + 1, j, none⟩) (cell_lt h.o0)).trans (h.of j), h.below.trans (hb.mono h.below.size)⟩
theorem AbI.new (w : World) (op : Int) : AbI w ((w.alloc (.cells #[.int .i64 0, .int .i64 0] 94)).alloc (.cells #[.int .i64 op, .int .i64 0] 94)) op 0 :=
  ⟨by simp [go_sem], by simp [go_sem], fun j => by simp [go_sem], by simp [go_sem], by simp [go_sem], fun j => by simp [go_sem], by go_grown⟩
theorem AbI.deep {w W : World} {op : Int} {d : Nat} (h : AbI w W op d) (e : Nat) : AbI w (W.setCell ⟨w.heap.size + 1, 1, none⟩ (.int .i64 (e : Int))) op e := by
  obtain ⟨r0, r1, rf, o0, o1, of, hb⟩ := h
  refine ⟨by simp [go_sem, r0], by simp [go_sem, r1], fun j => by rw [World.frozen?_setCell]; exact rf j, by simp [go_sem, o0], by simp [go_sem, o1], fun j => by rw [World.frozen?_setCell]; exact of j, hb.setCell (p := ⟨w.heap.size + 1, 1, none⟩) (by show w.heap.size ≤ w.heap.size + 1; omega) _⟩
theorem AbI.other {w W : World} {op : Int} {d : Nat} (h : AbI w W op d) (b j : Nat) (u : Value) (hb1 : w.heap.size + 1 < b) : AbI w (W.setCell ⟨b, j, none⟩ u) op d := by
  obtain ⟨r0, r1, rf, o0, o1, of, hb⟩ := h
  have n1 : ∀ i, (⟨b, j, none⟩ : Addr) ≠ ⟨w.heap.size, i, none⟩ := fun i hh => by injection hh with e1; omega
  have n2 : ∀ i, (⟨b, j, none⟩ : Addr) ≠ ⟨w.heap.size + 1, i, none⟩ := fun i hh => by injection hh with e1; omega
  refine ⟨by rw [World.cell?_setCell_other _ _ _ _ (n1 0)]; exact r0, by rw [World.cell?_setCell_other _ _ _ _ (n1 1)]; exact r1, fun j' => by rw [World.frozen?_setCell]; exact rf j', by rw [World.cell?_setCell_other _ _ _ _ (n2 0)]; exact o0, by rw [World.cell?_setCell_other _ _ _ _ (n2 1)]; exact o1, fun j' => by rw [World.frozen?_setCell]; exact of j', hb.setCell (p := ⟨b, j, none⟩) (by show w.heap.size ≤ b; omega) _⟩

set_option maxRecDepth 100000 in
set_option maxHeartbeats 2000000 in
theorem above_any (op : Int) (s : Value) (S : List (Int × Nat)) (w : World) (hV : ShView w s S) (hl : S.length ≤ 2) (hd : ∀ x ∈ S, x.2 ≤ 1000) :
    Calls Tryz.prog 45 #[.int .i64 op, s] w fun e w' => e = .returned (.agg #[.int .i64 op, .int .i64 (upD op S S.length : Int)]) ∧ Below w.heap.size w w' := by
  obtain ⟨o, c, rfl, hlc, hv⟩ := id hV
  have hli : (S.length : Int) ≤ 2 := by omega
  have hB := fun (x : Int) (W : World) => brk_any op x W
  have hI0 := AbI.new w op
  go_enter Tryz.func45, Tryz.ntmps45
  go_wp2_with fail
  generalize ((w.alloc (.cells #[.int .i64 0, .int .i64 0] 94)).alloc (.cells #[.int .i64 op, .int .i64 0] 94)) = W0 at *
  go_loopw [6, 7, 12] (fun x y z wr => ∃ i : Nat, z = .int .i64 (i : Int) ∧ i ≤ S.length ∧ AbI w wr op (upD op S i) ∧ upD op S i ≤ 1001) (fun _ _ z _ => (S.length - intOf z).toNat)
  case atStart => exact ⟨0, rfl, by omega, hI0, by simp [upD]⟩
  case round =>
    clear hI0
    obtain ⟨i, rfl, hi, hI, hu1⟩ := hrel
    by_cases hil : i < S.length
    · have hii : (i : Int) < S.length := by omega
      obtain ⟨o', c', e', hc', hv'⟩ := hV.go hI.below
      obtain ⟨b, off, eo, v0, v1⟩ := hv' i hil
      injection e' with e1 e2 e3
      subst e1 e3
      subst eo
      have hx : (S.getD i (0, 0)).2 ≤ 1000 := hd _ (by rw [List.getD_eq_getElem?_getD, List.getElem?_eq_getElem hil]; exact List.getElem_mem _)
      have hup : upD op S (i + 1) = max (upD op S i) ((S.getD i (0, 0)).2 + (if i + 1 = S.length then inZ op (S.getD i (0, 0)).1 else 0)) := rfl
      obtain ⟨⟨xo, xd⟩, hxe⟩ : ∃ x, S.getD i (0, 0) = x := ⟨_, rfl⟩
      rw [hxe] at hx hup v0 v1
      simp only at hx hup v0 v1
      have hHU := Lib.hid hup
      clear hup hxe hv' hv hV
      have hu2 : Below wr.heap.size wr (wr.alloc (.cells #[.int .i64 xo, .int .i64 (xd : Int)] 94)) := (Below.refl _ _).alloc (Nat.le_refl _) _
      have hoz := cell_lt hI.o0
      have hI2 := hI.go hu2
      have s0 : (wr.alloc (.cells #[.int .i64 xo, .int .i64 (xd : Int)] 94)).cell? ⟨wr.heap.size, 0, none⟩ = some (.int .i64 xo) := by simp [go_sem]
      have s1 : (wr.alloc (.cells #[.int .i64 xo, .int .i64 (xd : Int)] 94)).cell? ⟨wr.heap.size, 1, none⟩ = some (.int .i64 (xd : Int)) := by simp [go_sem]
      have sf1 : (wr.alloc (.cells #[.int .i64 xo, .int .i64 (xd : Int)] 94)).frozen? ⟨wr.heap.size, 1, none⟩ = false := by simp [go_sem]
      clear hI hu2
      generalize upD op S i = d at *
      go_upto_region 5 with fail
      generalize wr.alloc (.cells #[.int .i64 xo, .int .i64 (xd : Int)] 94) = W2 at *
      generalize wr.heap.size = sb at *
      clear v0 v1
      by_cases hlast : i + 1 = S.length
      · have hq : ((i : Int) == (S.length : Int) - 1) = true := by simp; omega
        have hin : inZ op xo = if brkZ op xo = true then 1 else 0 := rfl
        have HL : Hid (upD op S (i + 1) = max d (xd + inZ op xo)) := by
          show _ = _
          rw [hHU.out, if_pos hlast]
        clear hHU
        have hBx := hB xo
        have HIN := Lib.hid hin
        clear hin
        generalize brkZ op xo = bk at *
        go_wp2_with fail
        refine (hBx W2).mono ?_
        rintro e W3 ⟨rfl, rfl⟩
        cases bk with
        | true =>
          have HIN2 : Hid (inZ op xo = 1) := HIN.out
          have hI3 := hI2.other sb 1 (.int .i64 ((xd : Int) + 1)) (by omega)
          have hne1 : ¬ sb = w.heap.size + 1 := by omega
          have hne2 : ¬ w.heap.size + 1 = sb := by omega
          have hl1 : upD op S (i + 1) = max d (xd + 1) := by rw [HL.out, HIN2.out]
          replace HL := Lib.hid hl1
          have s2 := World.cell?_setCell_same W2 ⟨sb, 1, none⟩ (.int .i64 ((xd : Int) + 1)) s1
          clear hl1 HIN HIN2
          go_upto_region 7 with fail
          generalize W2.setCell ⟨sb, 1, none⟩ (.int .i64 ((xd : Int) + 1)) = W3 at *
          clear s0 s1 sf1 hI2
          have q1 := hI3.o1
          have qf := hI3.of 1
          by_cases hmx : d < xd + 1
          · have hmi : (d : Int) < (xd : Int) + 1 := by omega
            have hD := hI3.deep (xd + 1)
            have HLE : Hid (upD op S (i + 1) = xd + 1) := by show _ = _; rw [HL.out]; omega
            go_wp2_with fail
            refine ⟨⟨i + 1, by simp, by omega, ?_, by rw [HLE.out]; omega⟩, by simp only [intOf]; omega⟩
            rw [HLE.out]
            exact hD
          · have hmi : ¬ (d : Int) < (xd : Int) + 1 := by omega
            have hmi2 : (xd : Int) + 1 ≤ (d : Int) := by omega
            have hD := hI3.deep d
            have HLE : Hid (upD op S (i + 1) = d) := by show _ = _; rw [HL.out]; omega
            go_wp2_with fail
            refine ⟨⟨i + 1, by simp, by omega, ?_, by rw [HLE.out]; omega⟩, by simp only [intOf]; omega⟩
            rw [HLE.out]
            exact hD
        | false =>
          have HIN2 : Hid (inZ op xo = 0) := HIN.out
          have hl1 : upD op S (i + 1) = max d xd := by rw [HL.out, HIN2.out, Nat.add_zero]
          replace HL := Lib.hid hl1
          clear hl1 HIN HIN2
          have q1 := hI2.o1
          have qf := hI2.of 1
          by_cases hmx : d < xd
          · have hmi : (d : Int) < (xd : Int) := by omega
            have hD := hI2.deep (xd)
            have HLE : Hid (upD op S (i + 1) = xd) := by show _ = _; rw [HL.out]; omega
            go_wp2_with fail
            refine ⟨⟨i + 1, by simp, by omega, ?_, by rw [HLE.out]; omega⟩, by simp only [intOf]; omega⟩
            rw [HLE.out]
            exact hD
          · have hmi : ¬ (d : Int) < (xd : Int) := by omega
            have hmi2 : (xd : Int) ≤ (d : Int) := by omega
            have hD := hI2.deep d
            have HLE : Hid (upD op S (i + 1) = d) := by show _ = _; rw [HL.out]; omega
            go_wp2_with fail
            refine ⟨⟨i + 1, by simp, by omega, ?_, by rw [HLE.out]; omega⟩, by simp only [intOf]; omega⟩
            rw [HLE.out]
            exact hD
      · have hq : ((i : Int) == (S.length : Int) - 1) = false := by simp; omega
        have HL : Hid (upD op S (i + 1) = max d xd) := by
          show _ = _
          rw [hHU.out, if_neg hlast, Nat.add_zero]
        clear hHU
        have q1 := hI2.o1
        have qf := hI2.of 1
        by_cases hmx : d < xd
        · have hmi : (d : Int) < (xd : Int) := by omega
          have hD := hI2.deep (xd)
          have HLE : Hid (upD op S (i + 1) = xd) := by show _ = _; rw [HL.out]; omega
          go_wp2_with fail
          refine ⟨⟨i + 1, by simp, by omega, ?_, by rw [HLE.out]; omega⟩, by simp only [intOf]; omega⟩
          rw [HLE.out]
          exact hD
        · have hmi : ¬ (d : Int) < (xd : Int) := by omega
          have hmi2 : (xd : Int) ≤ (d : Int) := by omega
          have hD := hI2.deep d
          have HLE : Hid (upD op S (i + 1) = d) := by show _ = _; rw [HL.out]; omega
          go_wp2_with fail
          refine ⟨⟨i + 1, by simp, by omega, ?_, by rw [HLE.out]; omega⟩, by simp only [intOf]; omega⟩
          rw [HLE.out]
          exact hD
    · have hii : ¬ (i : Int) < S.length := by omega
      have hie : i = S.length := by omega
      subst hie
      obtain ⟨r0, r1, rf, o0, o1, of, hbl⟩ := id hI
      have f0 := rf 0
      have f1 := rf 1
      obtain ⟨d, hd0⟩ : ∃ d, upD op S S.length = d := ⟨_, rfl⟩
      rw [hd0] at o1
      have HUD := Lib.hid hd0
      clear hd0
      go_wp2_with fail
      have x0 : ((wr.setCell ⟨w.heap.size, 0, none⟩ (.int .i64 op)).setCell ⟨w.heap.size, 1, none⟩ (.int .i64 (d : Int))).cell? ⟨w.heap.size, 0, none⟩ = some (.int .i64 op) := by simp [go_sem, r0]
      have x1 : ((wr.setCell ⟨w.heap.size, 0, none⟩ (.int .i64 op)).setCell ⟨w.heap.size, 1, none⟩ (.int .i64 (d : Int))).cell? ⟨w.heap.size, 1, none⟩ = some (.int .i64 (d : Int)) := by simp [go_sem, r1]
      have hX := (hbl.setCell (p := ⟨w.heap.size, 0, none⟩) (Nat.le_refl _) (.int .i64 op)).setCell (p := ⟨w.heap.size, 1, none⟩) (Nat.le_refl _) (.int .i64 (d : Int))
      generalize (wr.setCell ⟨w.heap.size, 0, none⟩ (.int .i64 op)).setCell ⟨w.heap.size, 1, none⟩ (.int .i64 (d : Int)) = X at *
      refine bodyPost_ret (v := .agg #[.int .i64 op, .int .i64 (d : Int)]) (by simp [results, Tryz.results45, go_sem, x0, x1]) rfl ⟨?_, hX⟩
      rw [HUD.out]

end Go.Proofs.YthofogokpolhdaaGreatDoor.Trees

namespace Go.Proofs.YthofogokpolhdaaGreatDoor.Trees
open Go.RowKit Go.Shelf
open Go.Proofs.YthofogokpolhdaaGreatDoor.Style (bs bs_size bs_at getD_at bs_of)
open Go.Proofs.YthofogokpolhdaaGreatDoor.Toks (cell_lt cell_same Grid SliceAt Spare Above append_any Elem elem_of flat flat_length flat_get wpList_app one_slice)
set_option linter.unusedVariables false
set_option linter.unusedSimpArgs false

/-- One step on the stack, as it lies: the last one last. -/
def pushZ (op : Int) (M : List (Int × Nat)) : List (Int × Nat) := M.take (M.length - takesZ op) ++ [(op, upD op (M.drop (M.length - takesZ op)) (M.drop (M.length - takesZ op)).length)]
theorem push_shapes (x : Stp) (M : List (Int × Nat)) (h : takesZ x.op ≤ M.length) : shapesZ [x] M.reverse = (pushZ x.op M).reverse := by
  have ht := takes_le x.op
  rcases (by omega : takesZ x.op = 0 ∨ takesZ x.op = 1 ∨ takesZ x.op = 2) with e | e | e
  · unfold pushZ
    simp only [shapesZ, e, Nat.sub_zero, List.drop_length, List.take_length, List.length_nil, up_none, List.reverse_append, List.reverse_cons, List.reverse_nil, List.nil_append, List.cons_append]
  · rcases List.eq_nil_or_concat M with rfl | ⟨M', a, rfl⟩
    · simp [e] at h
    · rw [List.concat_eq_append]
      unfold pushZ
      rw [e]
      have h1 : (M' ++ [a]).length - 1 = M'.length := by simp
      rw [h1, List.drop_left', List.take_left']
      · simp only [shapesZ, e, List.length_cons, List.length_nil, List.reverse_append, List.reverse_cons, List.reverse_nil, List.nil_append, List.cons_append, Nat.zero_add, Nat.reduceAdd, up_one]
      · rfl
      · rfl
  · obtain ⟨M', a, b, rfl⟩ := last_two M (by omega)
    unfold pushZ
    rw [e]
    have h1 : (M' ++ [a, b]).length - 2 = M'.length := by simp
    rw [h1, List.drop_left', List.take_left']
    · simp only [shapesZ, e, List.length_cons, List.length_nil, List.reverse_append, List.reverse_cons, List.reverse_nil, List.nil_append, List.cons_append, Nat.zero_add, Nat.reduceAdd, up_two]
    · rfl
    · rfl
theorem up_le (op : Int) (S : List (Int × Nat)) (B : Nat) (h : ∀ x ∈ S, x.2 ≤ B) : ∀ k, k ≤ S.length → upD op S k ≤ B + 1
  | 0, _ => by simp [upD]
  | k + 1, hk => by
    have h1 := up_le op S B h k (by omega)
    have h2 : (S.getD k (0, 0)).2 ≤ B := h _ (by rw [List.getD_eq_getElem?_getD, List.getElem?_eq_getElem (by omega)]; exact List.getElem_mem _)
    have h3 : inZ op (S.getD k (0, 0)).1 ≤ 1 := by unfold inZ; split <;> omega
    simp only [upD, sideZ]
    split <;> omega
theorem push_le (op : Int) (M : List (Int × Nat)) (B : Nat) (h : ∀ x ∈ M, x.2 ≤ B) : ∀ x ∈ pushZ op M, x.2 ≤ B + 1 := by
  intro x hx
  unfold pushZ at hx
  rcases List.mem_append.1 hx with h1 | h1
  · have := h x (List.mem_of_mem_take h1); omega
  · simp only [List.mem_cons, List.not_mem_nil, or_false] at h1
    subst h1
    exact up_le op _ B (fun y hy => h y (List.mem_of_mem_drop hy)) _ (Nat.le_refl _)
theorem push_length (op : Int) (M : List (Int × Nat)) (h : takesZ op ≤ M.length) : (pushZ op M).length = M.length - takesZ op + 1 := by
  unfold pushZ
  rw [List.length_append, List.length_take]
  simp only [List.length_cons, List.length_nil]
  omega

def cellH (M : List (Int × Nat)) (i j : Nat) : Value := if j = 0 then .int .i64 (M.getD i (0, 0)).1 else .int .i64 ((M.getD i (0, 0)).2 : Int)
theorem elem_shape : Elem 92 94 2 := elem_of (b := 16) (by omega) (by omega) (by kernel_rfl) (by kernel_rfl)
theorem cell_oneH (M : List (Int × Nat)) : ∀ i, i < M.length → ∀ j, j < 2 → (cellH M i j).oneCell' = true := by
  intro i hi j hj
  unfold cellH
  split <;> rfl
/-- The slice s holds these shapes, apart from what was there. -/
structure StkI (B : Nat) (w1 : World) (s : Value) (M : List (Int × Nat)) (W : World) : Prop where
  at_ : SliceAt W s 2 M.length (cellH M)
  above : Above B s
  below : Below B w1 W
theorem StkI.go {B : Nat} {w1 : World} {s : Value} {M : List (Int × Nat)} {W W' : World} (h : StkI B w1 s M W) (hB : B ≤ W.heap.size) (hb : Below W.heap.size W W') : StkI B w1 s M W' := ⟨SliceAt.go h.at_ hb, h.above, h.below.trans (hb.mono hB)⟩
/-- What stands from a place on, as it is read. -/
theorem StkI.part {B : Nat} {w1 : World} {o : Option Addr} {c n k : Nat} {M : List (Int × Nat)} {W : World} (h : StkI B w1 (.slice o n c) M W) (hn : M.length = n) (hk : k ≤ n) :
    ShView W (.slice (if c = k then o else o.map (·.add (k * 2))) (n - k) (c - k)) (M.drop k) := by
  have hl : (M.drop k).length = n - k := by rw [List.length_drop, hn]
  rcases h.at_ with ⟨h0, e⟩ | ⟨b, c', e, hc, hm, hg⟩
  · injection e with e1 e2 e3
    refine ⟨_, _, by rw [hl], by rw [hl]; omega, fun i hi => ?_⟩
    rw [hl] at hi; omega
  · injection e with e1 e2 e3
    subst e1 e3
    refine ⟨_, _, by rw [hl], by rw [hl]; omega, fun i hi => ?_⟩
    rw [hl] at hi
    rw [if_neg (by omega)]
    refine ⟨b, k * 2, by simp [Addr.add_mid], ?_⟩
    have hd : (M.drop k).getD i (0, 0) = M.getD (k + i) (0, 0) := by rw [List.getD_eq_getElem?_getD, List.getD_eq_getElem?_getD, List.getElem?_drop]
    have g := hg.1 (k + i) (by omega)
    rw [hd]
    have g0 := g 0 (by omega)
    have g1 := g 1 (by omega)
    rw [Nat.add_mul] at g0 g1
    exact ⟨g0, g1⟩
/-- One comes in the place of the last ones. -/
theorem StkI.push {B : Nat} {w1 : World} {o : Option Addr} {c k : Nat} {M : List (Int × Nat)} {W : World} (h : StkI B w1 (.slice o M.length c) M W) (hB : B ≤ W.heap.size) (hl : M.length ≤ 1000) (hk : k ≤ M.length) (x : Int × Nat) :
    ∃ V o' c', (∀ ty, (Builtin.append_ #[92, 92] ty #[.slice o k c, .slice (some ⟨W.heap.size, 0, none⟩) 1 1]).run Tryz.prog (W.alloc (.cells #[.int .i64 x.1, .int .i64 (x.2 : Int)] 94)) = .ok (.slice o' (k + 1) c') V) ∧ StkI B w1 (.slice o' (k + 1) c') (M.take k ++ [x]) V ∧ (∀ D, D < W.heap.size → (∀ a, o = some a → a.block ≠ D) → V.heap[D]? = W.heap[D]?) := by
  have hu : Below W.heap.size W (W.alloc (.cells #[.int .i64 x.1, .int .i64 (x.2 : Int)] 94)) := (Below.refl _ _).alloc (Nat.le_refl _) _
  have hzz : (W.alloc (.cells #[.int .i64 x.1, .int .i64 (x.2 : Int)] 94)).heap.size = W.heap.size + 1 := World.size_alloc _ _
  have hlk : (M.take k).length = k := by rw [List.length_take]; omega
  have hA : SliceAt W (.slice o k c) 2 k (cellH (M.take k)) := by
    have hgd : ∀ i, i < k → (M.take k).getD i (0, 0) = M.getD i (0, 0) := fun i hi => by rw [List.getD_eq_getElem?_getD, List.getD_eq_getElem?_getD, List.getElem?_take_of_lt hi]
    rcases h.at_ with ⟨h0, e⟩ | ⟨b, c', e, hc, hm, hg⟩
    · injection e with e1 e2 e3
      have : k = 0 := by omega
      subst this
      exact .inl ⟨rfl, by rw [e1, e3]⟩
    · injection e with e1 e2 e3
      subst e1 e3
      exact .inr ⟨b, c, rfl, by omega, hm, (hg.short hk).ext (fun i hi j hj => by unfold cellH; rw [hgd i hi])⟩
  have hcs : ∀ j, j < 2 → (#[.int .i64 x.1, .int .i64 (x.2 : Int)] : Array Value)[j]? = some (cellH [x] 0 j) := by
    intro j hj
    match j, hj with
    | 0, _ => rfl
    | 1, _ => rfl
  obtain ⟨V, s, hr, hj⟩ := append_any (w := W.alloc (.cells #[.int .i64 x.1, .int .i64 (x.2 : Int)] 94)) elem_shape (SliceAt.go hA hu) (fun i hi j hj => cell_oneH (M.take k) i (by rw [hlk]; exact hi) j hj) (Toks.SliceAt.source elem_shape (one_slice W 94 2 _ (cellH [x]) hcs rfl) (cell_oneH [x])) (by omega) (.inl (by omega))
  have hat : SliceAt V s 2 (M.take k ++ [x]).length (cellH (M.take k ++ [x])) := by
    rw [List.length_append, hlk]
    refine Toks.SliceAt.ext hj.rows (fun i hi j hj => ?_)
    unfold Toks.both cellH
    by_cases h1 : i < k
    · rw [if_pos h1, List.getD_eq_getElem?_getD (l := M.take k ++ [x]), List.getElem?_append_left (by rw [hlk]; exact h1), ← List.getD_eq_getElem?_getD]
    · rw [if_neg h1, List.getD_eq_getElem?_getD (l := M.take k ++ [x]), List.getElem?_append_right (by rw [hlk]; omega), hlk, ← List.getD_eq_getElem?_getD]
  rcases hj.way with ⟨c', rfl, hb⟩ | ⟨b, c', e1, rfl, rfl⟩
  · refine ⟨V, _, _, hr, ⟨hat, ?_, h.below.trans ((hu.trans (hb.mono (by omega))).mono hB)⟩, fun D hD _ => (hb.block D (by omega)).trans (hu.block D hD)⟩
    intro a n c e
    injection e with e
    injection e with e
    subst e
    show B ≤ (W.alloc (.cells #[.int .i64 x.1, .int .i64 (x.2 : Int)] 94)).heap.size
    omega
  · injection e1 with e1 e2 e3
    subst e1
    have hab : B ≤ b := h.above _ _ _ rfl
    refine ⟨_, _, _, hr, ⟨hat, ?_, h.below.trans ((hu.mono hB).trans ((Toks.only_cells b _ _ _ _ (Toks.Only.refl _ _)).below hab))⟩, fun D hD hn => ((Toks.only_cells b _ _ _ _ (Toks.Only.refl b _)).block D (fun e => hn _ rfl e.symm)).trans (hu.block D hD)⟩
    intro a n c e
    injection e with e
    injection e with e
    subst e
    exact hab

end Go.Proofs.YthofogokpolhdaaGreatDoor.Trees

namespace Go.Proofs.YthofogokpolhdaaGreatDoor.Trees
open Go.RowKit Go.Shelf
open Go.Proofs.YthofogokpolhdaaGreatDoor.Style (bs bs_size bs_at getD_at bs_of)
open Go.Proofs.YthofogokpolhdaaGreatDoor.Toks (cell_lt cell_same Grid SliceAt Spare Above wpList_app)
set_option linter.unusedVariables false
set_option linter.unusedSimpArgs false

/-- The stack is as high as there are trees. -/
theorem shapes_length (ok : Int → Int → Bool) : ∀ (L : List Stp) (k m : Nat) (S : List (Int × Nat)), S.length = k → cntZ ok L k = some m → (shapesZ L S).length = m
  | [], k, m, S, h, e => by injection e with e; rw [← e, ← h]; rfl
  | x :: r, k, m, S, h, e => by
    simp only [cntZ] at e
    split at e
    · rename_i hc
      simp only [shapesZ]
      refine shapes_length ok r _ m _ ?_ e
      have h1 := push_shapes x S.reverse (by rw [List.length_reverse]; omega)
      rw [List.reverse_reverse] at h1
      simp only [shapesZ] at h1
      rw [h1, List.length_reverse, push_length _ _ (by rw [List.length_reverse]; omega), List.length_reverse, h]
    · cases e
/-- The stack behind so many steps, as it lies. -/
def stkZ (L : List Stp) (i : Nat) : List (Int × Nat) := (shapesZ (L.take i) []).reverse
theorem stk_next {L : List Stp} {i : Nat} (hi : i < L.length) (h : takesZ (L.getD i default).op ≤ (stkZ L i).length) : stkZ L (i + 1) = pushZ (L.getD i default).op (stkZ L i) := by
  have hx : L.getD i default = L[i] := by rw [List.getD_eq_getElem?_getD, List.getElem?_eq_getElem hi]; rfl
  rw [hx] at h ⊢
  unfold stkZ at h ⊢
  rw [List.take_succ_eq_append_getElem hi, shapes_app]
  have := push_shapes L[i] (shapesZ (L.take i) []).reverse h
  rw [List.reverse_reverse] at this
  rw [this, List.reverse_reverse]

end Go.Proofs.YthofogokpolhdaaGreatDoor.Trees

namespace Go.Proofs.YthofogokpolhdaaGreatDoor.Trees
open Go.RowKit Go.Shelf
open Go.Proofs.YthofogokpolhdaaGreatDoor.Style (bs bs_size bs_at getD_at bs_of)
open Go.Proofs.YthofogokpolhdaaGreatDoor.Toks (cell_lt cell_same SliceAt Above)
set_option linter.unusedVariables false
set_option linter.unusedSimpArgs false

theorem sound_pos {ok : Int → Int → Bool} {L : List Stp} (h : soundZ ok L = true) : 1 ≤ L.length ∧ L.length ≤ 255 := by
  obtain ⟨t, _, rfl, hl⟩ := sound_tree h
  exact ⟨flat_pos t, hl⟩
theorem sound_two {ok : Int → Int → Bool} {L : List Stp} (h : soundZ ok L = true) (h2 : takesZ (L.getD (L.length - 1) default).op = 2) : cutZ (L.take (L.length - 1)) < L.length - 1 := by
  obtain ⟨t, hg, rfl, hl⟩ := sound_tree h
  have hlast : t.flat.getD (t.flat.length - 1) default = t.top := by
    rw [← flat_last t, List.getLastD_eq_getLast?, List.getLast?_eq_getElem?, List.getD_eq_getElem?_getD]
  rw [hlast] at h2
  cases t with
  | leaf x => have := hg.2; simp only [Tr.top] at h2; omega
  | one x a => have := hg.1.2; simp only [Tr.top] at h2; omega
  | two x a b =>
    have e : (Tr.two x a b).flat.take ((Tr.two x a b).flat.length - 1) = a.flat ++ b.flat := by
      simp only [Tr.flat]
      rw [List.length_append, List.length_cons, List.length_nil, Nat.add_sub_cancel, List.take_left']
      rfl
    rw [e, cut_two a.flat hg.2.2]
    have := flat_pos b
    simp only [Tr.flat, List.length_append, List.length_cons, List.length_nil]
    omega
theorem last_getD (L : List Stp) : L.getLastD default = L.getD (L.length - 1) default := by
  rw [List.getLastD_eq_getLast?, List.getLast?_eq_getElem?, List.getD_eq_getElem?_getD]

theorem StepsAt.go {w w' : World} {s : Value} {L : List Stp} (h : StepsAt w s L) (hb : Below w.heap.size w w') : StepsAt w' s L := SliceAt.go h hb
theorem slice_rest (b off n c k : Nat) (hk : k < n) (hc : n ≤ c) (W : World) : (Instr.slice 34 (.slice (some ⟨b, off, none⟩) n c) (some (.int .i64 (k : Int))) none none).run Tryz.prog W = .ok (.slice (some ⟨b, off + k * 6, none⟩) (n - k) (c - k)) W := by
  have hs : (sizeOf (Tryz.prog.elem 34)).run Tryz.prog W = .ok 6 W := by kernel_rfl
  rw [run_slice_l (P := Tryz.prog) (w := W) 34 (some ⟨b, off, none⟩) n c (by kernel_rfl) .i64 (k : Int) (by omega) (by omega), hs]
  show Result.ok (sliced _ _ _ _ _) W = _
  unfold sliced
  rw [if_neg (by omega)]
  simp [Addr.add_mid]
/-- While Parts goes. -/
structure PaI (w W : World) (b off n c : Nat) (L : List Stp) (xo : Int) : Prop where
  view : View W (.slice (some ⟨b, off, none⟩) n c) (L.take n)
  below : Below w.heap.size w W
  u0 : W.cell? ⟨b, off + n * 6, none⟩ = some (.int .i64 xo)
theorem PaI.go {w W W' : World} {b off n c : Nat} {L : List Stp} {xo : Int} (h : PaI w W b off n c L xo) (hb : Below W.heap.size W W') : PaI w W' b off n c L xo :=
  ⟨h.view.go hb, h.below.trans (hb.mono h.below.size), (hb.cell (p := ⟨b, off + n * 6, none⟩) (cell_lt h.u0)).trans h.u0⟩
theorem PaI.drew {w W : World} {b off n c : Nat} {L : List Stp} {xo : Int} (h : PaI w W b off n c L xo) : PaI w W.drew b off n c L xo := h.go (Below.refl _ _).drew

end Go.Proofs.YthofogokpolhdaaGreatDoor.Trees

namespace Go.Proofs.YthofogokpolhdaaGreatDoor.Trees
open Go.RowKit Go.Shelf
open Go.Proofs.YthofogokpolhdaaGreatDoor.Style (bs bs_size bs_at getD_at bs_of)
open Go.Proofs.YthofogokpolhdaaGreatDoor.Toks (cell_lt cell_same)
set_option linter.unusedVariables false
set_option linter.unusedSimpArgs false

def restN (x : Int) (n : Nat) : Nat := (x % (n : Int)).toNat
theorem restN_lt (x : Int) (n : Nat) (h : 0 < n) : restN x n < n := by
  have h1 := Int.emod_lt_of_pos x (show (0 : Int) < n by omega)
  have h2 := Int.emod_nonneg x (show (n : Int) ≠ 0 by omega)
  unfold restN; omega
theorem rest_eq (x n : Int) : (x.tmod n + n) % n = x % n := by
  have h := Int.mul_tdiv_add_tmod x n
  rw [Int.add_emod_right]
  calc x.tmod n % n = (x.tmod n + n * x.tdiv n) % n := by rw [Int.add_mul_emod_self_left]
    _ = x % n := by rw [Int.add_comm, h]

/-- Brackets stand around what has that last step, on the right, whatever it is of. -/
def looseZ (op : Int) : Bool := decide (op = 3 ∨ op = 4 ∨ op = 5)
set_option maxRecDepth 100000 in
set_option maxHeartbeats 2000000 in
theorem loose_any (s : Value) (L : List Stp) (w : World) (hV : View w s L) (h0 : 1 ≤ L.length) (hl : L.length ≤ 100000) :
    Calls Tryz.prog 93 #[s] w fun e w' => e = .returned (.bool (looseZ (L.getD (L.length - 1) default).op)) ∧ Below w.heap.size w w' := by
  obtain ⟨o, c, rfl, hlc, hv⟩ := hV
  obtain ⟨n, hn⟩ : ∃ n, L.length = n + 1 := ⟨L.length - 1, by omega⟩
  obtain ⟨b, off, rfl, v0, _⟩ := hv n (by omega)
  rw [show L.length - 1 = n by omega]
  have hni : (n : Int) ≤ 100000 := by omega
  have hnn : ((n + 1 : Nat) : Int) = (n : Int) + 1 := by omega
  clear hv
  rw [hn]
  generalize (L.getD n default).op = op at *
  unfold looseZ
  by_cases h3 : op = 3
  · subst h3; go_enter Tryz.func93, Tryz.ntmps93; go_wp2; go_ret; exact ⟨by first | rfl | simp, by first | exact Below.refl _ _ | go_grown⟩
  by_cases h4 : op = 4
  · subst h4; go_enter Tryz.func93, Tryz.ntmps93; go_wp2; go_ret; exact ⟨by first | rfl | simp, by first | exact Below.refl _ _ | go_grown⟩
  by_cases h5 : op = 5
  · subst h5; go_enter Tryz.func93, Tryz.ntmps93; go_wp2; go_ret; exact ⟨by first | rfl | simp, by first | exact Below.refl _ _ | go_grown⟩
  have e3 : (op == 3) = false := by simpa using h3
  have e4 : (op == 4) = false := by simpa using h4
  have e5 : (op == 5) = false := by simpa using h5
  rw [decide_eq_false (by omega)]
  go_enter Tryz.func93, Tryz.ntmps93
  go_wp2
  go_ret
  exact ⟨by first | rfl | simp, by first | exact Below.refl _ _ | go_grown⟩

end Go.Proofs.YthofogokpolhdaaGreatDoor.Trees

namespace Go.Proofs.YthofogokpolhdaaGreatDoor.Trees
open Go.RowKit Go.Shelf
open Go.Proofs.YthofogokpolhdaaGreatDoor.Style (bs bs_size)
open Go.Proofs.YthofogokpolhdaaGreatDoor.Toks (cell_lt cell_same)
set_option linter.unusedVariables false
set_option linter.unusedSimpArgs false

/-- Numbers that are taken one by one: k are taken. -/
structure RowAt (W : World) (rb : Nat) (l : List Int) (k : Nat) : Prop where
  row : ∃ o c, W.cell? ⟨rb, 0, none⟩ = some (.slice o l.length c) ∧ l.length ≤ c ∧ ∀ i, i < l.length → ∃ b off, o = some ⟨b, off, none⟩ ∧ b < rb ∧ W.cell? ⟨b, off + i, none⟩ = some (.int .i64 (l.getD i 0))
  at_ : W.cell? ⟨rb, 1, none⟩ = some (.int .i64 (k : Int))
  fz : W.frozen? ⟨rb, 1, none⟩ = false
theorem RowAt.go {W W' : World} {rb : Nat} {l : List Int} {k : Nat} (h : RowAt W rb l k) (hb : Below W.heap.size W W') : RowAt W' rb l k := by
  obtain ⟨⟨o, c, h0, hc, hv⟩, h1, h2⟩ := h
  refine ⟨⟨o, c, (hb.cell (p := ⟨rb, 0, none⟩) (cell_lt h0)).trans h0, hc, fun i hi => ?_⟩, (hb.cell (p := ⟨rb, 1, none⟩) (cell_lt h0)).trans h1, (hb.frozen (p := ⟨rb, 1, none⟩) (cell_lt h0)).trans h2⟩
  obtain ⟨b, off, e, hn, hx⟩ := hv i hi
  exact ⟨b, off, e, hn, (hb.cell (p := ⟨b, _, none⟩) (cell_lt hx)).trans hx⟩
theorem RowAt.other {W : World} {rb : Nat} {l : List Int} {k : Nat} (h : RowAt W rb l k) (b j : Nat) (u : Value) (hn : rb < b) : RowAt (W.setCell ⟨b, j, none⟩ u) rb l k := by
  obtain ⟨⟨o, c, h0, hc, hv⟩, h1, h2⟩ := h
  refine ⟨⟨o, c, ?_, hc, fun i hi => ?_⟩, ?_, by rw [World.frozen?_setCell]; exact h2⟩
  · rw [World.cell?_setCell_other _ _ _ _ (by intro hh; injection hh with e1; omega)]; exact h0
  · obtain ⟨b', off, e, hn', hx⟩ := hv i hi
    exact ⟨b', off, e, hn', by rw [World.cell?_setCell_other _ _ _ _ (by intro hh; injection hh with e1; omega)]; exact hx⟩
  · rw [World.cell?_setCell_other _ _ _ _ (by intro hh; injection hh with e1; omega)]; exact h1
/-- What comes next, and how many are taken then. -/
def nextN (l : List Int) (k n : Nat) : Nat := if k < l.length then restN (l.getD k 0) n else 0
def nextK (l : List Int) (k : Nat) : Nat := if k < l.length then k + 1 else k

set_option maxRecDepth 100000 in
set_option maxHeartbeats 2000000 in
theorem next_any (rb : Nat) (l : List Int) (k n : Nat) (w : World) (hR : RowAt w rb l k) (hk : k ≤ l.length) (hl : l.length ≤ 1000) (hn : 1 ≤ n) (hn2 : n ≤ 1000000) (hI : ∀ i, i < l.length → -9223372036854775808 ≤ l.getD i 0 ∧ l.getD i 0 ≤ 9223372036854775807) :
    Calls Tryz.prog 63 #[.pointer (some ⟨rb, 0, none⟩), .int .i64 (n : Int)] w fun e w' => e = .returned (.int .i64 (nextN l k n : Int)) ∧ RowAt w' rb l (nextK l k) ∧ Toks.Only rb w w' := by
  obtain ⟨⟨o, c, h0, hc, hv⟩, h1, h2⟩ := id hR
  have hli : (l.length : Int) ≤ 1000 := by omega
  unfold nextN nextK
  by_cases hlt : k < l.length
  · rw [if_pos hlt, if_pos hlt]
    obtain ⟨b, off, rfl, hne, hx⟩ := hv k hlt
    have hi := hI k hlt
    have hki : (k : Int) < l.length := by omega
    have hkn : ¬ (l.length : Int) ≤ k := by omega
    generalize l.getD k 0 = x at *
    have hn0 : (0 : Int) < n := by omega
    have hnn : ¬ (n : Int) = 0 := by omega
    have hle : (n : Int) ≤ 1000000 := by omega
    have hl1 : -(n : Int) < x.tmod n := Int.lt_tmod_of_pos x hn0
    have hr1 : x.tmod n < n := Int.tmod_lt_of_pos x hn0
    have HE := Lib.hid (rest_eq x n)
    have HN : Hid (((restN x n : Nat) : Int) = x % (n : Int)) := by
      show _ = _
      have := Int.emod_nonneg x hnn
      unfold restN; omega
    go_enter Tryz.func63, Tryz.ntmps63
    go_wp2_with fail
    go_quiet (fail)
    have w0 : (w.drewN nq).cell? ⟨rb, 0, none⟩ = some (.slice (some ⟨b, off, none⟩) l.length c) := h0
    have w1 : (w.drewN nq).cell? ⟨rb, 1, none⟩ = some (.int .i64 (k : Int)) := h1
    have w2 : (w.drewN nq).frozen? ⟨rb, 1, none⟩ = false := h2
    have wx : (w.drewN nq).cell? ⟨b, off + k, none⟩ = some (.int .i64 x) := hx
    have hR1 : RowAt (w.drewN nq) rb l k := hR.go (draws_n w nq)
    have hO1 : Toks.Only rb w (w.drewN nq) := ⟨rfl, rfl, rfl, rfl, fun _ _ => rfl⟩
    generalize w.drewN nq = W at *
    clear h0 h1 h2 hx hR
    have hq0 : ∃ q : Int, (k : Int) + 1 = q := ⟨_, rfl⟩
    have y0 : (W.setCell ⟨rb, 1, none⟩ (.int .i64 ((k : Int) + 1))).cell? ⟨rb, 0, none⟩ = some (.slice (some ⟨b, off, none⟩) l.length c) := by simp [go_sem, w0]
    have y1 : (W.setCell ⟨rb, 1, none⟩ (.int .i64 ((k : Int) + 1))).cell? ⟨rb, 1, none⟩ = some (.int .i64 ((k : Int) + 1)) := World.cell?_setCell_same _ _ _ w1
    have y2 : (W.setCell ⟨rb, 1, none⟩ (.int .i64 ((k : Int) + 1))).frozen? ⟨rb, 1, none⟩ = false := by rw [World.frozen?_setCell]; exact w2
    have yv : ∀ i, i < l.length → ∃ b' off', (some ⟨b, off, none⟩ : Option Addr) = some ⟨b', off', none⟩ ∧ b' < rb ∧ (W.setCell ⟨rb, 1, none⟩ (.int .i64 ((k : Int) + 1))).cell? ⟨b', off' + i, none⟩ = some (.int .i64 (l.getD i 0)) := by
      intro i hi
      obtain ⟨o', c', e0, _, hv2⟩ := hR1.row
      rw [w0] at e0
      injection e0 with e0
      injection e0 with e0 _ _
      obtain ⟨b', off', eo, hne', hx'⟩ := hv2 i hi
      refine ⟨b', off', e0.trans eo, hne', ?_⟩
      rw [World.cell?_setCell_other _ _ _ _ (by intro hh; injection hh with e1; omega)]
      exact hx'
    have yx : (W.setCell ⟨rb, 1, none⟩ (.int .i64 ((k : Int) + 1))).cell? ⟨b, off + k, none⟩ = some (.int .i64 x) := by
      rw [World.cell?_setCell_other _ _ _ _ (by intro hh; injection hh with e1; omega)]
      exact wx
    have hR2 : RowAt (W.setCell ⟨rb, 1, none⟩ (.int .i64 ((k : Int) + 1))) rb l (k + 1) := ⟨⟨_, c, y0, hc, yv⟩, by simpa using y1, y2⟩
    have hO2 := hO1.set 1 (.int .i64 ((k : Int) + 1))
    go_wp2_with fail
    generalize W.setCell ⟨rb, 1, none⟩ (.int .i64 ((k : Int) + 1)) = W2 at *
    have hw1 : IntKind.i64.wrap ((k : Int) + 1 - 1) = (k : Int) := by unfold IntKind.wrap; simp [IntKind.bits, IntKind.signed]; omega
    have hw2 : IntKind.i64.wrap (x.tmod n + n) = x.tmod n + n := by unfold IntKind.wrap; simp [IntKind.bits, IntKind.signed]; omega
    clear w0 w1 w2 wx hR1 hO1 hv yv hI y2 hq0
    go_quiet (fail)
    go_wp2_with fail
    have hO3 : Toks.Only rb w (W2.drewN nq) := ⟨hO2.os, hO2.tape, hO2.output, hO2.size, hO2.block⟩
    have hR3 : RowAt (W2.drewN nq) rb l (k + 1) := hR2.go (draws_n W2 nq)
    go_ret
    exact ⟨by rw [HE.out, HN.out]; rfl, hR3, hO3⟩
  · rw [if_neg hlt, if_neg hlt]
    have hkn : (l.length : Int) ≤ k := by omega
    go_enter Tryz.func63, Tryz.ntmps63
    go_wp2_with fail
    go_quiet (fail)
    have hR1 : RowAt (w.drewN nq) rb l k := hR.go (draws_n w nq)
    have hO1 : Toks.Only rb w (w.drewN nq) := ⟨rfl, rfl, rfl, rfl, fun _ _ => rfl⟩
    generalize w.drewN nq = W at *
    go_wp2_with fail
    go_ret
    exact ⟨rfl, hR1, hO1⟩

def textN (m : Nat) : List UInt8 := [[120], [97, 32, 98], [], [49, 45, 50], [35]].getD m []
set_option maxRecDepth 100000 in
set_option maxHeartbeats 2000000 in
theorem text_any (rb : Nat) (l : List Int) (k : Nat) (w : World) (hR : RowAt w rb l k) (hk : k ≤ l.length) (hl : l.length ≤ 1000) (hI : ∀ i, i < l.length → -9223372036854775808 ≤ l.getD i 0 ∧ l.getD i 0 ≤ 9223372036854775807) :
    Calls Tryz.prog 65 #[.pointer (some ⟨rb, 0, none⟩)] w fun e w' => e = .returned (.string (bs (textN (nextN l k 5)))) ∧ RowAt w' rb l (nextK l k) ∧ ∃ w1, Below w.heap.size w w1 ∧ Toks.Only rb w1 w' := by
  have hN := fun W h => next_any rb l k 5 W h hk hl (by omega) (by omega) hI
  have h5 : nextN l k 5 < 5 := by unfold nextN; split; exact restN_lt _ _ (by omega); omega
  generalize nextN l k 5 = m at *
  obtain ⟨o, c, h0, _⟩ := hR.row
  have hrb := cell_lt h0
  have hu : Below w.heap.size w (w.alloc (.cells #[.string (bs [120]), .string (bs [97, 32, 98]), .string (bs []), .string (bs [49, 45, 50]), .string (bs [35])] 131)) := by go_grown
  have hR1 := hR.go hu
  have t0 : (w.alloc (.cells #[.string (bs [120]), .string (bs [97, 32, 98]), .string (bs []), .string (bs [49, 45, 50]), .string (bs [35])] 131)).cell? ⟨w.heap.size, 0, none⟩ = some (.string (bs [120])) := by simp [go_sem]
  have t1 : (w.alloc (.cells #[.string (bs [120]), .string (bs [97, 32, 98]), .string (bs []), .string (bs [49, 45, 50]), .string (bs [35])] 131)).cell? ⟨w.heap.size, 1, none⟩ = some (.string (bs [97, 32, 98])) := by simp [go_sem]
  have t2 : (w.alloc (.cells #[.string (bs [120]), .string (bs [97, 32, 98]), .string (bs []), .string (bs [49, 45, 50]), .string (bs [35])] 131)).cell? ⟨w.heap.size, 2, none⟩ = some (.string (bs [])) := by simp [go_sem]
  have t3 : (w.alloc (.cells #[.string (bs [120]), .string (bs [97, 32, 98]), .string (bs []), .string (bs [49, 45, 50]), .string (bs [35])] 131)).cell? ⟨w.heap.size, 3, none⟩ = some (.string (bs [49, 45, 50])) := by simp [go_sem]
  have t4 : (w.alloc (.cells #[.string (bs [120]), .string (bs [97, 32, 98]), .string (bs []), .string (bs [49, 45, 50]), .string (bs [35])] 131)).cell? ⟨w.heap.size, 4, none⟩ = some (.string (bs [35])) := by simp [go_sem]
  go_enter Tryz.func65, Tryz.ntmps65
  go_wp2_with fail
  change Calls _ _ _ (w.alloc (.cells #[.string (bs [120]), .string (bs [97, 32, 98]), .string (bs []), .string (bs [49, 45, 50]), .string (bs [35])] 131)) _
  generalize w.alloc (.cells #[.string (bs [120]), .string (bs [97, 32, 98]), .string (bs []), .string (bs [49, 45, 50]), .string (bs [35])] 131) = W1 at *
  refine (hN W1 hR1).mono ?_
  rintro e W2 ⟨rfl, hR2, hO⟩
  have hb := hO.block w.heap.size (by omega)
  replace t0 := cell_same t0 hb
  replace t1 := cell_same t1 hb
  replace t2 := cell_same t2 hb
  replace t3 := cell_same t3 hb
  replace t4 := cell_same t4 hb
  clear hN hR hR1 hb hrb h0 hI
  rcases (by omega : m = 0 ∨ m = 1 ∨ m = 2 ∨ m = 3 ∨ m = 4) with rfl | rfl | rfl | rfl | rfl
  all_goals
    go_wp2_with fail
    go_ret
    exact ⟨rfl, hR2, W1, hu, hO⟩

end Go.Proofs.YthofogokpolhdaaGreatDoor.Trees

namespace Go.Proofs.YthofogokpolhdaaGreatDoor.Trees
open Go.RowKit Go.Shelf
open Go.Proofs.YthofogokpolhdaaGreatDoor.Style (bs bs_size)
open Go.Proofs.YthofogokpolhdaaGreatDoor.Toks (cell_lt cell_same)
set_option linter.unusedVariables false
set_option linter.unusedSimpArgs false

theorem same_take {A B : List Stp} {i : Nat} (hA : i < A.length) (hB : i < B.length) (h : A.take i = B.take i) : (A.take (i + 1) = B.take (i + 1)) ↔ A.getD i default = B.getD i default := by
  rw [List.take_succ_eq_append_getElem hA, List.take_succ_eq_append_getElem hB, h, List.getD_eq_getElem?_getD, List.getD_eq_getElem?_getD, List.getElem?_eq_getElem hA, List.getElem?_eq_getElem hB]
  show _ ↔ A[i] = B[i]
  constructor
  · intro e
    have := List.append_cancel_left e
    injection this
  · intro e
    rw [e]

set_option maxRecDepth 100000 in
set_option maxHeartbeats 2000000 in
theorem same_any (sa sb : Value) (A B : List Stp) (w : World) (hA : View w sa A) (hB : View w sb B) (hl : A.length ≤ 100000) (hl2 : B.length ≤ 100000) :
    Calls Tryz.prog 19 #[sa, sb] w fun e w' => e = .returned (.bool (decide (A = B))) ∧ Below w.heap.size w w' := by
  obtain ⟨oa, ca, rfl, hca⟩ := hA.slice
  obtain ⟨ob, cb, rfl, hcb⟩ := hB.slice
  have hli : (A.length : Int) ≤ 100000 := by omega
  have hli2 : (B.length : Int) ≤ 100000 := by omega
  by_cases hlen : A.length = B.length
  · obtain ⟨R, hR⟩ : ∃ R, decide (A = B) = R := ⟨_, rfl⟩
    rw [hR]
    have HR := Lib.hid hR
    clear hR
    rw [← hlen] at hcb
    have HB2 : Hid (View w (.slice ob A.length cb) B ∧ B.length = A.length) := ⟨by rw [hlen]; exact hB, hlen.symm⟩
    rw [← hlen]
    clear hB hli2 hl2 hlen
    go_enter Tryz.func19, Tryz.ntmps19
    go_wp2_with fail
    go_loopw [5] (fun x wr => ∃ i : Nat, x = .int .i64 (i : Int) ∧ i ≤ A.length ∧ Hid (A.take i = B.take i) ∧ Below w.heap.size w wr) (fun x _ => (A.length - intOf x).toNat)
    case atStart => exact ⟨0, rfl, by omega, by show _ = _; rfl, Below.refl _ _⟩
    case round =>
      obtain ⟨i, rfl, hi, HJ, hW⟩ := hrel
      by_cases hil : i < A.length
      · have hii : (i : Int) < A.length := by omega
        obtain ⟨o1, c1, e1, _, hv1⟩ := hA.go hW
        obtain ⟨b1, f1, eo1, u0, u1, u2, u3, u4, u5⟩ := hv1 i hil
        obtain ⟨o2, c2, e2, _, hv2⟩ := HB2.out.1.go hW
        obtain ⟨b2, f2, eo2, v0, v1, v2, v3, v4, v5⟩ := hv2 i (by rw [HB2.out.2]; exact hil)
        injection e1 with e1 _ e3
        subst e1 e3
        subst eo1
        rw [HB2.out.2] at e2
        injection e2 with e2 _ e4
        subst e2 e4
        subst eo2
        have hst := same_take hil (by rw [HB2.out.2]; exact hil) HJ.out
        clear hv1 hv2
        obtain ⟨x, hx⟩ : ∃ x, A.getD i default = x := ⟨_, rfl⟩
        obtain ⟨y, hy⟩ : ∃ y, B.getD i default = y := ⟨_, rfl⟩
        rw [hx] at u0 u1 u2 u3 u4 u5 hst
        rw [hy] at v0 v1 v2 v3 v4 v5 hst
        have hxy := eqS_iff x y
        unfold eqS at hxy
        obtain ⟨x0, x1, x2, x3, x4, x5⟩ := x
        obtain ⟨y0, y1, y2, y3, y4, y5⟩ := y
        simp only at u0 u1 u2 u3 u4 u5 v0 v1 v2 v3 v4 v5 hxy
        have HST := Lib.hid hst
        clear hst hx hy
        cases e : decide ((⟨x0, x1, x2, x3, x4, x5⟩ : Stp) = ⟨y0, y1, y2, y3, y4, y5⟩) with
        | true =>
          have heq := of_decide_eq_true e
          rw [e] at hxy
          have HJ2 : Hid (A.take (i + 1) = B.take (i + 1)) := HST.out.2 heq
          clear HST HJ e heq
          have hnx : ∀ W : World, (binOp BinOp.neq 47 (.agg #[.int .i64 x0, .int .i64 x1, .int .i64 x2, .int .i64 x3, .int .i64 x4, .string (bs x5)]) (.agg #[.int .i64 y0, .int .i64 y1, .int .i64 y2, .int .i64 y3, .int .i64 y4, .string (bs y5)])).run Tryz.prog W = .ok (.bool false) W := fun W => by rw [nev_step, hxy]; rfl
          clear hxy
          go_wp2_with fail
          go_quiet (fail)
          go_wp2_with fail
          exact ⟨⟨i + 1, by simp, by omega, HJ2, hW.trans ((draws_n _ _).mono hW.size)⟩, by simp only [intOf]; omega⟩
        | false =>
          have hne := of_decide_eq_false e
          rw [e] at hxy
          have HRf : Hid (false = R) := by
            show _ = _
            rw [← HR.out, decide_eq_false]
            intro h
            exact hne (HST.out.1 (by rw [h]))
          clear HST HJ e hne
          have hnx : ∀ W : World, (binOp BinOp.neq 47 (.agg #[.int .i64 x0, .int .i64 x1, .int .i64 x2, .int .i64 x3, .int .i64 x4, .string (bs x5)]) (.agg #[.int .i64 y0, .int .i64 y1, .int .i64 y2, .int .i64 y3, .int .i64 y4, .string (bs y5)])).run Tryz.prog W = .ok (.bool true) W := fun W => by rw [nev_step, hxy]; rfl
          clear hxy
          go_wp2_with fail
          go_quiet (fail)
          go_wp2_with fail
          go_ret
          exact ⟨by rw [← HRf.out]; rfl, hW.trans ((draws_n _ _).mono hW.size)⟩
      · have hii : ¬ (i : Int) < A.length := by omega
        have HRt : Hid (true = R) := by
          show _ = _
          rw [← HR.out, decide_eq_true]
          have := HJ.out
          rw [List.take_of_length_le (by omega), List.take_of_length_le (by rw [HB2.out.2]; omega)] at this
          exact this
        go_wp2_with fail
        go_ret
        exact ⟨by rw [← HRt.out]; rfl, hW⟩
  · have hne : ((A.length : Int) == (B.length : Int)) = false := by simp; omega
    have hd : decide (A = B) = false := decide_eq_false (fun h => hlen (by rw [h]))
    rw [hd]
    have hlen2 : ¬ (A.length : Int) = B.length := by omega
    clear hA hB
    go_enter Tryz.func19, Tryz.ntmps19
    go_wp2_with fail
    go_ret
    exact ⟨rfl, Below.refl _ _⟩

end Go.Proofs.YthofogokpolhdaaGreatDoor.Trees

namespace Go.Proofs.YthofogokpolhdaaGreatDoor.Trees
open Go.RowKit Go.Shelf
open Go.Proofs.YthofogokpolhdaaGreatDoor.Style (bs bs_size bs_at getD_at bs_of)
open Go.Proofs.YthofogokpolhdaaGreatDoor.Toks (cell_lt cell_same Grid SliceAt Spare Above wpList_app)
set_option linter.unusedVariables false
set_option linter.unusedSimpArgs false

/-- While Nest goes: the box of the step. -/
structure NsI (w W : World) (xb : Nat) (op : Int) : Prop where
  below : Below w.heap.size w W
  q0 : W.cell? ⟨xb, 0, none⟩ = some (.int .i64 op)
theorem NsI.go {w W W' : World} {xb : Nat} {op : Int} (h : NsI w W xb op) (hb : Below W.heap.size W W') : NsI w W' xb op := ⟨h.below.trans (hb.mono h.below.size), (hb.cell (p := ⟨xb, 0, none⟩) (cell_lt h.q0)).trans h.q0⟩
theorem NsI.drew {w W : World} {xb : Nat} {op : Int} (h : NsI w W xb op) : NsI w W.drew xb op := h.go (Below.refl _ _).drew
theorem cnt_pre {ok : Int → Int → Bool} {L : List Stp} {m : Nat} (h : cntZ ok L 0 = some m) (i : Nat) : ∃ k, cntZ ok (L.take i) 0 = some k := by
  cases e : cntZ ok (L.take i) 0 with
  | some k => exact ⟨k, rfl⟩
  | none => rw [cnt_stop e] at h; cases h
theorem slice_part (o : Option Addr) (n c k : Nat) (hk : k ≤ n) (W : World) : (Instr.slice 92 (.slice o n c) (some (.int .i64 (k : Int))) none none).run Tryz.prog W = .ok (.slice (if c = k then o else o.map (·.add (k * 2))) (n - k) (c - k)) W := by
  have hs : (sizeOf (Tryz.prog.elem 92)).run Tryz.prog W = .ok 2 W := by kernel_rfl
  rw [run_slice_l (P := Tryz.prog) (w := W) 92 o n c (by kernel_rfl) .i64 (k : Int) (by omega) (by omega), hs]
  show Result.ok (sliced _ _ _ _ _) W = _
  unfold sliced
  simp
theorem slice_first (o : Option Addr) (n c k : Nat) (hk : k ≤ c) (W : World) : (Instr.slice 92 (.slice o n c) none (some (.int .i64 (k : Int))) none).run Tryz.prog W = .ok (.slice o k c) W := by
  have hs : (sizeOf (Tryz.prog.elem 92)).run Tryz.prog W = .ok 2 W := by kernel_rfl
  rw [run_slice_h (P := Tryz.prog) (w := W) 92 o n c (by kernel_rfl) .i64 (k : Int) (by omega) (by omega), hs]
  show Result.ok (sliced _ _ _ _ _) W = _
  unfold sliced
  rw [Nat.zero_mul, Nat.sub_zero, Nat.sub_zero, Int.toNat_natCast]
  have h0 : (if c = 0 then o else o.map (·.add 0)) = o := by
    cases o with
    | none => simp
    | some a => simp [Addr.add_zero']
  rw [h0]

theorem step_app {P : Program} {ops : Array Oper} {o : Oper} {a : Act} {w : World} {K : Act → World → Prop} {Q : Exit → Act → World → Prop} {E : Prop}
    (hg : o.guard = none) (s x : Operand) (t tx : TypeId) (ho : o.op = .call { callee := .builtin .append, args := #[s, x], argTypes := #[t, tx] }) {v : Value} {V : World}
    (hr : ∀ ty, (Builtin.append_ #[t, tx] ty #[a.eval s, a.eval x]).run P w = .ok v V) (hK : K (a.put o.dst v) V) :
    if Region.wanted o (yielded ops a.tmps) = true then Oper.wp P o a w K Q else E := by
  have hw : Region.wanted o (yielded ops a.tmps) = true := by simp [Region.wanted, hg]
  rw [if_pos hw]
  unfold Oper.wp execOp
  simp only [ho, resolve, invoke, builtin, Sem.run_bind, Sem.run_pure, Result.andThen_ok, List.map_toArray, List.map_cons, List.map_nil, hr]
  exact hK
theorem push_hid {B : Nat} {w1 : World} {o : Option Addr} {c k : Nat} {M : List (Int × Nat)} {W W' : World} (h : StkI B w1 (.slice o M.length c) M W) (hb : Below W.heap.size W W') (hk : k ≤ M.length) (hl : M.length ≤ 1000) (x : Int × Nat) {xb : Nat} {u : Value} (hq : W'.cell? ⟨xb, 0, none⟩ = some u) (hx : w1.heap.size = B) (ho : ∀ a, o = some a → a.block < xb) :
    ∃ V o' c', Hid ((∀ ty, (Builtin.append_ #[92, 92] ty #[.slice o k c, .slice (some ⟨W'.heap.size, 0, none⟩) 1 1]).run Tryz.prog (W'.alloc (.cells #[.int .i64 x.1, .int .i64 (x.2 : Int)] 94)) = .ok (.slice o' (k + 1) c') V) ∧ StkI B w1 (.slice o' (k + 1) c') (M.take k ++ [x]) V) ∧ (W'.alloc (.cells #[.int .i64 x.1, .int .i64 (x.2 : Int)] 94)).cell? ⟨xb, 0, none⟩ = some u ∧ V.cell? ⟨xb, 0, none⟩ = some u := by
  subst hx
  have h7 := h.go h.below.size hb
  obtain ⟨V, o', c', hr, hK, hD⟩ := h7.push (k := k) h7.below.size hl hk x
  exact ⟨V, o', c', ⟨hr, hK⟩, (((Below.refl _ _).alloc (Nat.le_refl _) _).cell (p := ⟨xb, 0, none⟩) (cell_lt hq)).trans hq, cell_same hq (hD xb (cell_lt hq) (fun a e => by have := ho a e; omega))⟩

set_option maxRecDepth 100000 in
set_option maxHeartbeats 4000000 in
theorem nest_any (s : Value) (L : List Stp) (w : World) (hV : View w s L) (hF : ∀ x ∈ L, x.text.length ≤ 9223372036854775807) (hl : L.length ≤ 100000) :
    Calls Tryz.prog 28 #[s] w fun e w' => e = .returned (.int .i64 (nestZ symT L)) ∧ Below w.heap.size w w' := by
  have hS := sound_any s L w hV hF hl
  obtain ⟨o, c, rfl, hlc⟩ := hV.slice
  cases hs : soundZ symT L with
  | false =>
    have hz : nestZ symT L = -1 := by unfold nestZ; rw [hs]; rfl
    rw [hs] at hS
    rw [hz]
    clear hV hF
    go_enter Tryz.func28, Tryz.ntmps28
    go_wp2_with fail
    refine hS.mono ?_
    rintro e w2 ⟨rfl, hb2⟩
    go_wp2_with fail
    go_ret
    exact ⟨rfl, hb2⟩
  | true =>
    rw [hs] at hS
    go_enter Tryz.func28, Tryz.ntmps28
    go_wp2_with fail
    refine hS.mono ?_
    rintro e w2 ⟨rfl, hb2⟩
    have hu2 := hb2.size
    have hst0 : StkI w.heap.size w (.slice none 0 0) (stkZ L 0) w2 := ⟨.inl ⟨rfl, rfl⟩, fun a n c e => (by cases e), hb2⟩
    have hcn : cntZ symT L 0 = some 1 := by
      unfold soundZ at hs
      rw [Bool.and_eq_true, beq_iff_eq] at hs
      exact hs.2
    have h255 : L.length ≤ 255 := by obtain ⟨t, _, rfl, hl⟩ := sound_tree hs; exact hl
    have HC := Lib.hid hcn
    have HS := Lib.hid hs
    have HAb := Lib.hid above_any
    clear hcn hs hF hS
    go_wp2_with fail
    go_loopw [3, 5, 6, 12] (fun x5 x6 x7 y wr => ∃ (i : Nat) (o' : Option Addr) (c' : Nat), x5 = .slice o' (stkZ L i).length c' ∧ y = .int .i64 (i : Int) ∧ i ≤ L.length ∧ StkI w.heap.size w (.slice o' (stkZ L i).length c') (stkZ L i) wr ∧ Hid (∀ x ∈ stkZ L i, x.2 ≤ i)) (fun _ _ _ y _ => (L.length - intOf y).toNat)
    case atStart => exact ⟨0, none, 0, rfl, rfl, by omega, hst0, by intro x hx; cases hx⟩
    case round =>
      clear hst0 hb2 hu2
      obtain ⟨i, o', c', rfl, rfl, hil, hK, HD⟩ := hrel
      by_cases hlt : i < L.length
      · have hii : (i : Int) < L.length := by omega
        obtain ⟨k, hk⟩ := cnt_pre HC.out i
        obtain ⟨k', hk'⟩ := cnt_pre HC.out (i + 1)
        have hn := cnt_next hlt hk
        rw [hk'] at hn
        have hmk : takesZ (L.getD i default).op ≤ k := by
          by_cases h : mayZ symT (L.getD i default) = true ∧ takesZ (L.getD i default).op ≤ k
          · exact h.2
          · rw [if_neg h] at hn; cases hn
        have hlenk : (stkZ L i).length = k := by
          unfold stkZ
          rw [List.length_reverse]
          exact shapes_length symT (L.take i) 0 k [] rfl hk
        have hnext := stk_next hlt (by rw [hlenk]; exact hmk)
        have hki : k ≤ i := by
          have := cnt_le symT (L.take i) 0 k hk
          rw [List.length_take] at this; omega
        obtain ⟨o1, c1, e1, _, hv1⟩ := hV.go hK.below
        obtain ⟨b1, f1, eo1, v0, v1, v2, v3, v4, v5⟩ := hv1 i hlt
        injection e1 with e1 _ e3
        subst e1 e3
        subst eo1
        have hT := fun W => takes_any (L.getD i default).op W
        have ht2 := takes_le (L.getD i default).op
        obtain ⟨x, hx⟩ : ∃ x, L.getD i default = x := ⟨_, rfl⟩
        rw [hx] at v0 v1 v2 v3 v4 v5 hnext hmk hT ht2
        have hu3 : Below wr.heap.size wr (wr.alloc (.cells x.cs 47)) := (Below.refl _ _).alloc (Nat.le_refl _) _
        have hx3 := StAt.new wr x
        have hob : ∀ a, o' = some a → a.block < wr.heap.size := fun a ea => by
          rcases hK.at_ with ⟨_, e⟩ | ⟨b, c2, e, _, _, hg⟩
          · injection e with e1 _ _; rw [e1] at ea; cases ea
          · injection e with e1 _ _; rw [e1] at ea; injection ea with ea; subst ea; exact hg.2.2
        have hK3 := hK.go hK.below.size hu3
        obtain ⟨xo, xp, xa, xn, xm, xt⟩ := x
        simp only [Stp.cs] at hu3 hx3 hK3
        simp only at v0 v1 v2 v3 v4 v5 hnext hmk hT ht2
        have q0 := hx3.c0
        simp only at q0
        have HNX := Lib.hid hnext
        clear hn hk hk' hnext hx hv1 hu3 hx3 hK
        generalize stkZ L i = M at *
        subst hlenk
        go_upto_region 7 with fail
        have hpt := hK3.part (k := M.length - takesZ xo) rfl (by omega)
        have hNs : NsI w (wr.alloc (.cells #[.int .i64 xo, .int .i64 xp, .int .i64 xa, .int .i64 xn, .int .i64 xm, .string (bs xt)] 47)) wr.heap.size xo := ⟨hK3.below, q0⟩
        generalize wr.alloc (.cells #[.int .i64 xo, .int .i64 xp, .int .i64 xa, .int .i64 xn, .int .i64 xm, .string (bs xt)] 47) = WX at *
        clear v0 v1 v2 v3 v4 v5
        have hMl : (M.length : Int) ≤ 255 := by omega
        have hAb := fun (sv : Value) W (hV : ShView W sv (M.drop (M.length - takesZ xo))) => HAb.out xo sv (M.drop (M.length - takesZ xo)) W hV (by rw [List.length_drop]; omega) (fun y hy => by have := HD.out y (List.mem_of_mem_drop hy); omega)
        obtain ⟨rs, hrs⟩ : ∃ rs, M.length - takesZ xo = rs := ⟨_, rfl⟩
        have hri : (M.length : Int) - (takesZ xo : Int) = (rs : Int) := by omega
        have hrl : rs ≤ M.length := by omega
        have hcc : M.length ≤ c' := by
          rcases hK3.at_ with ⟨h0, e⟩ | ⟨b, c2, e, hc, _⟩
          · omega
          · injection e with _ _ e3; omega
        have hsp := fun W => slice_part o' M.length c' rs hrl W
        have hsf := fun W => slice_first o' M.length c' rs (by omega) W
        rw [hrs] at hpt hAb
        have HPU : Hid (pushZ xo M = M.take rs ++ [(xo, upD xo (M.drop rs) (M.drop rs).length)]) := by
          show _ = _
          unfold pushZ
          rw [hrs]
        generalize takesZ xo = m at *
        generalize upD xo (M.drop rs) (M.drop rs).length = up at *
        generalize wr.heap.size = xb at *
        obtain ⟨oo, hoo⟩ : ∃ oo, (if c' = rs then o' else o'.map (·.add (rs * 2))) = oo := ⟨_, rfl⟩
        rw [hoo] at hpt hsp
        have HRS := Lib.hid hrs
        clear hoo hrs
        go_wp2_with fail
        refine (hT _).mono ?_
        rintro e w5 ⟨rfl, rfl⟩
        clear hT
        go_upto_region 8 with fail
        have hK6 := hK3.go hK3.below.size (Below.refl _ _).drew
        have hpt6 := hpt.go (Below.refl _ _).drew
        have q6 : WX.drew.cell? ⟨xb, 0, none⟩ = some (.int .i64 xo) := q0
        have HK6 := Lib.hid (And.intro hK6 hpt6)
        clear hK3 hpt hNs hK6 hpt6
        go_region_held3 (fun v => v.cell? ⟨xb, 0, none⟩ = some (.int .i64 xo))
          (first | with_reducible exact q6 | with_reducible exact q7 | with_reducible exact q9 | with_reducible exact q8 | go_keep)
          (first
            | (go_at_call 45; refine (hAb _ _ HK6.out.2).mono ?_; rintro e V7 ⟨rfl, hb7⟩; have q7 := (hb7.cell (p := ⟨xb, 0, none⟩) (cell_lt q6)).trans q6; obtain ⟨V8, o8, c8, HK8, q9, q8⟩ := push_hid HK6.out.1 hb7 hrl (by omega) (xo, up) q7 rfl hob; clear hb7)
            | (refine step_app rfl (Operand.tmp 24) (Operand.tmp 31) 92 92 rfl (v := Value.slice o8 (rs + 1) c8) (V := V8) ?_ ?_; · exact HK8.out.1))
        have hrx := HK8.out.1
        have hK8 := HK8.out.2
        clear HK8
        have HE : Hid (stkZ L (i + 1) = M.take rs ++ [(xo, up)] ∧ ∀ x ∈ stkZ L (i + 1), x.2 ≤ i + 1) := by
          refine ⟨HNX.out.trans HPU.out, ?_⟩
          rw [HNX.out]
          exact push_le xo M i HD.out
        have hrl2 : (M.take rs ++ [(xo, up)]).length = rs + 1 := by rw [List.length_append, List.length_take]; simp; omega
        rw [← HE.out.1] at hK8 hrl2
        have HK8 : Hid (StkI w.heap.size w (.slice o8 (stkZ L (i + 1)).length c8) (stkZ L (i + 1)) V8 ∧ (stkZ L (i + 1)).length = rs + 1) := ⟨by rw [hrl2]; exact hK8, hrl2⟩
        clear hrx hK8 HNX HPU HD hrl2 HRS
        all_goals go_wp2_with fail
        all_goals exact ⟨⟨i + 1, o8, c8, by rw [HK8.out.2], by simp, by omega, HK8.out.1, HE.out.2⟩, by simp only [intOf]; omega⟩
      · have hii : ¬ (i : Int) < L.length := by omega
        have hie : i = L.length := by omega
        subst hie
        have hst : ∃ x, stkZ L L.length = [x] ∧ nestZ symT L = (x.2 : Int) := by
          have h1 := shapes_length symT L 0 1 [] rfl HC.out
          obtain ⟨x, hx⟩ := List.length_eq_one_iff.1 h1
          refine ⟨x, ?_, ?_⟩
          · unfold stkZ
            rw [List.take_of_length_le (Nat.le_refl _), hx]; rfl
          · unfold nestZ
            rw [if_pos HS.out, hx]; rfl
        obtain ⟨x, hx1, hx2⟩ := hst
        rw [hx1] at hK
        rw [hx1]
        have hx0 : ∃ b, o' = some ⟨b, 0, none⟩ ∧ wr.cell? ⟨b, 1, none⟩ = some (.int .i64 (x.2 : Int)) := by
          rcases hK.at_ with ⟨h0, e⟩ | ⟨b, c2, e, hc, hm, hg⟩
          · cases h0
          · injection e with e1 _ _
            exact ⟨b, e1, hg.1 0 (by simp) 1 (by omega)⟩
        obtain ⟨b, rfl, hx3⟩ := hx0
        have hB := hK.below
        have HX := Lib.hid hx2
        clear hK hx1 hx2 HD HC HAb
        simp only [List.length_cons, List.length_nil]
        go_wp2_with fail
        go_ret
        exact ⟨by rw [HX.out]; rfl, hB⟩

end Go.Proofs.YthofogokpolhdaaGreatDoor.Trees

namespace Go.Proofs.YthofogokpolhdaaGreatDoor.Trees
open Go.RowKit Go.Shelf
open Go.Proofs.YthofogokpolhdaaGreatDoor.Style (bs bs_size bs_at getD_at bs_of)
open Go.Proofs.YthofogokpolhdaaGreatDoor.Toks (cell_lt cell_same SliceAt Above Grid Spare)
set_option linter.unusedVariables false
set_option linter.unusedSimpArgs false

theorem cs_size (x : Stp) : x.cs.toList.length = 6 := rfl
theorem flat6 : ∀ (L : List Stp) (i j : Nat), i < L.length → j < 6 → (L.flatMap fun x => x.cs.toList)[i * 6 + j]? = some (cellS L i j)
  | [], i, j, hi, _ => absurd hi (by simp)
  | x :: r, 0, j, _, hj => by
    rw [List.flatMap_cons, Nat.zero_mul, Nat.zero_add, List.getElem?_append_left (by rw [cs_size]; exact hj)]
    unfold cellS
    show _ = some (x.cs[j]?.getD undef)
    rw [Array.getElem?_toList, Array.getElem?_eq_getElem (show j < x.cs.size from hj)]; rfl
  | x :: r, i + 1, j, hi, hj => by
    rw [List.flatMap_cons, List.getElem?_append_right (by rw [cs_size]; omega), cs_size, show (i + 1) * 6 + j - 6 = i * 6 + j by omega, flat6 r i j (by simpa using hi) hj]
    rfl
theorem flat6_size : ∀ L : List Stp, (L.flatMap fun x => x.cs.toList).length = L.length * 6
  | [] => rfl
  | x :: r => by rw [List.flatMap_cons, List.length_append, cs_size, flat6_size r, List.length_cons]; omega
/-- A row of steps that is made. -/
theorem StepsAt.new (w : World) (t : TypeId) (L : List Stp) (cs : Array Value) (h : cs.toList = L.flatMap fun x => x.cs.toList) : StepsAt (w.alloc (.cells cs t)) (.slice (some ⟨w.heap.size, 0, none⟩) L.length L.length) L := by
  have hg : Grid (w.alloc (.cells cs t)) w.heap.size 6 L.length (cellS L) := Grid.new w t 6 L.length _ cs (fun i hi j hj => by
    rw [← Array.getElem?_toList, h]; exact flat6 L i j hi hj)
  refine .inr ⟨_, _, rfl, Nat.le_refl _, ?_, hg⟩
  have hs : cs.size = L.length * 6 := by rw [← Array.length_toList, h, flat6_size]
  rw [← hs]
  exact Toks.Spare.of_cells (World.alloc_heap_new w _)

end Go.Proofs.YthofogokpolhdaaGreatDoor.Trees

namespace Go.Proofs.YthofogokpolhdaaGreatDoor.Trees
open Go.RowKit Go.Shelf
open Go.Proofs.YthofogokpolhdaaGreatDoor.Style (bs bs_size bs_at getD_at bs_of)
open Go.Proofs.YthofogokpolhdaaGreatDoor.Toks (cell_lt cell_same SliceAt Above Grid Spare append_any Elem flat flat_length wpList_app)
set_option linter.unusedVariables false
set_option linter.unusedSimpArgs false

/-- All that was there stands as it was, but the block rb. -/
structure But (rb : Nat) (w w' : World) : Prop where
  os : w'.os = w.os
  tape : w'.tape = w.tape
  output : w'.output = w.output
  size : w.heap.size ≤ w'.heap.size
  block : ∀ k, k < w.heap.size → k ≠ rb → w'.heap[k]? = w.heap[k]?
theorem But.refl (rb : Nat) (w : World) : But rb w w := ⟨rfl, rfl, rfl, Nat.le_refl _, fun _ _ _ => rfl⟩
theorem But.of {rb : Nat} {w w' : World} (h : Below w.heap.size w w') : But rb w w' := ⟨h.os, h.tape, h.output, h.size, fun k hk _ => h.block k hk⟩
theorem But.only {rb : Nat} {w w' : World} (h : Toks.Only rb w w') : But rb w w' := ⟨h.os, h.tape, h.output, Nat.le_of_eq h.size.symm, fun k _ hk => h.block k hk⟩
theorem But.trans {rb : Nat} {a b c : World} (h : But rb a b) (g : But rb b c) : But rb a c :=
  ⟨g.os.trans h.os, g.tape.trans h.tape, g.output.trans h.output, Nat.le_trans h.size g.size, fun k hk hn => (g.block k (Nat.lt_of_lt_of_le hk h.size) hn).trans (h.block k hk hn)⟩
theorem But.below {rb B : Nat} {w w' : World} (h : But rb w w') (hB : B ≤ rb) (hw : B ≤ w.heap.size) : Below B w w' := ⟨h.os, h.tape, h.output, h.size, fun k hk => h.block k (by omega) (by omega)⟩
/-- What was made since is like Below, joined. -/
theorem But.join {rb B : Nat} {a b c : World} (h : But rb a b) (g : Below B b c) (hB : a.heap.size ≤ B) : But rb a c :=
  ⟨g.os.trans h.os, g.tape.trans h.tape, g.output.trans h.output, Nat.le_trans h.size g.size, fun k hk hn => (g.block k (by omega)).trans (h.block k hk hn)⟩
theorem But.cell {rb : Nat} {w w' : World} {b i : Nat} {u : Value} (h : But rb w w') (hc : w.cell? ⟨b, i, none⟩ = some u) (hn : b ≠ rb) : w'.cell? ⟨b, i, none⟩ = some u := cell_same hc (h.block b (cell_lt hc) hn)
theorem SliceAt.but {rb k n : Nat} {w w' : World} {s : Value} {f : Nat → Nat → Value} (h : SliceAt w s k n f) (hb : But rb w w') (ha : Above (rb + 1) s) : SliceAt w' s k n f := by
  rcases h with h | ⟨b, c, hs, hc, hm, hg⟩
  · exact .inl h
  · have hab : rb + 1 ≤ b := ha _ _ _ hs
    exact .inr ⟨b, c, hs, hc, hm.block (hb.block b hg.2.2 (by omega)), hg.block hb.size (hb.block b hg.2.2 (by omega))⟩
theorem StepsAt.but {rb : Nat} {w w' : World} {s : Value} {L : List Stp} (h : StepsAt w s L) (hb : But rb w w') (ha : Above (rb + 1) s) : StepsAt w' s L := SliceAt.but h hb ha

/-- An append of steps to a row of one's own. -/
theorem app_steps {B : Nat} {w : World} {s s2 : Value} {L M : List Stp} (h : StepsAt w s L) (hA : Above B s) (hB : B ≤ w.heap.size) (hV : View w s2 M) (hl : L.length + M.length ≤ 2000) (h0 : 0 < L.length + M.length ∨ ∃ a n c, s = .slice (some a) n c) :
    ∃ V s', (∀ ty, (Builtin.append_ #[34, 34] ty #[s, s2]).run Tryz.prog w = .ok s' V) ∧ StepsAt V s' (L ++ M) ∧ Above B s' ∧ Below B w V ∧ (∃ o c, s' = .slice o (L.length + M.length) c ∧ L.length + M.length ≤ c ∧ o ≠ none) ∧ (∀ D, D < w.heap.size → (∀ a n c, s = .slice (some a) n c → a.block ≠ D) → V.heap[D]? = w.heap[D]?) := by
  obtain ⟨o1, c1, rfl⟩ := SliceAt.slice h
  have h0' : 0 < L.length + M.length ∨ o1 ≠ none := by
    rcases h0 with h0 | ⟨a, n, c, e⟩
    · exact .inl h0
    · injection e with e; exact .inr (by rw [e]; simp)
  obtain ⟨V, s', hr, hj⟩ := append_any elem_step h (cell_oneS L) hV.source hl h0'
  have hR : StepsAt V s' (L ++ M) := by
    show SliceAt V s' 6 (L ++ M).length _
    rw [List.length_append]
    refine SliceAt.ext hj.rows (fun i hi j hj => ?_)
    unfold Toks.both cellS
    by_cases hi2 : i < L.length
    · rw [if_pos hi2, List.getD_eq_getElem?_getD (l := L ++ M), List.getElem?_append_left hi2, ← List.getD_eq_getElem?_getD]
    · rw [if_neg hi2, List.getD_eq_getElem?_getD (l := L ++ M), List.getElem?_append_right (by omega), ← List.getD_eq_getElem?_getD]
  refine ⟨V, s', hr, hR, ?_, ?_, ?_, ?_⟩
  · rcases hj.way with ⟨c', rfl, hb⟩ | ⟨b, c', e1, rfl, rfl⟩
    · intro a n c e
      injection e with e
      injection e with e
      subst e
      exact hB
    · have := hA _ _ _ e1
      intro a n c e
      injection e with e
      injection e with e
      subst e
      exact this
  · rcases hj.way with ⟨c', rfl, hb⟩ | ⟨b, c', e1, rfl, rfl⟩
    · exact hb.mono hB
    · have hab := hA _ _ _ e1
      exact (Toks.only_cells b _ _ _ _ (Toks.Only.refl _ _)).below hab
  · rcases hj.rows with ⟨hn, e⟩ | ⟨b, c, e, hc, _⟩
    · rcases hj.way with ⟨c', rfl, hb⟩ | ⟨b, c', e1, rfl, rfl⟩
      · cases e
      · cases e
    · exact ⟨_, c, e, hc, by simp⟩
  · intro D hD hn
    rcases hj.way with ⟨c', rfl, hb⟩ | ⟨b, c', e1, rfl, rfl⟩
    · exact hb.block D hD
    · exact (Toks.only_cells b _ _ _ _ (Toks.Only.refl b _)).block D (fun e => hn _ _ _ e1 e.symm)

/-- Numbers that are taken one by one. -/
def RowX (W : World) (rb : Nat) : Prop := ∃ l k, RowAt W rb l k ∧ k ≤ l.length ∧ l.length ≤ 1000 ∧ ∀ i, i < l.length → -9223372036854775808 ≤ l.getD i 0 ∧ l.getD i 0 ≤ 9223372036854775807
theorem RowX.go {W W' : World} {rb : Nat} (h : RowX W rb) (hb : Below W.heap.size W W') : RowX W' rb := by
  obtain ⟨l, k, hR, hk⟩ := h
  exact ⟨l, k, hR.go hb, hk⟩
theorem RowX.lt {W : World} {rb : Nat} (h : RowX W rb) : rb < W.heap.size := by
  obtain ⟨l, k, hR, hk⟩ := h
  exact cell_lt hR.at_
theorem RowX.other {W : World} {rb : Nat} (h : RowX W rb) (b j : Nat) (u : Value) (hn : rb < b) : RowX (W.setCell ⟨b, j, none⟩ u) rb := by
  obtain ⟨l, k, hR, hk⟩ := h
  exact ⟨l, k, hR.other b j u hn, hk⟩
theorem next_x (rb n : Nat) (w : World) (h : RowX w rb) (hn : 1 ≤ n) (hn2 : n ≤ 1000000) :
    Calls Tryz.prog 63 #[.pointer (some ⟨rb, 0, none⟩), .int .i64 (n : Int)] w fun e w' => ∃ m : Nat, e = .returned (.int .i64 (m : Int)) ∧ m < n ∧ RowX w' rb ∧ Toks.Only rb w w' := by
  obtain ⟨l, k, hR, hk, hl, hI⟩ := h
  refine (next_any rb l k n w hR hk hl hn hn2 hI).mono ?_
  rintro e w' ⟨rfl, hR', hO⟩
  refine ⟨_, rfl, ?_, ⟨l, _, hR', ?_, hl, hI⟩, hO⟩
  · unfold nextN
    split
    · exact restN_lt _ _ hn
    · omega
  · unfold nextK
    split <;> omega
theorem text_x (rb : Nat) (w : World) (h : RowX w rb) :
    Calls Tryz.prog 65 #[.pointer (some ⟨rb, 0, none⟩)] w fun e w' => ∃ t : List UInt8, e = .returned (.string (bs t)) ∧ fineT t = true ∧ t.length ≤ 10 ∧ RowX w' rb ∧ But rb w w' := by
  obtain ⟨l, k, hR, hk, hl, hI⟩ := h
  refine (text_any rb l k w hR hk hl hI).mono ?_
  rintro e w' ⟨rfl, hR', w1, hb, hO⟩
  have h5 : nextN l k 5 < 5 := by unfold nextN; split; exact restN_lt _ _ (by omega); omega
  refine ⟨_, rfl, ?_, ?_, ⟨l, _, hR', ?_, hl, hI⟩, (But.of hb).trans (But.only hO)⟩
  · generalize nextN l k 5 = m at *
    match m, h5 with
    | 0, _ => decide
    | 1, _ => decide
    | 2, _ => decide
    | 3, _ => decide
    | 4, _ => decide
  · generalize nextN l k 5 = m at *
    match m, h5 with
    | 0, _ => decide
    | 1, _ => decide
    | 2, _ => decide
    | 3, _ => decide
    | 4, _ => decide
  · unfold nextK
    split <;> omega

end Go.Proofs.YthofogokpolhdaaGreatDoor.Trees


/-
  Contract of tree.above. The stack of shapes: plain mathematics, and as a row in memory. Contract of tree.Nest.
-/
import Derived.Test.YthofogokpolhdaaGreatDoorUBX
import Derived.Test.YthofogokpolhdaaGreatDoorUEX
import Derived.Test.YthofogokpolhdaaGreatDoorUJX
namespace Go.Proofs.YthofogokpolhdaaGreatDoor.Trees
open Go.RowKit Go.Shelf
open Go.Proofs.YthofogokpolhdaaGreatDoor.Style (bs bs_size bs_at getD_at bs_of)
open Go.Proofs.YthofogokpolhdaaGreatDoor.Toks (cell_lt cell_same)
set_option linter.unusedVariables false
set_option linter.unusedSimpArgs false

/-- How deep a side stands: the last one with its brackets. -/
def sideZ (op : Int) (S : List (Int × Nat)) (i : Nat) : Nat := (S.getD i (0, 0)).2 + (if i + 1 = S.length then inZ op (S.getD i (0, 0)).1 else 0)
def upD (op : Int) (S : List (Int × Nat)) : Nat → Nat
  | 0 => 0
  | k + 1 => max (upD op S k) (sideZ op S k)
theorem up_none (op : Int) : upD op [] 0 = 0 := rfl
theorem up_one (op : Int) (a : Int × Nat) : upD op [a] 1 = a.2 + inZ op a.1 := by simp [upD, sideZ]
theorem up_two (op : Int) (a b : Int × Nat) : upD op [a, b] 2 = max a.2 (b.2 + inZ op b.1) := by simp [upD, sideZ]
/-- The value s is a slice that reads as these shapes. -/
def ShView (w : World) (s : Value) (S : List (Int × Nat)) : Prop :=
  ∃ o c, s = .slice o S.length c ∧ S.length ≤ c ∧ ∀ i, i < S.length → ∃ b off, o = some ⟨b, off, none⟩ ∧
    w.cell? ⟨b, off + i * 2, none⟩ = some (.int .i64 (S.getD i (0, 0)).1) ∧ w.cell? ⟨b, off + i * 2 + 1, none⟩ = some (.int .i64 ((S.getD i (0, 0)).2 : Int))
theorem ShView.go {w w' : World} {s : Value} {S : List (Int × Nat)} (h : ShView w s S) (hb : Below w.heap.size w w') : ShView w' s S := by
  obtain ⟨o, c, e, hc, h⟩ := h
  refine ⟨o, c, e, hc, fun i hi => ?_⟩
  obtain ⟨b, off, eo, c0, c1⟩ := h i hi
  exact ⟨b, off, eo, (hb.cell (p := ⟨b, _, none⟩) (cell_lt c0)).trans c0, (hb.cell (p := ⟨b, _, none⟩) (cell_lt c0)).trans c1⟩

/-- While above goes: the result's box, the shape's. -/
structure AbI (w W : World) (op : Int) (d : Nat) : Prop where
  r0 : W.cell? ⟨w.heap.size, 0, none⟩ = some (.int .i64 0)
  r1 : W.cell? ⟨w.heap.size, 1, none⟩ = some (.int .i64 0)
  rf : ∀ j, W.frozen? ⟨w.heap.size, j, none⟩ = false
  o0 : W.cell? ⟨w.heap.size + 1, 0, none⟩ = some (.int .i64 op)
  o1 : W.cell? ⟨w.heap.size + 1, 1, none⟩ = some (.int .i64 (d : Int))
  of : ∀ j, W.frozen? ⟨w.heap.size + 1, j, none⟩ = false
  below : Below w.heap.size w W
theorem AbI.go {w W W' : World} {op : Int} {d : Nat} (h : AbI w W op d) (hb : Below W.heap.size W W') : AbI w W' op d :=
  ⟨(hb.cell (p := ⟨w.heap.size, 0, none⟩) (cell_lt h.r0)).trans h.r0, (hb.cell (p := ⟨w.heap.size, 1, none⟩) (cell_lt h.r0)).trans h.r1, fun j => (hb.frozen (p := ⟨w.heap.size, j, none⟩) (cell_lt h.r0)).trans (h.rf j), (hb.cell (p := ⟨w.heap.size + 1, 0, none⟩) (cell_lt h.o0)).trans h.o0, (hb.cell (p := ⟨w.heap.size + 1, 1, none⟩) (cell_lt h.o0)).trans h.o1, fun j => (hb.frozen (p := ⟨w.heap.size + 1, j, none⟩) (cell_lt h.o0)).trans (h.of j), h.below.trans (hb.mono h.below.size)⟩
theorem AbI.new (w : World) (op : Int) : AbI w ((w.alloc (.cells #[.int .i64 0, .int .i64 0] 94)).alloc (.cells #[.int .i64 op, .int .i64 0] 94)) op 0 :=
  ⟨by simp [go_sem], by simp [go_sem], fun j => by simp [go_sem], by simp [go_sem], by simp [go_sem], fun j => by simp [go_sem], by go_grown⟩
theorem AbI.deep {w W : World} {op : Int} {d : Nat} (h : AbI w W op d) (e : Nat) : AbI w (W.setCell ⟨w.heap.size + 1, 1, none⟩ (.int .i64 (e : Int))) op e := by
  obtain ⟨r0, r1, rf, o0, o1, of, hb⟩ := h
  refine ⟨by simp [go_sem, r0], by simp [go_sem, r1], fun j => by rw [World.frozen?_setCell]; exact rf j, by simp [go_sem, o0], by simp [go_sem, o1], fun j => by rw [World.frozen?_setCell]; exact of j, hb.setCell (p := ⟨w.heap.size + 1, 1, none⟩) (by show w.heap.size ≤ w.heap.size + 1; omega) _⟩
theorem AbI.other {w W : World} {op : Int} {d : Nat} (h : AbI w W op d) (b j : Nat) (u : Value) (hb1 : w.heap.size + 1 < b) : AbI w (W.setCell ⟨b, j, none⟩ u) op d := by
  obtain ⟨r0, r1, rf, o0, o1, of, hb⟩ := h
  have n1 : ∀ i, (⟨b, j, none⟩ : Addr) ≠ ⟨w.heap.size, i, none⟩ := fun i hh => by injection hh with e1; omega
  have n2 : ∀ i, (⟨b, j, none⟩ : Addr) ≠ ⟨w.heap.size + 1, i, none⟩ := fun i hh => by injection hh with e1; omega
  refine ⟨by rw [World.cell?_setCell_other _ _ _ _ (n1 0)]; exact r0, by rw [World.cell?_setCell_other _ _ _ _ (n1 1)]; exact r1, fun j' => by rw [World.frozen?_setCell]; exact rf j', by rw [World.cell?_setCell_other _ _ _ _ (n2 0)]; exact o0, by rw [World.cell?_setCell_other _ _ _ _ (n2 1)]; exact o1, fun j' => by rw [World.frozen?_setCell]; exact of j', hb.setCell (p := ⟨b, j, none⟩) (by show w.heap.size ≤ b; omega) _⟩

set_option maxRecDepth 100000 in
set_option maxHeartbeats 2000000 in
theorem above_any (op : Int) (s : Value) (S : List (Int × Nat)) (w : World) (hV : ShView w s S) (hl : S.length ≤ 2) (hd : ∀ x ∈ S, x.2 ≤ 1000) :
    Calls Tryz.prog 45 #[.int .i64 op, s] w fun e w' => e = .returned (.agg #[.int .i64 op, .int .i64 (upD op S S.length : Int)]) ∧ Below w.heap.size w w' := by
  obtain ⟨o, c, rfl, hlc, hv⟩ := id hV
  have hli : (S.length : Int) ≤ 2 := by omega
  have hB := fun (x : Int) (W : World) => brk_any op x W
  have hI0 := AbI.new w op
  go_enter Tryz.func45, Tryz.ntmps45
  go_wp2_with fail
  generalize ((w.alloc (.cells #[.int .i64 0, .int .i64 0] 94)).alloc (.cells #[.int .i64 op, .int .i64 0] 94)) = W0 at *
  go_loopw [6, 7, 12] (fun x y z wr => ∃ i : Nat, z = .int .i64 (i : Int) ∧ i ≤ S.length ∧ AbI w wr op (upD op S i) ∧ upD op S i ≤ 1001) (fun _ _ z _ => (S.length - intOf z).toNat)
  case atStart => exact ⟨0, rfl, by omega, hI0, by simp [upD]⟩
  case round =>
    clear hI0
    obtain ⟨i, rfl, hi, hI, hu1⟩ := hrel
    by_cases hil : i < S.length
    · have hii : (i : Int) < S.length := by omega
      obtain ⟨o', c', e', hc', hv'⟩ := hV.go hI.below
      obtain ⟨b, off, eo, v0, v1⟩ := hv' i hil
      injection e' with e1 e2 e3
      subst e1 e3
      subst eo
      have hx : (S.getD i (0, 0)).2 ≤ 1000 := hd _ (by rw [List.getD_eq_getElem?_getD, List.getElem?_eq_getElem hil]; exact List.getElem_mem _)
      have hup : upD op S (i + 1) = max (upD op S i) ((S.getD i (0, 0)).2 + (if i + 1 = S.length then inZ op (S.getD i (0, 0)).1 else 0)) := rfl
      obtain ⟨⟨xo, xd⟩, hxe⟩ : ∃ x, S.getD i (0, 0) = x := ⟨_, rfl⟩
      rw [hxe] at hx hup v0 v1
      simp only at hx hup v0 v1
      have hHU := Lib.hid hup
      clear hup hxe hv' hv hV
      have hu2 : Below wr.heap.size wr (wr.alloc (.cells #[.int .i64 xo, .int .i64 (xd : Int)] 94)) := (Below.refl _ _).alloc (Nat.le_refl _) _
      have hoz := cell_lt hI.o0
      have hI2 := hI.go hu2
      have s0 : (wr.alloc (.cells #[.int .i64 xo, .int .i64 (xd : Int)] 94)).cell? ⟨wr.heap.size, 0, none⟩ = some (.int .i64 xo) := by simp [go_sem]
      have s1 : (wr.alloc (.cells #[.int .i64 xo, .int .i64 (xd : Int)] 94)).cell? ⟨wr.heap.size, 1, none⟩ = some (.int .i64 (xd : Int)) := by simp [go_sem]
      have sf1 : (wr.alloc (.cells #[.int .i64 xo, .int .i64 (xd : Int)] 94)).frozen? ⟨wr.heap.size, 1, none⟩ = false := by simp [go_sem]
      clear hI hu2
      generalize upD op S i = d at *
      go_upto_region 5 with fail
      generalize wr.alloc (.cells #[.int .i64 xo, .int .i64 (xd : Int)] 94) = W2 at *
      generalize wr.heap.size = sb at *
      clear v0 v1
      by_cases hlast : i + 1 = S.length
      · have hq : ((i : Int) == (S.length : Int) - 1) = true := by simp; omega
        have hin : inZ op xo = if brkZ op xo = true then 1 else 0 := rfl
        have HL : Hid (upD op S (i + 1) = max d (xd + inZ op xo)) := by
          show _ = _
          rw [hHU.out, if_pos hlast]
        clear hHU
        have hBx := hB xo
        have HIN := Lib.hid hin
        clear hin
        generalize brkZ op xo = bk at *
        go_wp2_with fail
        refine (hBx W2).mono ?_
        rintro e W3 ⟨rfl, rfl⟩
        cases bk with
        | true =>
          have HIN2 : Hid (inZ op xo = 1) := HIN.out
          have hI3 := hI2.other sb 1 (.int .i64 ((xd : Int) + 1)) (by omega)
          have hne1 : ¬ sb = w.heap.size + 1 := by omega
          have hne2 : ¬ w.heap.size + 1 = sb := by omega
          have hl1 : upD op S (i + 1) = max d (xd + 1) := by rw [HL.out, HIN2.out]
          replace HL := Lib.hid hl1
          have s2 := World.cell?_setCell_same W2 ⟨sb, 1, none⟩ (.int .i64 ((xd : Int) + 1)) s1
          clear hl1 HIN HIN2
          go_upto_region 7 with fail
          generalize W2.setCell ⟨sb, 1, none⟩ (.int .i64 ((xd : Int) + 1)) = W3 at *
          clear s0 s1 sf1 hI2
          have q1 := hI3.o1
          have qf := hI3.of 1
          by_cases hmx : d < xd + 1
          · have hmi : (d : Int) < (xd : Int) + 1 := by omega
            have hD := hI3.deep (xd + 1)
            have HLE : Hid (upD op S (i + 1) = xd + 1) := by show _ = _; rw [HL.out]; omega
            go_wp2_with fail
            refine ⟨⟨i + 1, by simp, by omega, ?_, by rw [HLE.out]; omega⟩, by simp only [intOf]; omega⟩
            rw [HLE.out]
            exact hD
          · have hmi : ¬ (d : Int) < (xd : Int) + 1 := by omega
            have hmi2 : (xd : Int) + 1 ≤ (d : Int) := by omega
            have hD := hI3.deep d
            have HLE : Hid (upD op S (i + 1) = d) := by show _ = _; rw [HL.out]; omega
            go_wp2_with fail
            refine ⟨⟨i + 1, by simp, by omega, ?_, by rw [HLE.out]; omega⟩, by simp only [intOf]; omega⟩
            rw [HLE.out]
            exact hD
        | false =>
          have HIN2 : Hid (inZ op xo = 0) := HIN.out
          have hl1 : upD op S (i + 1) = max d xd := by rw [HL.out, HIN2.out, Nat.add_zero]
          replace HL := Lib.hid hl1
          clear hl1 HIN HIN2
          have q1 := hI2.o1
          have qf := hI2.of 1
          by_cases hmx : d < xd
          · have hmi : (d : Int) < (xd : Int) := by omega
            have hD := hI2.deep (xd)
            have HLE : Hid (upD op S (i + 1) = xd) := by show _ = _; rw [HL.out]; omega
            go_wp2_with fail
            refine ⟨⟨i + 1, by simp, by omega, ?_, by rw [HLE.out]; omega⟩, by simp only [intOf]; omega⟩
            rw [HLE.out]
            exact hD
          · have hmi : ¬ (d : Int) < (xd : Int) := by omega
            have hmi2 : (xd : Int) ≤ (d : Int) := by omega
            have hD := hI2.deep d
            have HLE : Hid (upD op S (i + 1) = d) := by show _ = _; rw [HL.out]; omega
            go_wp2_with fail
            refine ⟨⟨i + 1, by simp, by omega, ?_, by rw [HLE.out]; omega⟩, by simp only [intOf]; omega⟩
            rw [HLE.out]
            exact hD
      · have hq : ((i : Int) == (S.length : Int) - 1) = false := by simp; omega
        have HL : Hid (upD op S (i + 1) = max d xd) := by
          show _ = _
          rw [hHU.out, if_neg hlast, Nat.add_zero]
        clear hHU
        have q1 := hI2.o1
        have qf := hI2.of 1
        by_cases hmx : d < xd
        · have hmi : (d : Int) < (xd : Int) := by omega
          have hD := hI2.deep (xd)
          have HLE : Hid (upD op S (i + 1) = xd) := by show _ = _; rw [HL.out]; omega
          go_wp2_with fail
          refine ⟨⟨i + 1, by simp, by omega, ?_, by rw [HLE.out]; omega⟩, by simp only [intOf]; omega⟩
          rw [HLE.out]
          exact hD
        · have hmi : ¬ (d : Int) < (xd : Int) := by omega
          have hmi2 : (xd : Int) ≤ (d : Int) := by omega
          have hD := hI2.deep d
          have HLE : Hid (upD op S (i + 1) = d) := by show _ = _; rw [HL.out]; omega
          go_wp2_with fail
          refine ⟨⟨i + 1, by simp, by omega, ?_, by rw [HLE.out]; omega⟩, by simp only [intOf]; omega⟩
          rw [HLE.out]
          exact hD
    · have hii : ¬ (i : Int) < S.length := by omega
      have hie : i = S.length := by omega
      subst hie
      obtain ⟨r0, r1, rf, o0, o1, of, hbl⟩ := id hI
      have f0 := rf 0
      have f1 := rf 1
      obtain ⟨d, hd0⟩ : ∃ d, upD op S S.length = d := ⟨_, rfl⟩
      rw [hd0] at o1
      have HUD := Lib.hid hd0
      clear hd0
      go_wp2_with fail
      have x0 : ((wr.setCell ⟨w.heap.size, 0, none⟩ (.int .i64 op)).setCell ⟨w.heap.size, 1, none⟩ (.int .i64 (d : Int))).cell? ⟨w.heap.size, 0, none⟩ = some (.int .i64 op) := by simp [go_sem, r0]
      have x1 : ((wr.setCell ⟨w.heap.size, 0, none⟩ (.int .i64 op)).setCell ⟨w.heap.size, 1, none⟩ (.int .i64 (d : Int))).cell? ⟨w.heap.size, 1, none⟩ = some (.int .i64 (d : Int)) := by simp [go_sem, r1]
      have hX := (hbl.setCell (p := ⟨w.heap.size, 0, none⟩) (Nat.le_refl _) (.int .i64 op)).setCell (p := ⟨w.heap.size, 1, none⟩) (Nat.le_refl _) (.int .i64 (d : Int))
      generalize (wr.setCell ⟨w.heap.size, 0, none⟩ (.int .i64 op)).setCell ⟨w.heap.size, 1, none⟩ (.int .i64 (d : Int)) = X at *
      refine bodyPost_ret (v := .agg #[.int .i64 op, .int .i64 (d : Int)]) (by simp [results, Tryz.results45, go_sem, x0, x1]) rfl ⟨?_, hX⟩
      rw [HUD.out]

end Go.Proofs.YthofogokpolhdaaGreatDoor.Trees

namespace Go.Proofs.YthofogokpolhdaaGreatDoor.Trees
open Go.RowKit Go.Shelf
open Go.Proofs.YthofogokpolhdaaGreatDoor.Style (bs bs_size bs_at getD_at bs_of)
open Go.Proofs.YthofogokpolhdaaGreatDoor.Toks (cell_lt cell_same Grid SliceAt Spare Above append_any Elem elem_of flat flat_length flat_get wpList_app one_slice)
set_option linter.unusedVariables false
set_option linter.unusedSimpArgs false

/-- One step on the stack, as it lies: the last one last. -/
def pushZ (op : Int) (M : List (Int × Nat)) : List (Int × Nat) := M.take (M.length - takesZ op) ++ [(op, upD op (M.drop (M.length - takesZ op)) (M.drop (M.length - takesZ op)).length)]
theorem push_shapes (x : Stp) (M : List (Int × Nat)) (h : takesZ x.op ≤ M.length) : shapesZ [x] M.reverse = (pushZ x.op M).reverse := by
  have ht := takes_le x.op
  rcases (by omega : takesZ x.op = 0 ∨ takesZ x.op = 1 ∨ takesZ x.op = 2) with e | e | e
  · unfold pushZ
    simp only [shapesZ, e, Nat.sub_zero, List.drop_length, List.take_length, List.length_nil, up_none, List.reverse_append, List.reverse_cons, List.reverse_nil, List.nil_append, List.cons_append]
  · rcases List.eq_nil_or_concat M with rfl | ⟨M', a, rfl⟩
    · simp [e] at h
    · rw [List.concat_eq_append]
      unfold pushZ
      rw [e]
      have h1 : (M' ++ [a]).length - 1 = M'.length := by simp
      rw [h1, List.drop_left', List.take_left']
      · simp only [shapesZ, e, List.length_cons, List.length_nil, List.reverse_append, List.reverse_cons, List.reverse_nil, List.nil_append, List.cons_append, Nat.zero_add, Nat.reduceAdd, up_one]
      · rfl
      · rfl
  · obtain ⟨M', a, b, rfl⟩ := last_two M (by omega)
    unfold pushZ
    rw [e]
    have h1 : (M' ++ [a, b]).length - 2 = M'.length := by simp
    rw [h1, List.drop_left', List.take_left']
    · simp only [shapesZ, e, List.length_cons, List.length_nil, List.reverse_append, List.reverse_cons, List.reverse_nil, List.nil_append, List.cons_append, Nat.zero_add, Nat.reduceAdd, up_two]
    · rfl
    · rfl
theorem up_le (op : Int) (S : List (Int × Nat)) (B : Nat) (h : ∀ x ∈ S, x.2 ≤ B) : ∀ k, k ≤ S.length → upD op S k ≤ B + 1
  | 0, _ => by simp [upD]
  | k + 1, hk => by
    have h1 := up_le op S B h k (by omega)
    have h2 : (S.getD k (0, 0)).2 ≤ B := h _ (by rw [List.getD_eq_getElem?_getD, List.getElem?_eq_getElem (by omega)]; exact List.getElem_mem _)
    have h3 : inZ op (S.getD k (0, 0)).1 ≤ 1 := by unfold inZ; split <;> omega
    simp only [upD, sideZ]
    split <;> omega
theorem push_le (op : Int) (M : List (Int × Nat)) (B : Nat) (h : ∀ x ∈ M, x.2 ≤ B) : ∀ x ∈ pushZ op M, x.2 ≤ B + 1 := by
  intro x hx
  unfold pushZ at hx
  rcases List.mem_append.1 hx with h1 | h1
  · have := h x (List.mem_of_mem_take h1); omega
  · simp only [List.mem_cons, List.not_mem_nil, or_false] at h1
    subst h1
    exact up_le op _ B (fun y hy => h y (List.mem_of_mem_drop hy)) _ (Nat.le_refl _)
theorem push_length (op : Int) (M : List (Int × Nat)) (h : takesZ op ≤ M.length) : (pushZ op M).length = M.length - takesZ op + 1 := by
  unfold pushZ
  rw [List.length_append, List.length_take]
  simp only [List.length_cons, List.length_nil]
  omega

def cellH (M : List (Int × Nat)) (i j : Nat) : Value := if j = 0 then .int .i64 (M.getD i (0, 0)).1 else .int .i64 ((M.getD i (0, 0)).2 : Int)
theorem elem_shape : Elem 92 94 2 := elem_of (b := 16) (by omega) (by omega) (by kernel_rfl) (by kernel_rfl)
theorem cell_oneH (M : List (Int × Nat)) : ∀ i, i < M.length → ∀ j, j < 2 → (cellH M i j).oneCell' = true := by
  intro i hi j hj
  unfold cellH
  split <;> rfl
/-- The slice s holds these shapes, apart from what was there. -/
structure StkI (B : Nat) (w1 : World) (s : Value) (M : List (Int × Nat)) (W : World) : Prop where
  at_ : SliceAt W s 2 M.length (cellH M)
  above : Above B s
  below : Below B w1 W
theorem StkI.go {B : Nat} {w1 : World} {s : Value} {M : List (Int × Nat)} {W W' : World} (h : StkI B w1 s M W) (hB : B ≤ W.heap.size) (hb : Below W.heap.size W W') : StkI B w1 s M W' := ⟨SliceAt.go h.at_ hb, h.above, h.below.trans (hb.mono hB)⟩
/-- What stands from a place on, as it is read. -/
theorem StkI.part {B : Nat} {w1 : World} {o : Option Addr} {c n k : Nat} {M : List (Int × Nat)} {W : World} (h : StkI B w1 (.slice o n c) M W) (hn : M.length = n) (hk : k ≤ n) :
    ShView W (.slice (if c = k then o else o.map (·.add (k * 2))) (n - k) (c - k)) (M.drop k) := by
  have hl : (M.drop k).length = n - k := by rw [List.length_drop, hn]
  rcases h.at_ with ⟨h0, e⟩ | ⟨b, c', e, hc, hm, hg⟩
  · injection e with e1 e2 e3
    refine ⟨_, _, by rw [hl], by rw [hl]; omega, fun i hi => ?_⟩
    rw [hl] at hi; omega
  · injection e with e1 e2 e3
    subst e1 e3
    refine ⟨_, _, by rw [hl], by rw [hl]; omega, fun i hi => ?_⟩
    rw [hl] at hi
    rw [if_neg (by omega)]
    refine ⟨b, k * 2, by simp [Addr.add_mid], ?_⟩
    have hd : (M.drop k).getD i (0, 0) = M.getD (k + i) (0, 0) := by rw [List.getD_eq_getElem?_getD, List.getD_eq_getElem?_getD, List.getElem?_drop]
    have g := hg.1 (k + i) (by omega)
    rw [hd]
    have g0 := g 0 (by omega)
    have g1 := g 1 (by omega)
    rw [Nat.add_mul] at g0 g1
    exact ⟨g0, g1⟩
/-- One comes in the place of the last ones. -/
theorem StkI.push {B : Nat} {w1 : World} {o : Option Addr} {c k : Nat} {M : List (Int × Nat)} {W : World} (h : StkI B w1 (.slice o M.length c) M W) (hB : B ≤ W.heap.size) (hl : M.length ≤ 1000) (hk : k ≤ M.length) (x : Int × Nat) :
    ∃ V o' c', (∀ ty, (Builtin.append_ #[92, 92] ty #[.slice o k c, .slice (some ⟨W.heap.size, 0, none⟩) 1 1]).run Tryz.prog (W.alloc (.cells #[.int .i64 x.1, .int .i64 (x.2 : Int)] 94)) = .ok (.slice o' (k + 1) c') V) ∧ StkI B w1 (.slice o' (k + 1) c') (M.take k ++ [x]) V ∧ (∀ D, D < W.heap.size → (∀ a, o = some a → a.block ≠ D) → V.heap[D]? = W.heap[D]?) := by
  have hu : Below W.heap.size W (W.alloc (.cells #[.int .i64 x.1, .int .i64 (x.2 : Int)] 94)) := (Below.refl _ _).alloc (Nat.le_refl _) _
  have hzz : (W.alloc (.cells #[.int .i64 x.1, .int .i64 (x.2 : Int)] 94)).heap.size = W.heap.size + 1 := World.size_alloc _ _
  have hlk : (M.take k).length = k := by rw [List.length_take]; omega
  have hA : SliceAt W (.slice o k c) 2 k (cellH (M.take k)) := by
    have hgd : ∀ i, i < k → (M.take k).getD i (0, 0) = M.getD i (0, 0) := fun i hi => by rw [List.getD_eq_getElem?_getD, List.getD_eq_getElem?_getD, List.getElem?_take_of_lt hi]
    rcases h.at_ with ⟨h0, e⟩ | ⟨b, c', e, hc, hm, hg⟩
    · injection e with e1 e2 e3
      have : k = 0 := by omega
      subst this
      exact .inl ⟨rfl, by rw [e1, e3]⟩
    · injection e with e1 e2 e3
      subst e1 e3
      exact .inr ⟨b, c, rfl, by omega, hm, (hg.short hk).ext (fun i hi j hj => by unfold cellH; rw [hgd i hi])⟩
  have hcs : ∀ j, j < 2 → (#[.int .i64 x.1, .int .i64 (x.2 : Int)] : Array Value)[j]? = some (cellH [x] 0 j) := by
    intro j hj
    match j, hj with
    | 0, _ => rfl
    | 1, _ => rfl
  obtain ⟨V, s, hr, hj⟩ := append_any (w := W.alloc (.cells #[.int .i64 x.1, .int .i64 (x.2 : Int)] 94)) elem_shape (SliceAt.go hA hu) (fun i hi j hj => cell_oneH (M.take k) i (by rw [hlk]; exact hi) j hj) (Toks.SliceAt.source elem_shape (one_slice W 94 2 _ (cellH [x]) hcs rfl) (cell_oneH [x])) (by omega) (.inl (by omega))
  have hat : SliceAt V s 2 (M.take k ++ [x]).length (cellH (M.take k ++ [x])) := by
    rw [List.length_append, hlk]
    refine Toks.SliceAt.ext hj.rows (fun i hi j hj => ?_)
    unfold Toks.both cellH
    by_cases h1 : i < k
    · rw [if_pos h1, List.getD_eq_getElem?_getD (l := M.take k ++ [x]), List.getElem?_append_left (by rw [hlk]; exact h1), ← List.getD_eq_getElem?_getD]
    · rw [if_neg h1, List.getD_eq_getElem?_getD (l := M.take k ++ [x]), List.getElem?_append_right (by rw [hlk]; omega), hlk, ← List.getD_eq_getElem?_getD]
  rcases hj.way with ⟨c', rfl, hb⟩ | ⟨b, c', e1, rfl, rfl⟩
  · refine ⟨V, _, _, hr, ⟨hat, ?_, h.below.trans ((hu.trans (hb.mono (by omega))).mono hB)⟩, fun D hD _ => (hb.block D (by omega)).trans (hu.block D hD)⟩
    intro a n c e
    injection e with e
    injection e with e
    subst e
    show B ≤ (W.alloc (.cells #[.int .i64 x.1, .int .i64 (x.2 : Int)] 94)).heap.size
    omega
  · injection e1 with e1 e2 e3
    subst e1
    have hab : B ≤ b := h.above _ _ _ rfl
    refine ⟨_, _, _, hr, ⟨hat, ?_, h.below.trans ((hu.mono hB).trans ((Toks.only_cells b _ _ _ _ (Toks.Only.refl _ _)).below hab))⟩, fun D hD hn => ((Toks.only_cells b _ _ _ _ (Toks.Only.refl b _)).block D (fun e => hn _ rfl e.symm)).trans (hu.block D hD)⟩
    intro a n c e
    injection e with e
    injection e with e
    subst e
    exact hab

end Go.Proofs.YthofogokpolhdaaGreatDoor.Trees

namespace Go.Proofs.YthofogokpolhdaaGreatDoor.Trees
open Go.RowKit Go.Shelf
open Go.Proofs.YthofogokpolhdaaGreatDoor.Style (bs bs_size bs_at getD_at bs_of)
open Go.Proofs.YthofogokpolhdaaGreatDoor.Toks (cell_lt cell_same Grid SliceAt Spare Above wpList_app)
set_option linter.unusedVariables false
set_option linter.unusedSimpArgs false

/-- The stack is as high as there are trees. -/
theorem shapes_length (ok : Int → Int → Bool) : ∀ (L : List Stp) (k m : Nat) (S : List (Int × Nat)), S.length = k → cntZ ok L k = some m → (shapesZ L S).length = m
  | [], k, m, S, h, e => by injection e with e; rw [← e, ← h]; rfl
  | x :: r, k, m, S, h, e => by
    simp only [cntZ] at e
    split at e
    · rename_i hc
      simp only [shapesZ]
      refine shapes_length ok r _ m _ ?_ e
      have h1 := push_shapes x S.reverse (by rw [List.length_reverse]; omega)
      rw [List.reverse_reverse] at h1
      simp only [shapesZ] at h1
      rw [h1, List.length_reverse, push_length _ _ (by rw [List.length_reverse]; omega), List.length_reverse, h]
    · cases e
/-- The stack behind so many steps, as it lies. -/
def stkZ (L : List Stp) (i : Nat) : List (Int × Nat) := (shapesZ (L.take i) []).reverse
theorem stk_next {L : List Stp} {i : Nat} (hi : i < L.length) (h : takesZ (L.getD i default).op ≤ (stkZ L i).length) : stkZ L (i + 1) = pushZ (L.getD i default).op (stkZ L i) := by
  have hx : L.getD i default = L[i] := by rw [List.getD_eq_getElem?_getD, List.getElem?_eq_getElem hi]; rfl
  rw [hx] at h ⊢
  unfold stkZ at h ⊢
  rw [List.take_succ_eq_append_getElem hi, shapes_app]
  have := push_shapes L[i] (shapesZ (L.take i) []).reverse h
  rw [List.reverse_reverse] at this
  rw [this, List.reverse_reverse]

end Go.Proofs.YthofogokpolhdaaGreatDoor.Trees


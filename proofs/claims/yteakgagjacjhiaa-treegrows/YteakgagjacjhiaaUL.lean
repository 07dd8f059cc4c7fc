/-
  Contract of tree.above.
-/
import Derived.Test.YteakgagjacjhiaaUB
import Derived.Test.YteakgagjacjhiaaUF
namespace Go.Proofs.Yteakgagjacjhiaa.Trees
open Go.RowKit Go.Shelf
open Go.Proofs.Yteakgagjacjhiaa.Style (bs bs_size bs_at getD_at bs_of)
open Go.Proofs.Yteakgagjacjhiaa.Toks (cell_lt cell_same)
set_option linter.unusedVariables false
set_option linter.unusedSimpArgs false

/-- How deep a side stands: the last one with its brackets. -/
def sideZ (op : Int) (S : List (Int × Nat)) (i : Nat) : Nat := (S.getD i (0, 0)).2 + (if i + 1 = S.length then inZ op (S.getD i (0, 0)).1 else 0)
def upD (op : Int) (S : List (Int × Nat)) : Nat → Nat
  | 0 => 0
  | k + 1 => max (upD op S k) (sideZ op S k)
theorem up_none (op : Int) : upD op [] 0 = 0 := rfl
theorem up_one (op : Int) (a : Int × Nat) : upD op [a] 1 = a.2 + inZ op a.1 := by simp [upD, sideZ]
theorem up_two (op : Int) (a b : Int × Nat) : upD op [a, b] 2 = max a.2 (b.2 + inZ op b.1) := by simp [upD, sideZ]
/-- The value s is a slice that reads as these shapes. -/
def ShView (w : World) (s : Value) (S : List (Int × Nat)) : Prop :=
  ∃ o c, s = .slice o S.length c ∧ S.length ≤ c ∧ ∀ i, i < S.length → ∃ b off, o = some ⟨b, off, none⟩ ∧
    w.cell? ⟨b, off + i * 2, none⟩ = some (.int .i64 (S.getD i (0, 0)).1) ∧ w.cell? ⟨b, off + i * 2 + 1, none⟩ = some (.int .i64 ((S.getD i (0, 0)).2 : Int))
theorem ShView.go {w w' : World} {s : Value} {S : List (Int × Nat)} (h : ShView w s S) (hb : Below w.heap.size w w') : ShView w' s S := by
  obtain ⟨o, c, e, hc, h⟩ := h
  refine ⟨o, c, e, hc, fun i hi => ?_⟩
  obtain ⟨b, off, eo, c0, c1⟩ := h i hi
  exact ⟨b, off, eo, (hb.cell (p := ⟨b, _, none⟩) (cell_lt c0)).trans c0, (hb.cell (p := ⟨b, _, none⟩) (cell_lt c0)).trans c1⟩

/-- While above goes: the result's box, the shape's. -/
structure AbI (w W : World) (op : Int) (d : Nat) : Prop where
  r0 : W.cell? ⟨w.heap.size, 0, none⟩ = some (.int .i64 0)
  r1 : W.cell? ⟨w.heap.size, 1, none⟩ = some (.int .i64 0)
  rf : ∀ j, W.frozen? ⟨w.heap.size, j, none⟩ = false
  o0 : W.cell? ⟨w.heap.size + 1, 0, none⟩ = some (.int .i64 op)
  o1 : W.cell? ⟨w.heap.size + 1, 1, none⟩ = some (.int .i64 (d : Int))
  of : ∀ j, W.frozen? ⟨w.heap.size + 1, j, none⟩ = false
  below : Below w.heap.size w W
theorem AbI.go {w W W' : World} {op : Int} {d : Nat} (h : AbI w W op d) (hb : Below W.heap.size W W') : AbI w W' op d :=
  ⟨(hb.cell (p := ⟨w.heap.size, 0, none⟩) (cell_lt h.r0)).trans h.r0, (hb.cell (p := ⟨w.heap.size, 1, none⟩) (cell_lt h.r0)).trans h.r1, fun j => (hb.frozen (p := ⟨w.heap.size, j, none⟩) (cell_lt h.r0)).trans (h.rf j), (hb.cell (p := ⟨w.heap.size + 1, 0, none⟩) (cell_lt h.o0)).trans h.o0, (hb.cell (p := ⟨w.heap.size + 1, 1, none⟩) (cell_lt h.o0)).trans h.o1, fun j => (hb.frozen (p := ⟨w.heap.size + 1, j, none⟩) (cell_lt h.o0)).trans (h.of j), h.below.trans (hb.mono h.below.size)⟩
theorem AbI.new (w : World) (op : Int) : AbI w ((w.alloc (.cells #[.int .i64 0, .int .i64 0] 68)).alloc (.cells #[.int .i64 op, .int .i64 0] 68)) op 0 :=
  ⟨by simp [go_sem], by simp [go_sem], fun j => by simp [go_sem], by simp [go_sem], by simp [go_sem], fun j => by simp [go_sem], by go_grown⟩
theorem AbI.deep {w W : World} {op : Int} {d : Nat} (h : AbI w W op d) (e : Nat) : AbI w (W.setCell ⟨w.heap.size + 1, 1, none⟩ (.int .i64 (e : Int))) op e := by
  obtain ⟨r0, r1, rf, o0, o1, of, hb⟩ := h
  refine ⟨by simp [go_sem, r0], by simp [go_sem, r1], fun j => by rw [World.frozen?_setCell]; exact rf j, by simp [go_sem, o0], by simp [go_sem, o1], fun j => by rw [World.frozen?_setCell]; exact of j, hb.setCell (p := ⟨w.heap.size + 1, 1, none⟩) (by show w.heap.size ≤ w.heap.size + 1; omega) _⟩
theorem AbI.other {w W : World} {op : Int} {d : Nat} (h : AbI w W op d) (b j : Nat) (u : Value) (hb1 : w.heap.size + 1 < b) : AbI w (W.setCell ⟨b, j, none⟩ u) op d := by
  obtain ⟨r0, r1, rf, o0, o1, of, hb⟩ := h
  have n1 : ∀ i, (⟨b, j, none⟩ : Addr) ≠ ⟨w.heap.size, i, none⟩ := fun i hh => by injection hh with e1; omega
  have n2 : ∀ i, (⟨b, j, none⟩ : Addr) ≠ ⟨w.heap.size + 1, i, none⟩ := fun i hh => by injection hh with e1; omega
  refine ⟨by rw [World.cell?_setCell_other _ _ _ _ (n1 0)]; exact r0, by rw [World.cell?_setCell_other _ _ _ _ (n1 1)]; exact r1, fun j' => by rw [World.frozen?_setCell]; exact rf j', by rw [World.cell?_setCell_other _ _ _ _ (n2 0)]; exact o0, by rw [World.cell?_setCell_other _ _ _ _ (n2 1)]; exact o1, fun j' => by rw [World.frozen?_setCell]; exact of j', hb.setCell (p := ⟨b, j, none⟩) (by show w.heap.size ≤ b; omega) _⟩

set_option maxRecDepth 100000 in
set_option maxHeartbeats 2000000 in
theorem above_any (op : Int) (s : Value) (S : List (Int × Nat)) (w : World) (hV : ShView w s S) (hl : S.length ≤ 2) (hd : ∀ x ∈ S, x.2 ≤ 1000) :
    Calls Try.prog 30 #[.int .i64 op, s] w fun e w' => e = .returned (.agg #[.int .i64 op, .int .i64 (upD op S S.length : Int)]) ∧ Below w.heap.size w w' := by
  obtain ⟨o, c, rfl, hlc, hv⟩ := id hV
  have hli : (S.length : Int) ≤ 2 := by omega
  have hB := fun (x : Int) (W : World) => brk_any op x W
  have hI0 := AbI.new w op
  go_enter Try.func30, Try.ntmps30
  go_wp2_with fail
  generalize ((w.alloc (.cells #[.int .i64 0, .int .i64 0] 68)).alloc (.cells #[.int .i64 op, .int .i64 0] 68)) = W0 at *
  go_loopw [6, 7, 12] (fun x y z wr => ∃ i : Nat, z = .int .i64 (i : Int) ∧ i ≤ S.length ∧ AbI w wr op (upD op S i) ∧ upD op S i ≤ 1001) (fun _ _ z _ => (S.length - intOf z).toNat)
  case atStart => exact ⟨0, rfl, by omega, hI0, by simp [upD]⟩
  case round =>
    clear hI0
    obtain ⟨i, rfl, hi, hI, hu1⟩ := hrel
    by_cases hil : i < S.length
    · have hii : (i : Int) < S.length := by omega
      obtain ⟨o', c', e', hc', hv'⟩ := hV.go hI.below
      obtain ⟨b, off, eo, v0, v1⟩ := hv' i hil
      injection e' with e1 e2 e3
      subst e1 e3
      subst eo
      have hx : (S.getD i (0, 0)).2 ≤ 1000 := hd _ (by rw [List.getD_eq_getElem?_getD, List.getElem?_eq_getElem hil]; exact List.getElem_mem _)
      have hup : upD op S (i + 1) = max (upD op S i) ((S.getD i (0, 0)).2 + (if i + 1 = S.length then inZ op (S.getD i (0, 0)).1 else 0)) := rfl
      obtain ⟨⟨xo, xd⟩, hxe⟩ : ∃ x, S.getD i (0, 0) = x := ⟨_, rfl⟩
      rw [hxe] at hx hup v0 v1
      simp only at hx hup v0 v1
      have hHU := Lib.hid hup
      clear hup hxe hv' hv hV
      have hu2 : Below wr.heap.size wr (wr.alloc (.cells #[.int .i64 xo, .int .i64 (xd : Int)] 68)) := (Below.refl _ _).alloc (Nat.le_refl _) _
      have hoz := cell_lt hI.o0
      have hI2 := hI.go hu2
      have s0 : (wr.alloc (.cells #[.int .i64 xo, .int .i64 (xd : Int)] 68)).cell? ⟨wr.heap.size, 0, none⟩ = some (.int .i64 xo) := by simp [go_sem]
      have s1 : (wr.alloc (.cells #[.int .i64 xo, .int .i64 (xd : Int)] 68)).cell? ⟨wr.heap.size, 1, none⟩ = some (.int .i64 (xd : Int)) := by simp [go_sem]
      have sf1 : (wr.alloc (.cells #[.int .i64 xo, .int .i64 (xd : Int)] 68)).frozen? ⟨wr.heap.size, 1, none⟩ = false := by simp [go_sem]
      clear hI hu2
      generalize upD op S i = d at *
      go_upto_region 5 with fail
      generalize wr.alloc (.cells #[.int .i64 xo, .int .i64 (xd : Int)] 68) = W2 at *
      generalize wr.heap.size = sb at *
      clear v0 v1
      by_cases hlast : i + 1 = S.length
      · have hq : ((i : Int) == (S.length : Int) - 1) = true := by simp; omega
        have hin : inZ op xo = if brkZ op xo = true then 1 else 0 := rfl
        have HL : Hid (upD op S (i + 1) = max d (xd + inZ op xo)) := by
          show _ = _
          rw [hHU.out, if_pos hlast]
        clear hHU
        have hBx := hB xo
        have HIN := Lib.hid hin
        clear hin
        generalize brkZ op xo = bk at *
        go_wp2_with fail
        refine (hBx W2).mono ?_
        rintro e W3 ⟨rfl, rfl⟩
        cases bk with
        | true =>
          have HIN2 : Hid (inZ op xo = 1) := HIN.out
          have hI3 := hI2.other sb 1 (.int .i64 ((xd : Int) + 1)) (by omega)
          have hne1 : ¬ sb = w.heap.size + 1 := by omega
          have hne2 : ¬ w.heap.size + 1 = sb := by omega
          have hl1 : upD op S (i + 1) = max d (xd + 1) := by rw [HL.out, HIN2.out]
          replace HL := Lib.hid hl1
          have s2 := World.cell?_setCell_same W2 ⟨sb, 1, none⟩ (.int .i64 ((xd : Int) + 1)) s1
          clear hl1 HIN HIN2
          go_upto_region 7 with fail
          generalize W2.setCell ⟨sb, 1, none⟩ (.int .i64 ((xd : Int) + 1)) = W3 at *
          clear s0 s1 sf1 hI2
          have q1 := hI3.o1
          have qf := hI3.of 1
          by_cases hmx : d < xd + 1
          · have hmi : (d : Int) < (xd : Int) + 1 := by omega
            have hD := hI3.deep (xd + 1)
            have HLE : Hid (upD op S (i + 1) = xd + 1) := by show _ = _; rw [HL.out]; omega
            go_wp2_with fail
            refine ⟨⟨i + 1, by simp, by omega, ?_, by rw [HLE.out]; omega⟩, by simp only [intOf]; omega⟩
            rw [HLE.out]
            exact hD
          · have hmi : ¬ (d : Int) < (xd : Int) + 1 := by omega
            have hmi2 : (xd : Int) + 1 ≤ (d : Int) := by omega
            have hD := hI3.deep d
            have HLE : Hid (upD op S (i + 1) = d) := by show _ = _; rw [HL.out]; omega
            go_wp2_with fail
            refine ⟨⟨i + 1, by simp, by omega, ?_, by rw [HLE.out]; omega⟩, by simp only [intOf]; omega⟩
            rw [HLE.out]
            exact hD
        | false =>
          have HIN2 : Hid (inZ op xo = 0) := HIN.out
          have hl1 : upD op S (i + 1) = max d xd := by rw [HL.out, HIN2.out, Nat.add_zero]
          replace HL := Lib.hid hl1
          clear hl1 HIN HIN2
          have q1 := hI2.o1
          have qf := hI2.of 1
          by_cases hmx : d < xd
          · have hmi : (d : Int) < (xd : Int) := by omega
            have hD := hI2.deep (xd)
            have HLE : Hid (upD op S (i + 1) = xd) := by show _ = _; rw [HL.out]; omega
            go_wp2_with fail
            refine ⟨⟨i + 1, by simp, by omega, ?_, by rw [HLE.out]; omega⟩, by simp only [intOf]; omega⟩
            rw [HLE.out]
            exact hD
          · have hmi : ¬ (d : Int) < (xd : Int) := by omega
            have hmi2 : (xd : Int) ≤ (d : Int) := by omega
            have hD := hI2.deep d
            have HLE : Hid (upD op S (i + 1) = d) := by show _ = _; rw [HL.out]; omega
            go_wp2_with fail
            refine ⟨⟨i + 1, by simp, by omega, ?_, by rw [HLE.out]; omega⟩, by simp only [intOf]; omega⟩
            rw [HLE.out]
            exact hD
      · have hq : ((i : Int) == (S.length : Int) - 1) = false := by simp; omega
        have HL : Hid (upD op S (i + 1) = max d xd) := by
          show _ = _
          rw [hHU.out, if_neg hlast, Nat.add_zero]
        clear hHU
        have q1 := hI2.o1
        have qf := hI2.of 1
        by_cases hmx : d < xd
        · have hmi : (d : Int) < (xd : Int) := by omega
          have hD := hI2.deep (xd)
          have HLE : Hid (upD op S (i + 1) = xd) := by show _ = _; rw [HL.out]; omega
          go_wp2_with fail
          refine ⟨⟨i + 1, by simp, by omega, ?_, by rw [HLE.out]; omega⟩, by simp only [intOf]; omega⟩
          rw [HLE.out]
          exact hD
        · have hmi : ¬ (d : Int) < (xd : Int) := by omega
          have hmi2 : (xd : Int) ≤ (d : Int) := by omega
          have hD := hI2.deep d
          have HLE : Hid (upD op S (i + 1) = d) := by show _ = _; rw [HL.out]; omega
          go_wp2_with fail
          refine ⟨⟨i + 1, by simp, by omega, ?_, by rw [HLE.out]; omega⟩, by simp only [intOf]; omega⟩
          rw [HLE.out]
          exact hD
    · have hii : ¬ (i : Int) < S.length := by omega
      have hie : i = S.length := by omega
      subst hie
      obtain ⟨r0, r1, rf, o0, o1, of, hbl⟩ := id hI
      have f0 := rf 0
      have f1 := rf 1
      obtain ⟨d, hd0⟩ : ∃ d, upD op S S.length = d := ⟨_, rfl⟩
      rw [hd0] at o1
      have HUD := Lib.hid hd0
      clear hd0
      go_wp2_with fail
      have x0 : ((wr.setCell ⟨w.heap.size, 0, none⟩ (.int .i64 op)).setCell ⟨w.heap.size, 1, none⟩ (.int .i64 (d : Int))).cell? ⟨w.heap.size, 0, none⟩ = some (.int .i64 op) := by simp [go_sem, r0]
      have x1 : ((wr.setCell ⟨w.heap.size, 0, none⟩ (.int .i64 op)).setCell ⟨w.heap.size, 1, none⟩ (.int .i64 (d : Int))).cell? ⟨w.heap.size, 1, none⟩ = some (.int .i64 (d : Int)) := by simp [go_sem, r1]
      have hX := (hbl.setCell (p := ⟨w.heap.size, 0, none⟩) (Nat.le_refl _) (.int .i64 op)).setCell (p := ⟨w.heap.size, 1, none⟩) (Nat.le_refl _) (.int .i64 (d : Int))
      generalize (wr.setCell ⟨w.heap.size, 0, none⟩ (.int .i64 op)).setCell ⟨w.heap.size, 1, none⟩ (.int .i64 (d : Int)) = X at *
      refine bodyPost_ret (v := .agg #[.int .i64 op, .int .i64 (d : Int)]) (by simp [results, Try.results30, go_sem, x0, x1]) rfl ⟨?_, hX⟩
      rw [HUD.out]

end Go.Proofs.Yteakgagjacjhiaa.Trees

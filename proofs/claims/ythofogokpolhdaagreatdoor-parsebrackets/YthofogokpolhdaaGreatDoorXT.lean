/-
  Contracts of the document's note, Next.
-/
import Derived.Test.YthofogokpolhdaaGreatDoorXR
namespace Go.Proofs.YthofogokpolhdaaGreatDoor.Toks
open Go.RowKit
open Go.Proofs.YthofogokpolhdaaGreatDoor.Style
open Go.Proofs.YthofogokpolhdaaGreatDoor.Texts (val isDig val_nil val_cons val_le val_app)
set_option linter.unusedVariables false
set_option linter.unusedSimpArgs false

/-- What the document's Next hands back. -/
def gotV (p : Nat) : Option Got → Value
  | none => .agg #[.int .i64 0, .int .i64 0, .string (bs []), .int .i64 0, .int .i64 0]
  | some g => .agg #[.int .i64 g.kind, .int .i64 (p : Int), .string (bs g.text), .int .i64 g.num, .int .i64 (g.len : Int)]
theorem fld5 (a b c d e f : Value) (w : World) : (Instr.field 43 (.agg #[a, b, c, d, e, f]) 5).run Tryz.prog w = .ok f w := by kernel_rfl
theorem slice_take (s : List UInt8) (p m : Nat) (h : p + m ≤ s.length) : (bs s).extract p (p + m) = bs ((s.drop p).take m) := by
  rw [bs_extract s p (p + m) h, List.take_drop]

/-- The box of what is handed back, as it is made. -/
structure RB (w W : World) : Prop where
  z0 : W.cell? ⟨w.heap.size, 0, none⟩ = some (.int .i64 0)
  z1 : W.cell? ⟨w.heap.size, 1, none⟩ = some (.int .i64 0)
  z2 : W.cell? ⟨w.heap.size, 2, none⟩ = some (.string (bs []))
  z3 : W.cell? ⟨w.heap.size, 3, none⟩ = some (.int .i64 0)
  z4 : W.cell? ⟨w.heap.size, 4, none⟩ = some (.int .i64 0)
  fr : ∀ j, W.frozen? ⟨w.heap.size, j, none⟩ = false
  below : Below w.heap.size w W
theorem RB.go {w W W' : World} (h : RB w W) (hb : Below W.heap.size W W') : RB w W' :=
  ⟨(hb.cell (p := ⟨w.heap.size, 0, none⟩) (cell_lt h.z0)).trans h.z0, (hb.cell (p := ⟨w.heap.size, 1, none⟩) (cell_lt h.z0)).trans h.z1, (hb.cell (p := ⟨w.heap.size, 2, none⟩) (cell_lt h.z0)).trans h.z2, (hb.cell (p := ⟨w.heap.size, 3, none⟩) (cell_lt h.z0)).trans h.z3, (hb.cell (p := ⟨w.heap.size, 4, none⟩) (cell_lt h.z0)).trans h.z4, fun j => (hb.frozen (p := ⟨w.heap.size, j, none⟩) (cell_lt h.z0)).trans (h.fr j), h.below.trans (hb.mono h.below.size)⟩
theorem RB.drew {w W : World} (h : RB w W) : RB w W.drew := h.go (Below.refl _ _).drew
theorem RB.new (w : World) : RB w (w.alloc (.cells #[.int .i64 0, .int .i64 0, .string (bs []), .int .i64 0, .int .i64 0] 82)) :=
  ⟨by simp [go_sem], by simp [go_sem], by simp [go_sem], by simp [go_sem], by simp [go_sem], fun j => by simp [go_sem], by go_grown⟩

theorem RB.fill {w W : World} (h : RB w W) (a b c d e : Value) :
    ((((((W.setCell ⟨w.heap.size, 0, none⟩ a).setCell ⟨w.heap.size, 1, none⟩ b).setCell ⟨w.heap.size, 2, none⟩ c).setCell ⟨w.heap.size, 3, none⟩ d).setCell ⟨w.heap.size, 4, none⟩ e).cell? ⟨w.heap.size, 0, none⟩ = some a
    ∧ (((((W.setCell ⟨w.heap.size, 0, none⟩ a).setCell ⟨w.heap.size, 1, none⟩ b).setCell ⟨w.heap.size, 2, none⟩ c).setCell ⟨w.heap.size, 3, none⟩ d).setCell ⟨w.heap.size, 4, none⟩ e).cell? ⟨w.heap.size, 1, none⟩ = some b
    ∧ (((((W.setCell ⟨w.heap.size, 0, none⟩ a).setCell ⟨w.heap.size, 1, none⟩ b).setCell ⟨w.heap.size, 2, none⟩ c).setCell ⟨w.heap.size, 3, none⟩ d).setCell ⟨w.heap.size, 4, none⟩ e).cell? ⟨w.heap.size, 2, none⟩ = some c
    ∧ (((((W.setCell ⟨w.heap.size, 0, none⟩ a).setCell ⟨w.heap.size, 1, none⟩ b).setCell ⟨w.heap.size, 2, none⟩ c).setCell ⟨w.heap.size, 3, none⟩ d).setCell ⟨w.heap.size, 4, none⟩ e).cell? ⟨w.heap.size, 3, none⟩ = some d
    ∧ (((((W.setCell ⟨w.heap.size, 0, none⟩ a).setCell ⟨w.heap.size, 1, none⟩ b).setCell ⟨w.heap.size, 2, none⟩ c).setCell ⟨w.heap.size, 3, none⟩ d).setCell ⟨w.heap.size, 4, none⟩ e).cell? ⟨w.heap.size, 4, none⟩ = some e)
    ∧ Below w.heap.size w (((((W.setCell ⟨w.heap.size, 0, none⟩ a).setCell ⟨w.heap.size, 1, none⟩ b).setCell ⟨w.heap.size, 2, none⟩ c).setCell ⟨w.heap.size, 3, none⟩ d).setCell ⟨w.heap.size, 4, none⟩ e) := by
  obtain ⟨z0, z1, z2, z3, z4, fr, hbl⟩ := h
  refine ⟨⟨?_, ?_, ?_, ?_, ?_⟩, ((((hbl.setCell (p := ⟨w.heap.size, 0, none⟩) (Nat.le_refl _) a).setCell (p := ⟨w.heap.size, 1, none⟩) (Nat.le_refl _) b).setCell (p := ⟨w.heap.size, 2, none⟩) (Nat.le_refl _) c).setCell (p := ⟨w.heap.size, 3, none⟩) (Nat.le_refl _) d).setCell (p := ⟨w.heap.size, 4, none⟩) (Nat.le_refl _) e⟩
  all_goals simp [go_sem, z0, z1, z2, z3, z4]

set_option maxRecDepth 100000 in
set_option maxHeartbeats 2000000 in
theorem note_any (n : Int) (s : List UInt8) (p : Nat) (w : World) (hp : p < s.length) (hl : s.length ≤ 1000) (hk : kd n (s.getD p 0) = 9) :
    Calls Tryz.prog 70 #[.int .i64 n, .string (bs s), .int .i64 (p : Int)] w fun e w' => e = .returned (gotV p (nextT n (s.drop p))) ∧ Below w.heap.size w w' := by
  have hzi : ((bs s).size : Int) = (s.length : Int) := by rw [bs_size]
  have hli : (s.length : Int) ≤ 1000 := by omega
  have hpi : (p : Int) < s.length := by omega
  obtain ⟨r, hr⟩ : ∃ r, s.drop (p + 1) = r := ⟨_, rfl⟩
  have hd : s.drop p = s.getD p 0 :: r := by rw [← hr, getD_at s p hp]; exact List.drop_eq_getElem_cons hp
  have hrl : r.length = s.length - (p + 1) := by rw [← hr, List.length_drop]
  have hml : offL n r ≤ r.length := run_le _ _
  have hN : nextT n (s.drop p) = if offL n r < r.length ∧ plainL (stZ n) (r.take (offL n r)) = true then some ⟨9, r.take (offL n r), 0, offL n r + 2⟩ else none := by
    rw [hd]
    simp only [nextT]
    rw [if_neg (by omega), if_neg (by omega), if_neg (by omega), if_pos hk]
  have hop := (kd_op hk).2
  have hR : Hid (∀ i, i ≤ offL n r → i < r.length → ((((s.getD (p + 1 + i) 0).toNat : Int) == (stZ n).cl) = true ↔ i = offL n r)) := by
    intro i hi hi2
    have h1 := run_succ (noC n) r i hi hi2
    have h2 := cl_kd hop (r.getD i 0)
    rw [show s.getD (p + 1 + i) 0 = r.getD i 0 by rw [← hr, List.getD_eq_getElem?_getD, List.getD_eq_getElem?_getD, List.getElem?_drop]]
    have h1' : noC n (r.getD i 0) = true ↔ i < offL n r := h1
    unfold noC at h1'
    simp only [Bool.not_eq_true', beq_eq_false_iff_ne] at h1'
    rw [beq_iff_eq]
    constructor
    · intro h
      have := h2.2 h
      rcases Nat.lt_or_ge i (offL n r) with h3 | h3
      · exact absurd this (h1'.2 h3)
      · omega
    · intro h
      refine h2.1 ?_
      by_cases h3 : kd n (r.getD i 0) = 10
      · exact h3
      · have := h1'.1 h3; omega
  rw [hN]
  have hO := rof_any n
  have hfl := fld5
  have hPl := fun (t : List UInt8) (W : World) (h : t.length ≤ 1000) => rplain_any n t W (by omega)
  have hST := fun (m : Nat) (h : p + 1 + m ≤ s.length) => slice_take s (p + 1) m h
  rw [hr] at hST
  generalize offL n r = m at *
  generalize stZ n = x at *
  obtain ⟨f, mu, dv, pw, op, cl⟩ := x
  simp only [St.v] at hO
  simp only at hR
  clear hN hop hd hk hr
  have hB0 := RB.new w
  obtain ⟨R, hRR⟩ : ∃ R : Value, gotV p (if m < r.length ∧ plainL ⟨f, mu, dv, pw, op, cl⟩ (r.take m) = true then some ⟨9, r.take m, 0, m + 2⟩ else none) = R := ⟨_, rfl⟩
  rw [hRR]
  have HRR := Lib.hid hRR
  clear hRR
  go_enter Tryz.func70, Tryz.ntmps70
  go_wp2_with fail
  go_loopw [7] (fun x wr => ∃ q : Nat, x = .int .i64 (q : Int) ∧ p + 1 ≤ q ∧ q ≤ p + 1 + m ∧ RB w wr) (fun x _ => (s.length - intOf x).toNat)
  case atStart => exact ⟨p + 1, by simp, by omega, by omega, hB0⟩
  case round =>
    obtain ⟨q, rfl, hq, hi, hB⟩ := hrel
    clear hB0
    by_cases hil : q < s.length
    · have hr := hR.out (q - (p + 1)) (by omega) (by omega)
      rw [show p + 1 + (q - (p + 1)) = q by omega] at hr
      have hii : (q : Int) < s.length := by omega
      have hib : q < (bs s).size := by rw [bs_size]; omega
      obtain ⟨c, hc⟩ : ∃ c, s.getD q 0 = c := ⟨_, rfl⟩
      have hcb : (bs s)[q] = c := (bs_at s q hib).trans hc
      rw [hc] at hr
      have HR := Lib.hid hr
      clear hr hc
      have hc1 : (c.toNat : Int) ≤ 255 := by have := c.toNat_lt; omega
      cases e : ((c.toNat : Int) == cl) with
      | true =>
        have HE : Hid (q - (p + 1) = m) := HR.out.1 e
        have e' : ((c.toNat : Int) != cl) = false := by simp only [bne, e]; rfl
        clear HR
        go_upto_region 2 with fail
        refine wp_region_held_drew (S := (fun v => RB w v)) (by kernel_rfl) hB.drew (fun hHeld => ?_)
        clear hB
        refine wpAnyH_take (i := 0) (v := ?_) rfl (by kernel_rfl) (by kernel_rfl) (by kernel_rfl) (fun _ _ _ h => h) (Or.inl ⟨by rfl, ?_⟩) hHeld ?_
        rotate_left
        · intro u hSu; go_simp; try with_reducible rfl
        simp only [Act.put, List.setIfInBounds_toArray, List.set_cons_zero, List.set_cons_succ, List.getElem_toArray, List.getElem_cons_succ, List.getElem_cons_zero]
        refine wpAnyH_take (i := 1) (v := ?_) rfl (by kernel_rfl) (by kernel_rfl) (by kernel_rfl) (fun _ _ _ h => h) (Or.inl ⟨by rfl, ?_⟩) hHeld ?_
        rotate_left
        · intro u hSu; go_simp; try with_reducible rfl
        simp only [Act.put, List.setIfInBounds_toArray, List.set_cons_zero, List.set_cons_succ, List.getElem_toArray, List.getElem_cons_succ, List.getElem_cons_zero]
        refine wpAnyH_take (i := 2) (v := ?_) rfl (by kernel_rfl) (by kernel_rfl) (by kernel_rfl) (fun _ _ _ h => h) (Or.inl ⟨by rfl, ?_⟩) hHeld ?_
        rotate_left
        · intro u hSu; go_simp; try with_reducible rfl
        simp only [Act.put, List.setIfInBounds_toArray, List.set_cons_zero, List.set_cons_succ, List.getElem_toArray, List.getElem_cons_succ, List.getElem_cons_zero]
        refine wpAnyH_take (i := 3) (v := ?_) rfl (by kernel_rfl) (by kernel_rfl) (by kernel_rfl) (fun _ _ _ h => h) (Or.inl ⟨by rfl, ?_⟩) hHeld ?_
        rotate_left
        · intro u hSu; go_simp; try with_reducible rfl
        simp only [Act.put, List.setIfInBounds_toArray, List.set_cons_zero, List.set_cons_succ, List.getElem_toArray, List.getElem_cons_succ, List.getElem_cons_zero]
        refine wpAnyH_take (i := 4) (v := ?_) rfl (by kernel_rfl) (by kernel_rfl) (by kernel_rfl) (fun _ _ _ h => h) (Or.inl ⟨by rfl, ?_⟩) hHeld ?_
        rotate_left
        · intro u hSu; go_simp; try with_reducible rfl
        simp only [Act.put, List.setIfInBounds_toArray, List.set_cons_zero, List.set_cons_succ, List.getElem_toArray, List.getElem_cons_succ, List.getElem_cons_zero]
        refine wpAnyH_take (i := 5) (v := ?_) rfl (by kernel_rfl) (by kernel_rfl) (by kernel_rfl) (fun _ _ _ h => h) (Or.inl ⟨by rfl, ?_⟩) hHeld ?_
        rotate_left
        · intro u hSu; go_simp; try with_reducible rfl
        simp only [Act.put, List.setIfInBounds_toArray, List.set_cons_zero, List.set_cons_succ, List.getElem_toArray, List.getElem_cons_succ, List.getElem_cons_zero]
        refine wpAnyH_take (i := 6) (v := ?_) rfl (by kernel_rfl) (by kernel_rfl) (by kernel_rfl) (fun _ _ _ h => h) (Or.inl ⟨by rfl, ?_⟩) hHeld ?_
        rotate_left
        · intro u hSu; go_simp; try with_reducible rfl
        simp only [Act.put, List.setIfInBounds_toArray, List.set_cons_zero, List.set_cons_succ, List.getElem_toArray, List.getElem_cons_succ, List.getElem_cons_zero]
        refine wpAnyH_take (i := 7) (v := ?_) rfl (by kernel_rfl) (by kernel_rfl) (by kernel_rfl) (fun _ _ _ h => h) (Or.inl ⟨by rfl, ?_⟩) hHeld ?_
        rotate_left
        · intro u hSu; go_simp; try with_reducible rfl
        simp only [Act.put, List.setIfInBounds_toArray, List.set_cons_zero, List.set_cons_succ, List.getElem_toArray, List.getElem_cons_succ, List.getElem_cons_zero]
        refine wpAnyH_take (i := 8) (v := ?_) rfl (by kernel_rfl) (by kernel_rfl) (by kernel_rfl) (fun _ _ _ h => h) (Or.inl ⟨by rfl, ?_⟩) hHeld ?_
        rotate_left
        · intro u hSu; go_simp; try with_reducible rfl
        simp only [Act.put, List.setIfInBounds_toArray, List.set_cons_zero, List.set_cons_succ, List.getElem_toArray, List.getElem_cons_succ, List.getElem_cons_zero]
        refine wpAnyH_ready (rs := [9]) (by kernel_rfl) (by simp) ?_
        refine AllReadyH.cons (o := { dst := some 21, op := Op.call { callee := Callee.value (Operand.func 20), args := #[Operand.tmp 20], argTypes := #[3] }, type := 43, pos := "ref.go:46", after := #[{ on := 8, ground := Ground.data }, { on := 4, ground := Ground.chain }, { on := 4, ground := Ground.guard }], guard := some (4, true) }) rfl (fun K hK => ?_) AllReadyH.nil
        go_simp
        refine (hO _).mono ?_
        rintro e u ⟨rfl, hb⟩
        try go_simp
        refine hK.out _ _ (hHeld.go hb) (fun hHeld2 => ?_)
        clear hK K hb hHeld
        rename RB _ _ => hHeld
        try simp only [Act.put, List.setIfInBounds_toArray, List.set_cons_zero, List.set_cons_succ, List.getElem_toArray, List.getElem_cons_succ, List.getElem_cons_zero]
        refine wpAnyH_take (i := 10) (v := ?_) rfl (by kernel_rfl) (by kernel_rfl) (by kernel_rfl) (fun _ _ _ h => h) (Or.inl ⟨by rfl, ?_⟩) hHeld ?_
        rotate_left
        · intro u hSu; go_simp; try with_reducible rfl
        simp only [Act.put, List.setIfInBounds_toArray, List.set_cons_zero, List.set_cons_succ, List.getElem_toArray, List.getElem_cons_succ, List.getElem_cons_zero]
        refine wpAnyH_take (i := 11) (v := ?_) rfl (by kernel_rfl) (by kernel_rfl) (by kernel_rfl) (fun _ _ _ h => h) (Or.inl ⟨by rfl, ?_⟩) hHeld ?_
        rotate_left
        · intro u hSu; go_simp; try with_reducible rfl
        simp only [Act.put, List.setIfInBounds_toArray, List.set_cons_zero, List.set_cons_succ, List.getElem_toArray, List.getElem_cons_succ, List.getElem_cons_zero]
        refine wpAnyH_take (i := 12) (v := ?_) rfl (by kernel_rfl) (by kernel_rfl) (by kernel_rfl) (fun _ _ _ h => h) (Or.inl ⟨by rfl, ?_⟩) hHeld ?_
        rotate_left
        · intro u hSu; go_simp; try with_reducible rfl
        simp only [Act.put, List.setIfInBounds_toArray, List.set_cons_zero, List.set_cons_succ, List.getElem_toArray, List.getElem_cons_succ, List.getElem_cons_zero]
        refine wpAnyH_done (by kernel_rfl) ?_ _
        have hqm : q = p + 1 + m := by have := HE.out; omega
        have hml2 : m < r.length := by omega
        subst hqm
        have hge : ¬ (s.length : Int) ≤ ((p + 1 + m : Nat) : Int) := by omega
        have hst := hST m (by omega)
        have hql : ((p + 1 + m : Nat) : Int) = (p : Int) + 1 + (m : Int) := by omega
        clear hO
        obtain ⟨z0, z1, z2, z3, z4, fr, hbl⟩ := id hHeld
        have f0 := fr 0
        have f1 := fr 1
        have f2 := fr 2
        have f3 := fr 3
        have f4 := fr 4
        clear fr
        have hTl : (r.take m).length ≤ 1000 := by rw [List.length_take]; omega
        have hP := fun W => hPl (r.take m) W hTl
        clear hPl hST
        cases ep : plainL ⟨f, mu, dv, pw, op, cl⟩ (r.take m) with
        | false =>
          have HR2 : Hid (gotV p none = R) := by
            have := HRR.out
            rw [ep, if_neg (by simp)] at this
            exact this
          rw [ep] at hP
          clear HRR HE
          go_wp2_with fail
          refine (hP _).mono ?_
          rintro e u2 ⟨rfl, hb2⟩
          have hB2 := hHeld.go hb2
          clear z0 z1 z2 z3 z4 f0 f1 f2 f3 f4 hbl hHeld hP
          obtain ⟨z0, z1, z2, z3, z4, fr, hbl⟩ := id hB2
          have f0 := fr 0
          have f1 := fr 1
          have f2 := fr 2
          have f3 := fr 3
          have f4 := fr 4
          clear fr
          have hnn : (p : Int) + 1 + (m : Int) + 1 - (p : Int) = (m : Int) + 2 := by omega
          go_wp2
          obtain ⟨⟨x0, x1, x2, x3, x4⟩, hbX⟩ := hB2.fill (.int .i64 0) (.int .i64 0) (.string { data := #[] }) (.int .i64 0) (.int .i64 0)
          generalize ((((u2.setCell ⟨w.heap.size, 0, none⟩ (.int .i64 0)).setCell ⟨w.heap.size, 1, none⟩ (.int .i64 0)).setCell ⟨w.heap.size, 2, none⟩ (.string { data := #[] })).setCell ⟨w.heap.size, 3, none⟩ (.int .i64 0)).setCell ⟨w.heap.size, 4, none⟩ (.int .i64 0) = X at *
          refine bodyPost_ret (v := .agg #[.int .i64 0, .int .i64 0, .string { data := #[] }, .int .i64 0, .int .i64 0]) (by simp [results, Tryz.results70, go_sem, x0, x1, x2, x3, x4]) rfl ⟨?_, hbX⟩
          rw [← HR2.out]; first | rfl | simp [gotV]
        | true =>
          have HR2 : Hid (gotV p (some ⟨9, r.take m, 0, m + 2⟩) = R) := by
            have := HRR.out
            rw [ep, if_pos ⟨hml2, rfl⟩] at this
            exact this
          rw [ep] at hP
          clear HRR HE
          go_wp2_with fail
          refine (hP _).mono ?_
          rintro e u2 ⟨rfl, hb2⟩
          have hB2 := hHeld.go hb2
          clear z0 z1 z2 z3 z4 f0 f1 f2 f3 f4 hbl hHeld hP
          obtain ⟨z0, z1, z2, z3, z4, fr, hbl⟩ := id hB2
          have f0 := fr 0
          have f1 := fr 1
          have f2 := fr 2
          have f3 := fr 3
          have f4 := fr 4
          clear fr
          have hnn : (p : Int) + 1 + (m : Int) + 1 - (p : Int) = (m : Int) + 2 := by omega
          go_wp2
          obtain ⟨⟨x0, x1, x2, x3, x4⟩, hbX⟩ := hB2.fill (.int .i64 9) (.int .i64 (p : Int)) (.string (bs (r.take m))) (.int .i64 0) (.int .i64 ((m : Int) + 2))
          generalize ((((u2.setCell ⟨w.heap.size, 0, none⟩ (.int .i64 9)).setCell ⟨w.heap.size, 1, none⟩ (.int .i64 (p : Int))).setCell ⟨w.heap.size, 2, none⟩ (.string (bs (r.take m)))).setCell ⟨w.heap.size, 3, none⟩ (.int .i64 0)).setCell ⟨w.heap.size, 4, none⟩ (.int .i64 ((m : Int) + 2)) = X at *
          refine bodyPost_ret (v := .agg #[.int .i64 9, .int .i64 (p : Int), .string (bs (r.take m)), .int .i64 0, .int .i64 ((m : Int) + 2)]) (by simp [results, Tryz.results70, go_sem, x0, x1, x2, x3, x4]) rfl ⟨?_, hbX⟩
          rw [← HR2.out]; first | rfl | simp [gotV]
      | false =>
        have HE : Hid (q - (p + 1) < m) := by
          show _ < _
          rcases Nat.lt_or_ge (q - (p + 1)) m with h | h
          · exact h
          · have := HR.out.2 (by omega); rw [this] at e; cases e
        have e' : ((c.toNat : Int) != cl) = true := by simp only [bne, e]; rfl
        clear HR
        go_upto_region 2 with fail
        refine wp_region_held_drew (S := (fun v => RB w v)) (by kernel_rfl) hB.drew (fun hHeld => ?_)
        clear hB
        refine wpAnyH_take (i := 0) (v := ?_) rfl (by kernel_rfl) (by kernel_rfl) (by kernel_rfl) (fun _ _ _ h => h) (Or.inl ⟨by rfl, ?_⟩) hHeld ?_
        rotate_left
        · intro u hSu; go_simp; try with_reducible rfl
        simp only [Act.put, List.setIfInBounds_toArray, List.set_cons_zero, List.set_cons_succ, List.getElem_toArray, List.getElem_cons_succ, List.getElem_cons_zero]
        refine wpAnyH_take (i := 1) (v := ?_) rfl (by kernel_rfl) (by kernel_rfl) (by kernel_rfl) (fun _ _ _ h => h) (Or.inl ⟨by rfl, ?_⟩) hHeld ?_
        rotate_left
        · intro u hSu; go_simp; try with_reducible rfl
        simp only [Act.put, List.setIfInBounds_toArray, List.set_cons_zero, List.set_cons_succ, List.getElem_toArray, List.getElem_cons_succ, List.getElem_cons_zero]
        refine wpAnyH_take (i := 2) (v := ?_) rfl (by kernel_rfl) (by kernel_rfl) (by kernel_rfl) (fun _ _ _ h => h) (Or.inl ⟨by rfl, ?_⟩) hHeld ?_
        rotate_left
        · intro u hSu; go_simp; try with_reducible rfl
        simp only [Act.put, List.setIfInBounds_toArray, List.set_cons_zero, List.set_cons_succ, List.getElem_toArray, List.getElem_cons_succ, List.getElem_cons_zero]
        refine wpAnyH_take (i := 3) (v := ?_) rfl (by kernel_rfl) (by kernel_rfl) (by kernel_rfl) (fun _ _ _ h => h) (Or.inl ⟨by rfl, ?_⟩) hHeld ?_
        rotate_left
        · intro u hSu; go_simp; try with_reducible rfl
        simp only [Act.put, List.setIfInBounds_toArray, List.set_cons_zero, List.set_cons_succ, List.getElem_toArray, List.getElem_cons_succ, List.getElem_cons_zero]
        refine wpAnyH_take (i := 4) (v := ?_) rfl (by kernel_rfl) (by kernel_rfl) (by kernel_rfl) (fun _ _ _ h => h) (Or.inl ⟨by rfl, ?_⟩) hHeld ?_
        rotate_left
        · intro u hSu; go_simp; try with_reducible rfl
        simp only [Act.put, List.setIfInBounds_toArray, List.set_cons_zero, List.set_cons_succ, List.getElem_toArray, List.getElem_cons_succ, List.getElem_cons_zero]
        refine wpAnyH_take (i := 5) (v := ?_) rfl (by kernel_rfl) (by kernel_rfl) (by kernel_rfl) (fun _ _ _ h => h) (Or.inl ⟨by rfl, ?_⟩) hHeld ?_
        rotate_left
        · intro u hSu; go_simp; try with_reducible rfl
        simp only [Act.put, List.setIfInBounds_toArray, List.set_cons_zero, List.set_cons_succ, List.getElem_toArray, List.getElem_cons_succ, List.getElem_cons_zero]
        refine wpAnyH_take (i := 6) (v := ?_) rfl (by kernel_rfl) (by kernel_rfl) (by kernel_rfl) (fun _ _ _ h => h) (Or.inl ⟨by rfl, ?_⟩) hHeld ?_
        rotate_left
        · intro u hSu; go_simp; try with_reducible rfl
        simp only [Act.put, List.setIfInBounds_toArray, List.set_cons_zero, List.set_cons_succ, List.getElem_toArray, List.getElem_cons_succ, List.getElem_cons_zero]
        refine wpAnyH_take (i := 7) (v := ?_) rfl (by kernel_rfl) (by kernel_rfl) (by kernel_rfl) (fun _ _ _ h => h) (Or.inl ⟨by rfl, ?_⟩) hHeld ?_
        rotate_left
        · intro u hSu; go_simp; try with_reducible rfl
        simp only [Act.put, List.setIfInBounds_toArray, List.set_cons_zero, List.set_cons_succ, List.getElem_toArray, List.getElem_cons_succ, List.getElem_cons_zero]
        refine wpAnyH_take (i := 8) (v := ?_) rfl (by kernel_rfl) (by kernel_rfl) (by kernel_rfl) (fun _ _ _ h => h) (Or.inl ⟨by rfl, ?_⟩) hHeld ?_
        rotate_left
        · intro u hSu; go_simp; try with_reducible rfl
        simp only [Act.put, List.setIfInBounds_toArray, List.set_cons_zero, List.set_cons_succ, List.getElem_toArray, List.getElem_cons_succ, List.getElem_cons_zero]
        refine wpAnyH_ready (rs := [9]) (by kernel_rfl) (by simp) ?_
        refine AllReadyH.cons (o := { dst := some 21, op := Op.call { callee := Callee.value (Operand.func 20), args := #[Operand.tmp 20], argTypes := #[3] }, type := 43, pos := "ref.go:46", after := #[{ on := 8, ground := Ground.data }, { on := 4, ground := Ground.chain }, { on := 4, ground := Ground.guard }], guard := some (4, true) }) rfl (fun K hK => ?_) AllReadyH.nil
        go_simp
        refine (hO _).mono ?_
        rintro e u ⟨rfl, hb⟩
        try go_simp
        refine hK.out _ _ (hHeld.go hb) (fun hHeld2 => ?_)
        clear hK K hb hHeld
        rename RB _ _ => hHeld
        try simp only [Act.put, List.setIfInBounds_toArray, List.set_cons_zero, List.set_cons_succ, List.getElem_toArray, List.getElem_cons_succ, List.getElem_cons_zero]
        refine wpAnyH_take (i := 10) (v := ?_) rfl (by kernel_rfl) (by kernel_rfl) (by kernel_rfl) (fun _ _ _ h => h) (Or.inl ⟨by rfl, ?_⟩) hHeld ?_
        rotate_left
        · intro u hSu; go_simp; try with_reducible rfl
        simp only [Act.put, List.setIfInBounds_toArray, List.set_cons_zero, List.set_cons_succ, List.getElem_toArray, List.getElem_cons_succ, List.getElem_cons_zero]
        refine wpAnyH_take (i := 11) (v := ?_) rfl (by kernel_rfl) (by kernel_rfl) (by kernel_rfl) (fun _ _ _ h => h) (Or.inl ⟨by rfl, ?_⟩) hHeld ?_
        rotate_left
        · intro u hSu; go_simp; try with_reducible rfl
        simp only [Act.put, List.setIfInBounds_toArray, List.set_cons_zero, List.set_cons_succ, List.getElem_toArray, List.getElem_cons_succ, List.getElem_cons_zero]
        refine wpAnyH_take (i := 12) (v := ?_) rfl (by kernel_rfl) (by kernel_rfl) (by kernel_rfl) (fun _ _ _ h => h) (Or.inl ⟨by rfl, ?_⟩) hHeld ?_
        rotate_left
        · intro u hSu; go_simp; try with_reducible rfl
        simp only [Act.put, List.setIfInBounds_toArray, List.set_cons_zero, List.set_cons_succ, List.getElem_toArray, List.getElem_cons_succ, List.getElem_cons_zero]
        refine wpAnyH_done (by kernel_rfl) ?_ _
        go_wp2
        exact ⟨⟨q + 1, by simp, by omega, by have := HE.out; omega, hHeld⟩, by simp only [intOf]; omega⟩
    · have hqe : q = s.length := by omega
      have HIM : Hid (¬ m < r.length) := by show ¬ _; omega
      subst hqe
      clear hR hPl hST hml hi hq hil
      go_upto_region 2 with fail
      refine wp_region_held_drew (S := (fun v => RB w v)) (by kernel_rfl) hB.drew (fun hHeld => ?_)
      clear hB
      refine wpAnyH_take (i := 0) (v := ?_) rfl (by kernel_rfl) (by kernel_rfl) (by kernel_rfl) (fun _ _ _ h => h) (Or.inl ⟨by rfl, ?_⟩) hHeld ?_
      rotate_left
      · intro u hSu; go_simp; try with_reducible rfl
      simp only [Act.put, List.setIfInBounds_toArray, List.set_cons_zero, List.set_cons_succ, List.getElem_toArray, List.getElem_cons_succ, List.getElem_cons_zero]
      refine wpAnyH_take (i := 1) (v := ?_) rfl (by kernel_rfl) (by kernel_rfl) (by kernel_rfl) (fun _ _ _ h => h) (Or.inl ⟨by rfl, ?_⟩) hHeld ?_
      rotate_left
      · intro u hSu; go_simp; try with_reducible rfl
      simp only [Act.put, List.setIfInBounds_toArray, List.set_cons_zero, List.set_cons_succ, List.getElem_toArray, List.getElem_cons_succ, List.getElem_cons_zero]
      refine wpAnyH_take (i := 2) (v := ?_) rfl (by kernel_rfl) (by kernel_rfl) (by kernel_rfl) (fun _ _ _ h => h) (Or.inl ⟨by rfl, ?_⟩) hHeld ?_
      rotate_left
      · intro u hSu; go_simp; try with_reducible rfl
      simp only [Act.put, List.setIfInBounds_toArray, List.set_cons_zero, List.set_cons_succ, List.getElem_toArray, List.getElem_cons_succ, List.getElem_cons_zero]
      refine wpAnyH_take (i := 3) (v := ?_) rfl (by kernel_rfl) (by kernel_rfl) (by kernel_rfl) (fun _ _ _ h => h) (Or.inl ⟨by rfl, ?_⟩) hHeld ?_
      rotate_left
      · intro u hSu; go_simp; try with_reducible rfl
      simp only [Act.put, List.setIfInBounds_toArray, List.set_cons_zero, List.set_cons_succ, List.getElem_toArray, List.getElem_cons_succ, List.getElem_cons_zero]
      refine wpAnyH_take (i := 4) (v := ?_) rfl (by kernel_rfl) (by kernel_rfl) (by kernel_rfl) (fun _ _ _ h => h) (Or.inl ⟨by rfl, ?_⟩) hHeld ?_
      rotate_left
      · intro u hSu; go_simp; try with_reducible rfl
      simp only [Act.put, List.setIfInBounds_toArray, List.set_cons_zero, List.set_cons_succ, List.getElem_toArray, List.getElem_cons_succ, List.getElem_cons_zero]
      refine wpAnyH_take (i := 5) (v := undef) rfl (by kernel_rfl) (by kernel_rfl) (by kernel_rfl) (fun _ _ _ h => h) (Or.inr ⟨by rfl, rfl⟩) hHeld ?_
      simp only [Act.put, List.setIfInBounds_toArray, List.set_cons_zero, List.set_cons_succ, List.getElem_toArray, List.getElem_cons_succ, List.getElem_cons_zero]
      refine wpAnyH_take (i := 6) (v := undef) rfl (by kernel_rfl) (by kernel_rfl) (by kernel_rfl) (fun _ _ _ h => h) (Or.inr ⟨by rfl, rfl⟩) hHeld ?_
      simp only [Act.put, List.setIfInBounds_toArray, List.set_cons_zero, List.set_cons_succ, List.getElem_toArray, List.getElem_cons_succ, List.getElem_cons_zero]
      refine wpAnyH_take (i := 7) (v := undef) rfl (by kernel_rfl) (by kernel_rfl) (by kernel_rfl) (fun _ _ _ h => h) (Or.inr ⟨by rfl, rfl⟩) hHeld ?_
      simp only [Act.put, List.setIfInBounds_toArray, List.set_cons_zero, List.set_cons_succ, List.getElem_toArray, List.getElem_cons_succ, List.getElem_cons_zero]
      refine wpAnyH_take (i := 8) (v := undef) rfl (by kernel_rfl) (by kernel_rfl) (by kernel_rfl) (fun _ _ _ h => h) (Or.inr ⟨by rfl, rfl⟩) hHeld ?_
      simp only [Act.put, List.setIfInBounds_toArray, List.set_cons_zero, List.set_cons_succ, List.getElem_toArray, List.getElem_cons_succ, List.getElem_cons_zero]
      refine wpAnyH_take (i := 9) (v := undef) rfl (by kernel_rfl) (by kernel_rfl) (by kernel_rfl) (fun _ _ _ h => h) (Or.inr ⟨by rfl, rfl⟩) hHeld ?_
      simp only [Act.put, List.setIfInBounds_toArray, List.set_cons_zero, List.set_cons_succ, List.getElem_toArray, List.getElem_cons_succ, List.getElem_cons_zero]
      refine wpAnyH_take (i := 10) (v := undef) rfl (by kernel_rfl) (by kernel_rfl) (by kernel_rfl) (fun _ _ _ h => h) (Or.inr ⟨by rfl, rfl⟩) hHeld ?_
      simp only [Act.put, List.setIfInBounds_toArray, List.set_cons_zero, List.set_cons_succ, List.getElem_toArray, List.getElem_cons_succ, List.getElem_cons_zero]
      refine wpAnyH_take (i := 11) (v := undef) rfl (by kernel_rfl) (by kernel_rfl) (by kernel_rfl) (fun _ _ _ h => h) (Or.inr ⟨by rfl, rfl⟩) hHeld ?_
      simp only [Act.put, List.setIfInBounds_toArray, List.set_cons_zero, List.set_cons_succ, List.getElem_toArray, List.getElem_cons_succ, List.getElem_cons_zero]
      refine wpAnyH_take (i := 12) (v := ?_) rfl (by kernel_rfl) (by kernel_rfl) (by kernel_rfl) (fun _ _ _ h => h) (Or.inl ⟨by rfl, ?_⟩) hHeld ?_
      rotate_left
      · intro u hSu; go_simp; try with_reducible rfl
      simp only [Act.put, List.setIfInBounds_toArray, List.set_cons_zero, List.set_cons_succ, List.getElem_toArray, List.getElem_cons_succ, List.getElem_cons_zero]
      refine wpAnyH_done (by kernel_rfl) ?_ _
      generalize wr.drew = W at *
      have HR2 : Hid (gotV p none = R) := by
        have := HRR.out
        rw [if_neg (fun h => HIM.out h.1)] at this
        exact this
      clear HRR
      obtain ⟨z0, z1, z2, z3, z4, fr, hbl⟩ := id hHeld
      have f0 := fr 0
      have f1 := fr 1
      have f2 := fr 2
      have f3 := fr 3
      have f4 := fr 4
      clear fr
      go_wp2
      obtain ⟨⟨x0, x1, x2, x3, x4⟩, hbX⟩ := hHeld.fill (.int .i64 0) (.int .i64 0) (.string { data := #[] }) (.int .i64 0) (.int .i64 0)
      generalize ((((W.setCell ⟨w.heap.size, 0, none⟩ (.int .i64 0)).setCell ⟨w.heap.size, 1, none⟩ (.int .i64 0)).setCell ⟨w.heap.size, 2, none⟩ (.string { data := #[] })).setCell ⟨w.heap.size, 3, none⟩ (.int .i64 0)).setCell ⟨w.heap.size, 4, none⟩ (.int .i64 0) = X at *
      refine bodyPost_ret (v := .agg #[.int .i64 0, .int .i64 0, .string { data := #[] }, .int .i64 0, .int .i64 0]) (by simp [results, Tryz.results70, go_sem, x0, x1, x2, x3, x4]) rfl ⟨?_, hbX⟩
      rw [← HR2.out]; first | rfl | simp [gotV]

end Go.Proofs.YthofogokpolhdaaGreatDoor.Toks

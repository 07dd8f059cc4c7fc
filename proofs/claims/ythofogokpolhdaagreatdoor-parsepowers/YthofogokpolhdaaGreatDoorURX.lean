/-
  Contract of tree.Nest. Contract of the law's awake.
-/
import Derived.Test.YthofogokpolhdaaGreatDoorULX
import Derived.StillTailTactics
import Derived.Test.YthofogokpolhdaaGreatDoorUK
import Derived.Test.YthofogokpolhdaaGreatDoorUOX
namespace Go.Proofs.YthofogokpolhdaaGreatDoor.Trees
open Go.RowKit Go.Shelf
open Go.Proofs.YthofogokpolhdaaGreatDoor.Style (bs bs_size bs_at getD_at bs_of)
open Go.Proofs.YthofogokpolhdaaGreatDoor.Toks (cell_lt cell_same Grid SliceAt Spare Above wpList_app)
set_option linter.unusedVariables false
set_option linter.unusedSimpArgs false

/-- While Nest goes: the box of the step. -/
structure NsI (w W : World) (xb : Nat) (op : Int) : Prop where
  below : Below w.heap.size w W
  q0 : W.cell? ⟨xb, 0, none⟩ = some (.int .i64 op)
theorem NsI.go {w W W' : World} {xb : Nat} {op : Int} (h : NsI w W xb op) (hb : Below W.heap.size W W') : NsI w W' xb op := ⟨h.below.trans (hb.mono h.below.size), (hb.cell (p := ⟨xb, 0, none⟩) (cell_lt h.q0)).trans h.q0⟩
theorem NsI.drew {w W : World} {xb : Nat} {op : Int} (h : NsI w W xb op) : NsI w W.drew xb op := h.go (Below.refl _ _).drew
theorem cnt_pre {ok : Int → Int → Bool} {L : List Stp} {m : Nat} (h : cntZ ok L 0 = some m) (i : Nat) : ∃ k, cntZ ok (L.take i) 0 = some k := by
  cases e : cntZ ok (L.take i) 0 with
  | some k => exact ⟨k, rfl⟩
  | none => rw [cnt_stop e] at h; cases h
theorem slice_part (o : Option Addr) (n c k : Nat) (hk : k ≤ n) (W : World) : (Instr.slice 92 (.slice o n c) (some (.int .i64 (k : Int))) none none).run Tryz.prog W = .ok (.slice (if c = k then o else o.map (·.add (k * 2))) (n - k) (c - k)) W := by
  have hs : (sizeOf (Tryz.prog.elem 92)).run Tryz.prog W = .ok 2 W := by kernel_rfl
  rw [run_slice_l (P := Tryz.prog) (w := W) 92 o n c (by kernel_rfl) .i64 (k : Int) (by omega) (by omega), hs]
  show Result.ok (sliced _ _ _ _ _) W = _
  unfold sliced
  simp
theorem slice_first (o : Option Addr) (n c k : Nat) (hk : k ≤ c) (W : World) : (Instr.slice 92 (.slice o n c) none (some (.int .i64 (k : Int))) none).run Tryz.prog W = .ok (.slice o k c) W := by
  have hs : (sizeOf (Tryz.prog.elem 92)).run Tryz.prog W = .ok 2 W := by kernel_rfl
  rw [run_slice_h (P := Tryz.prog) (w := W) 92 o n c (by kernel_rfl) .i64 (k : Int) (by omega) (by omega), hs]
  show Result.ok (sliced _ _ _ _ _) W = _
  unfold sliced
  rw [Nat.zero_mul, Nat.sub_zero, Nat.sub_zero, Int.toNat_natCast]
  have h0 : (if c = 0 then o else o.map (·.add 0)) = o := by
    cases o with
    | none => simp
    | some a => simp [Addr.add_zero']
  rw [h0]

theorem step_app {P : Program} {ops : Array Oper} {o : Oper} {a : Act} {w : World} {K : Act → World → Prop} {Q : Exit → Act → World → Prop} {E : Prop}
    (hg : o.guard = none) (s x : Operand) (t tx : TypeId) (ho : o.op = .call { callee := .builtin .append, args := #[s, x], argTypes := #[t, tx] }) {v : Value} {V : World}
    (hr : ∀ ty, (Builtin.append_ #[t, tx] ty #[a.eval s, a.eval x]).run P w = .ok v V) (hK : K (a.put o.dst v) V) :
    if Region.wanted o (yielded ops a.tmps) = true then Oper.wp P o a w K Q else E := by
  have hw : Region.wanted o (yielded ops a.tmps) = true := by simp [Region.wanted, hg]
  rw [if_pos hw]
  unfold Oper.wp execOp
  simp only [ho, resolve, invoke, builtin, Sem.run_bind, Sem.run_pure, Result.andThen_ok, List.map_toArray, List.map_cons, List.map_nil, hr]
  exact hK
theorem push_hid {B : Nat} {w1 : World} {o : Option Addr} {c k : Nat} {M : List (Int × Nat)} {W W' : World} (h : StkI B w1 (.slice o M.length c) M W) (hb : Below W.heap.size W W') (hk : k ≤ M.length) (hl : M.length ≤ 1000) (x : Int × Nat) {xb : Nat} {u : Value} (hq : W'.cell? ⟨xb, 0, none⟩ = some u) (hx : w1.heap.size = B) (ho : ∀ a, o = some a → a.block < xb) :
    ∃ V o' c', Hid ((∀ ty, (Builtin.append_ #[92, 92] ty #[.slice o k c, .slice (some ⟨W'.heap.size, 0, none⟩) 1 1]).run Tryz.prog (W'.alloc (.cells #[.int .i64 x.1, .int .i64 (x.2 : Int)] 94)) = .ok (.slice o' (k + 1) c') V) ∧ StkI B w1 (.slice o' (k + 1) c') (M.take k ++ [x]) V) ∧ (W'.alloc (.cells #[.int .i64 x.1, .int .i64 (x.2 : Int)] 94)).cell? ⟨xb, 0, none⟩ = some u ∧ V.cell? ⟨xb, 0, none⟩ = some u := by
  subst hx
  have h7 := h.go h.below.size hb
  obtain ⟨V, o', c', hr, hK, hD⟩ := h7.push (k := k) h7.below.size hl hk x
  exact ⟨V, o', c', ⟨hr, hK⟩, (((Below.refl _ _).alloc (Nat.le_refl _) _).cell (p := ⟨xb, 0, none⟩) (cell_lt hq)).trans hq, cell_same hq (hD xb (cell_lt hq) (fun a e => by have := ho a e; omega))⟩

set_option maxRecDepth 100000 in
set_option maxHeartbeats 4000000 in
theorem nest_any (s : Value) (L : List Stp) (w : World) (hV : View w s L) (hF : ∀ x ∈ L, x.text.length ≤ 9223372036854775807) (hl : L.length ≤ 100000) :
    Calls Tryz.prog 28 #[s] w fun e w' => e = .returned (.int .i64 (nestZ symT L)) ∧ Below w.heap.size w w' := by
  have hS := sound_any s L w hV hF hl
  obtain ⟨o, c, rfl, hlc⟩ := hV.slice
  cases hs : soundZ symT L with
  | false =>
    have hz : nestZ symT L = -1 := by unfold nestZ; rw [hs]; rfl
    rw [hs] at hS
    rw [hz]
    clear hV hF
    go_enter Tryz.func28, Tryz.ntmps28
    go_wp2_with fail
    refine hS.mono ?_
    rintro e w2 ⟨rfl, hb2⟩
    go_wp2_with fail
    go_ret
    exact ⟨rfl, hb2⟩
  | true =>
    rw [hs] at hS
    go_enter Tryz.func28, Tryz.ntmps28
    go_wp2_with fail
    refine hS.mono ?_
    rintro e w2 ⟨rfl, hb2⟩
    have hu2 := hb2.size
    have hst0 : StkI w.heap.size w (.slice none 0 0) (stkZ L 0) w2 := ⟨.inl ⟨rfl, rfl⟩, fun a n c e => (by cases e), hb2⟩
    have hcn : cntZ symT L 0 = some 1 := by
      unfold soundZ at hs
      rw [Bool.and_eq_true, beq_iff_eq] at hs
      exact hs.2
    have h255 : L.length ≤ 255 := by obtain ⟨t, _, rfl, hl⟩ := sound_tree hs; exact hl
    have HC := Lib.hid hcn
    have HS := Lib.hid hs
    have HAb := Lib.hid above_any
    clear hcn hs hF hS
    go_wp2_with fail
    go_loopw [3, 5, 6, 12] (fun x5 x6 x7 y wr => ∃ (i : Nat) (o' : Option Addr) (c' : Nat), x5 = .slice o' (stkZ L i).length c' ∧ y = .int .i64 (i : Int) ∧ i ≤ L.length ∧ StkI w.heap.size w (.slice o' (stkZ L i).length c') (stkZ L i) wr ∧ Hid (∀ x ∈ stkZ L i, x.2 ≤ i)) (fun _ _ _ y _ => (L.length - intOf y).toNat)
    case atStart => exact ⟨0, none, 0, rfl, rfl, by omega, hst0, by intro x hx; cases hx⟩
    case round =>
      clear hst0 hb2 hu2
      obtain ⟨i, o', c', rfl, rfl, hil, hK, HD⟩ := hrel
      by_cases hlt : i < L.length
      · have hii : (i : Int) < L.length := by omega
        obtain ⟨k, hk⟩ := cnt_pre HC.out i
        obtain ⟨k', hk'⟩ := cnt_pre HC.out (i + 1)
        have hn := cnt_next hlt hk
        rw [hk'] at hn
        have hmk : takesZ (L.getD i default).op ≤ k := by
          by_cases h : mayZ symT (L.getD i default) = true ∧ takesZ (L.getD i default).op ≤ k
          · exact h.2
          · rw [if_neg h] at hn; cases hn
        have hlenk : (stkZ L i).length = k := by
          unfold stkZ
          rw [List.length_reverse]
          exact shapes_length symT (L.take i) 0 k [] rfl hk
        have hnext := stk_next hlt (by rw [hlenk]; exact hmk)
        have hki : k ≤ i := by
          have := cnt_le symT (L.take i) 0 k hk
          rw [List.length_take] at this; omega
        obtain ⟨o1, c1, e1, _, hv1⟩ := hV.go hK.below
        obtain ⟨b1, f1, eo1, v0, v1, v2, v3, v4, v5⟩ := hv1 i hlt
        injection e1 with e1 _ e3
        subst e1 e3
        subst eo1
        have hT := fun W => takes_any (L.getD i default).op W
        have ht2 := takes_le (L.getD i default).op
        obtain ⟨x, hx⟩ : ∃ x, L.getD i default = x := ⟨_, rfl⟩
        rw [hx] at v0 v1 v2 v3 v4 v5 hnext hmk hT ht2
        have hu3 : Below wr.heap.size wr (wr.alloc (.cells x.cs 47)) := (Below.refl _ _).alloc (Nat.le_refl _) _
        have hx3 := StAt.new wr x
        have hob : ∀ a, o' = some a → a.block < wr.heap.size := fun a ea => by
          rcases hK.at_ with ⟨_, e⟩ | ⟨b, c2, e, _, _, hg⟩
          · injection e with e1 _ _; rw [e1] at ea; cases ea
          · injection e with e1 _ _; rw [e1] at ea; injection ea with ea; subst ea; exact hg.2.2
        have hK3 := hK.go hK.below.size hu3
        obtain ⟨xo, xp, xa, xn, xm, xt⟩ := x
        simp only [Stp.cs] at hu3 hx3 hK3
        simp only at v0 v1 v2 v3 v4 v5 hnext hmk hT ht2
        have q0 := hx3.c0
        simp only at q0
        have HNX := Lib.hid hnext
        clear hn hk hk' hnext hx hv1 hu3 hx3 hK
        generalize stkZ L i = M at *
        subst hlenk
        go_upto_region 7 with fail
        have hpt := hK3.part (k := M.length - takesZ xo) rfl (by omega)
        have hNs : NsI w (wr.alloc (.cells #[.int .i64 xo, .int .i64 xp, .int .i64 xa, .int .i64 xn, .int .i64 xm, .string (bs xt)] 47)) wr.heap.size xo := ⟨hK3.below, q0⟩
        generalize wr.alloc (.cells #[.int .i64 xo, .int .i64 xp, .int .i64 xa, .int .i64 xn, .int .i64 xm, .string (bs xt)] 47) = WX at *
        clear v0 v1 v2 v3 v4 v5
        have hMl : (M.length : Int) ≤ 255 := by omega
        have hAb := fun (sv : Value) W (hV : ShView W sv (M.drop (M.length - takesZ xo))) => HAb.out xo sv (M.drop (M.length - takesZ xo)) W hV (by rw [List.length_drop]; omega) (fun y hy => by have := HD.out y (List.mem_of_mem_drop hy); omega)
        obtain ⟨rs, hrs⟩ : ∃ rs, M.length - takesZ xo = rs := ⟨_, rfl⟩
        have hri : (M.length : Int) - (takesZ xo : Int) = (rs : Int) := by omega
        have hrl : rs ≤ M.length := by omega
        have hcc : M.length ≤ c' := by
          rcases hK3.at_ with ⟨h0, e⟩ | ⟨b, c2, e, hc, _⟩
          · omega
          · injection e with _ _ e3; omega
        have hsp := fun W => slice_part o' M.length c' rs hrl W
        have hsf := fun W => slice_first o' M.length c' rs (by omega) W
        rw [hrs] at hpt hAb
        have HPU : Hid (pushZ xo M = M.take rs ++ [(xo, upD xo (M.drop rs) (M.drop rs).length)]) := by
          show _ = _
          unfold pushZ
          rw [hrs]
        generalize takesZ xo = m at *
        generalize upD xo (M.drop rs) (M.drop rs).length = up at *
        generalize wr.heap.size = xb at *
        obtain ⟨oo, hoo⟩ : ∃ oo, (if c' = rs then o' else o'.map (·.add (rs * 2))) = oo := ⟨_, rfl⟩
        rw [hoo] at hpt hsp
        have HRS := Lib.hid hrs
        clear hoo hrs
        go_wp2_with fail
        refine (hT _).mono ?_
        rintro e w5 ⟨rfl, rfl⟩
        clear hT
        go_upto_region 8 with fail
        have hK6 := hK3.go hK3.below.size (Below.refl _ _).drew
        have hpt6 := hpt.go (Below.refl _ _).drew
        have q6 : WX.drew.cell? ⟨xb, 0, none⟩ = some (.int .i64 xo) := q0
        have HK6 := Lib.hid (And.intro hK6 hpt6)
        clear hK3 hpt hNs hK6 hpt6
        go_region_held3 (fun v => v.cell? ⟨xb, 0, none⟩ = some (.int .i64 xo))
          (first | with_reducible exact q6 | with_reducible exact q7 | with_reducible exact q9 | with_reducible exact q8 | go_keep)
          (first
            | (go_at_call 45; refine (hAb _ _ HK6.out.2).mono ?_; rintro e V7 ⟨rfl, hb7⟩; have q7 := (hb7.cell (p := ⟨xb, 0, none⟩) (cell_lt q6)).trans q6; obtain ⟨V8, o8, c8, HK8, q9, q8⟩ := push_hid HK6.out.1 hb7 hrl (by omega) (xo, up) q7 rfl hob; clear hb7)
            | (refine step_app rfl (Operand.tmp 24) (Operand.tmp 31) 92 92 rfl (v := Value.slice o8 (rs + 1) c8) (V := V8) ?_ ?_; · exact HK8.out.1))
        have hrx := HK8.out.1
        have hK8 := HK8.out.2
        clear HK8
        have HE : Hid (stkZ L (i + 1) = M.take rs ++ [(xo, up)] ∧ ∀ x ∈ stkZ L (i + 1), x.2 ≤ i + 1) := by
          refine ⟨HNX.out.trans HPU.out, ?_⟩
          rw [HNX.out]
          exact push_le xo M i HD.out
        have hrl2 : (M.take rs ++ [(xo, up)]).length = rs + 1 := by rw [List.length_append, List.length_take]; simp; omega
        rw [← HE.out.1] at hK8 hrl2
        have HK8 : Hid (StkI w.heap.size w (.slice o8 (stkZ L (i + 1)).length c8) (stkZ L (i + 1)) V8 ∧ (stkZ L (i + 1)).length = rs + 1) := ⟨by rw [hrl2]; exact hK8, hrl2⟩
        clear hrx hK8 HNX HPU HD hrl2 HRS
        all_goals go_wp2_with fail
        all_goals exact ⟨⟨i + 1, o8, c8, by rw [HK8.out.2], by simp, by omega, HK8.out.1, HE.out.2⟩, by simp only [intOf]; omega⟩
      · have hii : ¬ (i : Int) < L.length := by omega
        have hie : i = L.length := by omega
        subst hie
        have hst : ∃ x, stkZ L L.length = [x] ∧ nestZ symT L = (x.2 : Int) := by
          have h1 := shapes_length symT L 0 1 [] rfl HC.out
          obtain ⟨x, hx⟩ := List.length_eq_one_iff.1 h1
          refine ⟨x, ?_, ?_⟩
          · unfold stkZ
            rw [List.take_of_length_le (Nat.le_refl _), hx]; rfl
          · unfold nestZ
            rw [if_pos HS.out, hx]; rfl
        obtain ⟨x, hx1, hx2⟩ := hst
        rw [hx1] at hK
        rw [hx1]
        have hx0 : ∃ b, o' = some ⟨b, 0, none⟩ ∧ wr.cell? ⟨b, 1, none⟩ = some (.int .i64 (x.2 : Int)) := by
          rcases hK.at_ with ⟨h0, e⟩ | ⟨b, c2, e, hc, hm, hg⟩
          · cases h0
          · injection e with e1 _ _
            exact ⟨b, e1, hg.1 0 (by simp) 1 (by omega)⟩
        obtain ⟨b, rfl, hx3⟩ := hx0
        have hB := hK.below
        have HX := Lib.hid hx2
        clear hK hx1 hx2 HD HC HAb
        simp only [List.length_cons, List.length_nil]
        go_wp2_with fail
        go_ret
        exact ⟨by rw [HX.out]; rfl, hB⟩

end Go.Proofs.YthofogokpolhdaaGreatDoor.Trees

namespace Go.Proofs.YthofogokpolhdaaGreatDoor.Trees
open Go.RowKit Go.Shelf
open Go.Proofs.YthofogokpolhdaaGreatDoor.Style (bs bs_size bs_at getD_at bs_of)
open Go.Proofs.YthofogokpolhdaaGreatDoor.Toks (cell_lt cell_same SliceAt Above Grid Spare)
set_option linter.unusedVariables false
set_option linter.unusedSimpArgs false

theorem cs_size (x : Stp) : x.cs.toList.length = 6 := rfl
theorem flat6 : ∀ (L : List Stp) (i j : Nat), i < L.length → j < 6 → (L.flatMap fun x => x.cs.toList)[i * 6 + j]? = some (cellS L i j)
  | [], i, j, hi, _ => absurd hi (by simp)
  | x :: r, 0, j, _, hj => by
    rw [List.flatMap_cons, Nat.zero_mul, Nat.zero_add, List.getElem?_append_left (by rw [cs_size]; exact hj)]
    unfold cellS
    show _ = some (x.cs[j]?.getD undef)
    rw [Array.getElem?_toList, Array.getElem?_eq_getElem (show j < x.cs.size from hj)]; rfl
  | x :: r, i + 1, j, hi, hj => by
    rw [List.flatMap_cons, List.getElem?_append_right (by rw [cs_size]; omega), cs_size, show (i + 1) * 6 + j - 6 = i * 6 + j by omega, flat6 r i j (by simpa using hi) hj]
    rfl
theorem flat6_size : ∀ L : List Stp, (L.flatMap fun x => x.cs.toList).length = L.length * 6
  | [] => rfl
  | x :: r => by rw [List.flatMap_cons, List.length_append, cs_size, flat6_size r, List.length_cons]; omega
/-- A row of steps that is made. -/
theorem StepsAt.new (w : World) (t : TypeId) (L : List Stp) (cs : Array Value) (h : cs.toList = L.flatMap fun x => x.cs.toList) : StepsAt (w.alloc (.cells cs t)) (.slice (some ⟨w.heap.size, 0, none⟩) L.length L.length) L := by
  have hg : Grid (w.alloc (.cells cs t)) w.heap.size 6 L.length (cellS L) := Grid.new w t 6 L.length _ cs (fun i hi j hj => by
    rw [← Array.getElem?_toList, h]; exact flat6 L i j hi hj)
  refine .inr ⟨_, _, rfl, Nat.le_refl _, ?_, hg⟩
  have hs : cs.size = L.length * 6 := by rw [← Array.length_toList, h, flat6_size]
  rw [← hs]
  exact Toks.Spare.of_cells (World.alloc_heap_new w _)

end Go.Proofs.YthofogokpolhdaaGreatDoor.Trees


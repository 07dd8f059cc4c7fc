/-
  The walk of ParseJoins.
-/
import Derived.Test.YthofogokpolhdaaGreatDoorQW
import Derived.Test.YthofogokpolhdaaGreatDoorQV
import Derived.Test.YthofogokpolhdaaGreatDoorRN
namespace Go.Proofs.YthofogokpolhdaaGreatDoor.Parses
open Go.RowKit Go.Shelf
open Go.Proofs.YthofogokpolhdaaGreatDoor.Trees (Stp Tr View symT IV StepsAt cellS same_any pair_i pair_ii pair_iii PairQ step_app2 copy_steps app_steps)
open Go.Proofs.YthofogokpolhdaaGreatDoor.Style (bs bs_size bs_app bs_toList stZ St rof_any one_byte plainL)
open Go.Proofs.YthofogokpolhdaaGreatDoor.Toks (cell_lt cell_same Env Grid)
set_option linter.unusedVariables false
set_option linter.unusedSimpArgs false

/-- Two rows put behind nothing, one behind the other. -/
theorem two_rows {V : World} {s1 s2 : Value} {L1 L2 : List Stp} {n1 n : Nat} (h1 : View V s1 L1) (h2 : View V s2 L2) (hl : L1.length + L2.length ≤ 1000) (h0 : 0 < L1.length) (e1 : L1.length = n1) (e : L1.length + L2.length = n) :
    ∃ V1 V2 o1 c1 o2 c2, (∀ ty, (Builtin.append_ #[34, 34] ty #[.slice (some ⟨V.heap.size, 0, none⟩) 0 0, s1]).run Tryz.prog (V.alloc (.cells #[] 47)) = .ok (.slice o1 n1 c1) V1) ∧ (∀ ty, (Builtin.append_ #[34, 34] ty #[.slice o1 n1 c1, s2]).run Tryz.prog V1 = .ok (.slice o2 n c2) V2) ∧ StepsAt V2 (.slice o2 n c2) (L1 ++ L2) ∧ Below V.heap.size V V1 ∧ Below V.heap.size V V2 := by
  subst e1 e
  obtain ⟨V1, o1, c1, hr1, g1, g2, g3, g4⟩ := copy_steps h1 (by omega)
  obtain ⟨V2, s', hr2, k1, k2, k3, ⟨o2, c2, rfl, _, _⟩, _⟩ := app_steps g1 g2 g3.size (h2.go g3) (by omega) (.inl (by omega))
  exact ⟨V1, V2, o1, c1, o2, c2, hr1, hr2, k1, g3, g3.trans k3⟩
/-- What the law holds while it puts together. -/
structure JnI (w : World) (Lp Lq : List Stp) (sp sq : Value) (bp bq yb : Nat) (p2 q2 : Value) (ym yd : Int) (W : World) : Prop where
  xp : Err4 W bp sp (.int .i64 0) p2 (.int .i64 0)
  vp : View W sp Lp
  xq : Err4 W bq sq (.int .i64 0) q2 (.int .i64 0)
  vq : View W sq Lq
  y1 : W.cell? ⟨yb, 1, none⟩ = some (.int .u8 ym)
  y2 : W.cell? ⟨yb, 2, none⟩ = some (.int .u8 yd)
  env : Env W
  below : Below w.heap.size w W
theorem JnI.go {w W W' : World} {Lp Lq : List Stp} {sp sq : Value} {bp bq yb : Nat} {p2 q2 : Value} {ym yd : Int} (h : JnI w Lp Lq sp sq bp bq yb p2 q2 ym yd W) (hb : Below W.heap.size W W') : JnI w Lp Lq sp sq bp bq yb p2 q2 ym yd W' :=
  ⟨h.xp.go hb, h.vp.go hb, h.xq.go hb, h.vq.go hb, (hb.cell (p := ⟨yb, 1, none⟩) (cell_lt h.y1)).trans h.y1, (hb.cell (p := ⟨yb, 2, none⟩) (cell_lt h.y2)).trans h.y2, h.env.go hb, h.below.trans (hb.mono h.below.size)⟩
theorem JnI.drew {w W : World} {Lp Lq : List Stp} {sp sq : Value} {bp bq yb : Nat} {p2 q2 : Value} {ym yd : Int} (h : JnI w Lp Lq sp sq bp bq yb p2 q2 ym yd W) : JnI w Lp Lq sp sq bp bq yb p2 q2 ym yd W.drew := h.go (Below.refl _ _).drew

/-- Likewise, while it parses both. -/
structure JmI (w : World) (Lb : List Stp) (sb : Value) (yb : Nat) (ym yd : Int) (W : World) : Prop where
  vb : View W sb Lb
  y1 : W.cell? ⟨yb, 1, none⟩ = some (.int .u8 ym)
  y2 : W.cell? ⟨yb, 2, none⟩ = some (.int .u8 yd)
  env : Env W
  below : Below w.heap.size w W
theorem JmI.go {w W W' : World} {Lb : List Stp} {sb : Value} {yb : Nat} {ym yd : Int} (h : JmI w Lb sb yb ym yd W) (hb : Below W.heap.size W W') : JmI w Lb sb yb ym yd W' :=
  ⟨h.vb.go hb, (hb.cell (p := ⟨yb, 1, none⟩) (cell_lt h.y1)).trans h.y1, (hb.cell (p := ⟨yb, 2, none⟩) (cell_lt h.y2)).trans h.y2, h.env.go hb, h.below.trans (hb.mono h.below.size)⟩
/-- Likewise, while it compares. -/
structure JdI (w : World) (Lb Lm Ld : List Stp) (sb sm sd : Value) (bm bd : Nat) (m2 d2 : Value) (W : World) : Prop where
  vb : View W sb Lb
  xm : Err4 W bm sm (.int .i64 0) m2 (.int .i64 0)
  vm : View W sm Lm
  xd : Err4 W bd sd (.int .i64 0) d2 (.int .i64 0)
  vd : View W sd Ld
  below : Below w.heap.size w W
theorem JdI.go {w W W' : World} {Lb Lm Ld : List Stp} {sb sm sd : Value} {bm bd : Nat} {m2 d2 : Value} (h : JdI w Lb Lm Ld sb sm sd bm bd m2 d2 W) (hb : Below W.heap.size W W') : JdI w Lb Lm Ld sb sm sd bm bd m2 d2 W' :=
  ⟨h.vb.go hb, h.xm.go hb, h.vm.go hb, h.xd.go hb, h.vd.go hb, h.below.trans (hb.mono h.below.size)⟩
theorem JdI.drew {w W : World} {Lb Lm Ld : List Stp} {sb sm sd : Value} {bm bd : Nat} {m2 d2 : Value} (h : JdI w Lb Lm Ld sb sm sd bm bd m2 d2 W) : JdI w Lb Lm Ld sb sm sd bm bd m2 d2 W.drew := h.go (Below.refl _ _).drew

set_option maxRecDepth 100000 in
set_option maxHeartbeats 4000000 in
theorem joins_walk (n : Int) (va : Value) (la : List Int) (vb : Value) (lb : List Int) (w : World) (hE : Env w) (hn : -9223372036854775808 ≤ n ∧ n ≤ 9223372036854775807) (hVa : IV w va la) (hVb : IV w vb lb) (hla : la.length ≤ 9223372036854775807) (hlb : lb.length ≤ 9223372036854775807) :
    Calls Tryz.prog 6 #[.int .i64 n, va, vb] w fun e w' => e = .returned (.bool true) ∧ Below w.heap.size w w' := by
  have hR := rest_any n 5
  have hk := restN_lt n 5 (by omega)
  generalize restN n 5 = k at hR hk
  have hki : (k : Int) < 5 := by omega
  have hTa := fun W (h : IV W va la) => ltext_v k hk va la W h hla
  have hTb := fun W (h : IV W vb lb) => ltext_v k hk vb lb W h hlb
  obtain ⟨oa, ca, rfl, hca, _⟩ := id hVa
  obtain ⟨ob, cb, rfl, hcb, _⟩ := id hVb
  have hP : ∀ (s : List UInt8) (W : World), Env W → s.length ≤ 255 → Calls Tryz.prog 17 #[.int .i64 (1 + (k : Int)), .string (bs s)] W (TreeEnd k (pToks ((k : Int) + 1) s) (s.length : Int) W) := fun s W hW hl => by
    have h := parse_any k s W hW hk hl
    rw [show 1 + (k : Int) = (k : Int) + 1 by omega]
    exact h
  have hO : ∀ X, Calls Tryz.prog 20 #[.int .i64 (1 + (k : Int))] X fun e w' => e = .returned (stZ ((k : Int) + 1)).v ∧ Below X.heap.size X w' := fun X => by
    rw [show 1 + (k : Int) = (k : Int) + 1 by omega]
    exact rof_any _ X
  have ob1 := one_byte
  go_enter Tryz.func6, Tryz.ntmps6
  go_wp2_with fail
  refine (awake_yes w hE).mono ?_
  rintro e w1 ⟨rfl, hb1⟩
  have hE1 := hE.go hb1
  have hVa1 := hVa.go hb1
  have hVb1 := hVb.go hb1
  clear hE hVa hVb
  go_wp2_with fail
  refine (hR w1 (by omega) (by omega)).mono ?_
  rintro e w2 ⟨rfl, rfl⟩
  clear hR
  go_wp2_with fail
  refine (hTa w1 hVa1).mono ?_
  rintro e w2 ⟨⟨S, rfl, hS⟩, hb2⟩
  have hE2 := hE1.go hb2
  have hVb2 := hVb1.go hb2
  have hB2 := hb1.trans (hb2.mono hb1.size)
  clear hTa hE1 hVa1 hVb1 hb1 hb2 hca
  go_wp2_with fail
  refine (hTb w2 hVb2).mono ?_
  rintro e w3 ⟨⟨U, rfl, hU⟩, hb3⟩
  have hE3 := hE2.go hb3
  have hB3 := hB2.trans (hb3.mono hB2.size)
  clear hTb hE2 hVb2 hB2 hb3 hcb
  have hzs : ((bs S).size : Int) = (S.length : Int) := by rw [bs_size]
  have hzu : ((bs U).size : Int) = (U.length : Int) := by rw [bs_size]
  have hN := nests_any ((k : Int) + 1) U
  rw [show (k : Int) + 1 = 1 + (k : Int) by omega] at hN
  have ret : ∀ S : List UInt8, S ≠ [] → (bs S).toList.isEmpty = false := fun S h => by rw [bs_toList]; simpa using h
  have emp : (bs []).toList.isEmpty = true := by rw [bs_toList]; rfl
  by_cases hS0 : S = []
  · subst hS0
    clear hP hO hS hU hN ret
    go_wp2_with fail
    go_ret
    exact ⟨rfl, hB3⟩
  have hes := ret S hS0
  by_cases hU0 : U = []
  · subst hU0
    clear hP hO hS hU hN ret
    go_wp2_with fail
    go_ret
    exact ⟨rfl, hB3⟩
  have heu := ret U hU0
  rcases hS with h | ⟨T, hST, hF, h255, h30, _, hTl⟩
  · exact absurd h hS0
  rcases hU with h | ⟨T2, hUT, hF2, h2552, h302, _, hTl2⟩
  · exact absurd h hU0
  clear ret emp
  by_cases h252 : 252 < S.length + U.length
  · have h252i : (252 : Int) < (S.length : Int) + (U.length : Int) := by omega
    clear hP hO hN hF hF2 hST hUT hS0 hU0
    go_wp2_with fail
    go_ret
    exact ⟨rfl, hB3⟩
  have h252i : ¬ (252 : Int) < (S.length : Int) + (U.length : Int) := by omega
  have hxP := fun size => back_end hF size
  have hxQ := fun size => back_end hF2 size
  have hxM : ∀ size, treeAll k (pToks ((k : Int) + 1) (txtT k T ++ [byteZ (stZ ((k : Int) + 1)).mul] ++ 40 :: (txtT k T2 ++ [41]))) size = .ok (T.flat ++ T2.flat ++ [opStep 3]) := fun size => join_end hF hF2 (by omega) (op := 3) (.inl rfl) size
  have hxD : ∀ size, treeAll k (pToks ((k : Int) + 1) (txtT k T ++ [byteZ (stZ ((k : Int) + 1)).div] ++ 40 :: (txtT k T2 ++ [41]))) size = .ok (T.flat ++ T2.flat ++ [opStep 4]) := fun size => join_end hF hF2 (by omega) (op := 4) (.inr rfl) size
  rw [← hST] at hxP hxM hxD
  rw [← hUT] at hxQ hxM hxD
  have hN3 := hN w3 (by omega)
  generalize nestZ (1 + (k : Int)) U = nq at hN3
  clear hF hF2 hST hUT hS0 hU0 hN
  by_cases h31 : 31 < nq
  · clear hP hO hxP hxQ hxM hxD
    go_wp2_with fail
    refine hN3.mono ?_
    rintro e w4 ⟨rfl, hb4⟩
    have hB4 := hB3.trans (hb4.mono hB3.size)
    go_wp2_with fail
    go_ret
    exact ⟨rfl, hB4⟩
  go_wp2_with fail
  refine hN3.mono ?_
  rintro e w4 ⟨rfl, hb4⟩
  have hE4 := hE3.go hb4
  have hB4 := hB3.trans (hb4.mono hB3.size)
  have hOY := hO w4
  clear hN3 hE3 hB3 hb4 hO
  generalize stZ ((k : Int) + 1) = y at *
  obtain ⟨yf, ym, yd, yp, yo, yc⟩ := y
  simp only [St.v] at hOY
  dsimp only at hxM hxD
  go_wp2_with fail
  refine hOY.mono ?_
  rintro e w5 ⟨rfl, hb5⟩
  have hu5 := alloc_own w5 (.cells #[.bool yf, .int .u8 ym, .int .u8 yd, .int .u8 yp, .int .u8 yo, .int .u8 yc] 43)
  have y1 : (w5.alloc (.cells #[.bool yf, .int .u8 ym, .int .u8 yd, .int .u8 yp, .int .u8 yo, .int .u8 yc] 43)).cell? ⟨w5.heap.size, 1, none⟩ = some (.int .u8 ym) := by simp [go_sem]
  have y2 : (w5.alloc (.cells #[.bool yf, .int .u8 ym, .int .u8 yd, .int .u8 yp, .int .u8 yo, .int .u8 yc] 43)).cell? ⟨w5.heap.size, 2, none⟩ = some (.int .u8 yd) := by simp [go_sem]
  have hb5' := hb5.trans (hu5.mono hb5.size)
  have hE5 := hE4.go hb5'
  have hB5 := hB4.trans (hb5'.mono hB4.size)
  clear hOY hb5 hu5 hb5' hE4 hB4
  go_wp2_with fail
  generalize w5.alloc (.cells #[.bool yf, .int .u8 ym, .int .u8 yd, .int .u8 yp, .int .u8 yo, .int .u8 yc] 43) = Y5 at *
  generalize w5.heap.size = yb at *
  refine (hP S Y5 hE5 (by omega)).mono ?_
  rintro e w6 he
  obtain ⟨op, cp, rfl, hSp, -, hb6⟩ := end_ok he (hxP _)
  have hu6 := alloc_own w6 (.cells #[.slice op T.flat.length cp, .int .i64 0, .int .i64 (S.length : Int), .int .i64 0] 37)
  have hb6' := hb6.trans (hu6.mono hb6.size)
  have hE6 := hE5.go hb6'
  have hB6 := hB5.trans (hb6'.mono hB5.size)
  have hxp := Err4.new w6 (.slice op T.flat.length cp) (.int .i64 0) (.int .i64 (S.length : Int)) (.int .i64 0)
  have hVp := hSp.view.go hu6
  replace y1 := (hb6'.cell (p := ⟨yb, 1, none⟩) (cell_lt y1)).trans y1
  replace y2 := (hb6'.cell (p := ⟨yb, 2, none⟩) (cell_lt y2)).trans y2
  clear he hb6 hu6 hb6' hE5 hB5 hxP hSp
  go_wp2_with fail
  generalize w6.alloc (.cells #[.slice op T.flat.length cp, .int .i64 0, .int .i64 (S.length : Int), .int .i64 0] 37) = Y6 at *
  generalize w6.heap.size = bp at *
  refine (hP U Y6 hE6 (by omega)).mono ?_
  rintro e w7 he
  obtain ⟨oq, cq, rfl, hSq, -, hb7⟩ := end_ok he (hxQ _)
  have hu7 := alloc_own w7 (.cells #[.slice oq T2.flat.length cq, .int .i64 0, .int .i64 (U.length : Int), .int .i64 0] 37)
  have hb7' := hb7.trans (hu7.mono hb7.size)
  have hI : JnI w T.flat T2.flat (.slice op T.flat.length cp) (.slice oq T2.flat.length cq) bp w7.heap.size yb (.int .i64 (S.length : Int)) (.int .i64 (U.length : Int)) ym yd (w7.alloc (.cells #[.slice oq T2.flat.length cq, .int .i64 0, .int .i64 (U.length : Int), .int .i64 0] 37)) :=
    ⟨hxp.go hb7', hVp.go hb7', Err4.new w7 _ _ _ _, hSq.view.go hu7, (hb7'.cell (p := ⟨yb, 1, none⟩) (cell_lt y1)).trans y1, (hb7'.cell (p := ⟨yb, 2, none⟩) (cell_lt y2)).trans y2, hE6.go hb7', hB6.trans (hb7'.mono hB6.size)⟩
  clear he hb7 hu7 hb7' hE6 hB6 hxQ hSq hxp hVp y1 y2
  obtain ⟨_, p1, _, _⟩ := id hI.xp
  obtain ⟨_, q1, _, _⟩ := id hI.xq
  have hl1 := Trees.flat_pos T
  go_upto_region 12 with fail
  generalize w7.alloc (.cells #[.slice oq T2.flat.length cq, .int .i64 0, .int .i64 (U.length : Int), .int .i64 0] 37) = Y7 at *
  clear p1 q1
  go_cut [14] from 19 (fun x wx => ∃ o' c', x = .slice o' (T.flat.length + T2.flat.length) c' ∧ View wx (.slice o' (T.flat.length + T2.flat.length) c') (T.flat ++ T2.flat) ∧ JnI w T.flat T2.flat (.slice op T.flat.length cp) (.slice oq T2.flat.length cq) bp w7.heap.size yb (.int .i64 (S.length : Int)) (.int .i64 (U.length : Int)) ym yd wx)
  case first =>
    clear hxM hxD hP ob1
    refine wp_region_held_drew (S := (fun v => JnI w T.flat T2.flat (.slice op T.flat.length cp) (.slice oq T2.flat.length cq) bp w7.heap.size yb (.int .i64 (S.length : Int)) (.int .i64 (U.length : Int)) ym yd v)) (by kernel_rfl) hI.drew (fun hHeld => ?_)
    clear hI
    refine wpAnyH_take (i := 1) (v := ?_) rfl (by kernel_rfl) (by kernel_rfl) (by kernel_rfl) (fun _ _ _ h => h) (Or.inl ⟨by rfl, ?_⟩) hHeld ?_
    rotate_left
    · intro u hSu; go_simp; try with_reducible rfl
    simp only [Act.put, List.setIfInBounds_toArray, List.set_cons_zero, List.set_cons_succ, List.getElem_toArray, List.getElem_cons_succ, List.getElem_cons_zero]
    refine wpAnyH_take (i := 2) (v := ?_) rfl (by kernel_rfl) (by kernel_rfl) (by kernel_rfl) (fun _ _ _ h => h) (Or.inl ⟨by rfl, ?_⟩) hHeld ?_
    rotate_left
    · intro u hSu; obtain ⟨c0, _, _, _⟩ := hSu.xp; go_simp; try with_reducible rfl
    simp only [Act.put, List.setIfInBounds_toArray, List.set_cons_zero, List.set_cons_succ, List.getElem_toArray, List.getElem_cons_succ, List.getElem_cons_zero]
    refine wpAnyH_take (i := 4) (v := ?_) rfl (by kernel_rfl) (by kernel_rfl) (by kernel_rfl) (fun _ _ _ h => h) (Or.inl ⟨by rfl, ?_⟩) hHeld ?_
    rotate_left
    · intro u hSu; go_simp; try with_reducible rfl
    simp only [Act.put, List.setIfInBounds_toArray, List.set_cons_zero, List.set_cons_succ, List.getElem_toArray, List.getElem_cons_succ, List.getElem_cons_zero]
    refine wpAnyH_take (i := 5) (v := ?_) rfl (by kernel_rfl) (by kernel_rfl) (by kernel_rfl) (fun _ _ _ h => h) (Or.inl ⟨by rfl, ?_⟩) hHeld ?_
    rotate_left
    · intro u hSu; obtain ⟨c0, _, _, _⟩ := hSu.xq; go_simp; try with_reducible rfl
    simp only [Act.put, List.setIfInBounds_toArray, List.set_cons_zero, List.set_cons_succ, List.getElem_toArray, List.getElem_cons_succ, List.getElem_cons_zero]
    refine wpAnyH_ready (rs := [0]) (by kernel_rfl) (by simp) ?_
    refine AllReadyH.cons (o := { dst := some 66, op := Op.buildSlice 34 0 #[], type := 34, pos := "law.go:172", after := #[], guard := none }) rfl (fun K hK => ?_) AllReadyH.nil
    go_simp
    have hV := hHeld
    refine hK.out _ _ (hHeld.go ((Below.refl _ _).alloc (Nat.le_refl _) _)) (fun hHeld2 => ?_)
    clear hK K hHeld
    have hHeld := hHeld2
    clear hHeld2
    try simp only [Act.put, List.setIfInBounds_toArray, List.set_cons_zero, List.set_cons_succ, List.getElem_toArray, List.getElem_cons_succ, List.getElem_cons_zero]
    refine wpAnyH_ready (rs := [3]) (by kernel_rfl) (by simp) ?_
    refine AllReadyH.cons (o := { dst := some 69, op := Op.call { callee := Callee.builtin Builtin.append, args := #[Operand.tmp 66, Operand.tmp 68], argTypes := #[34, 34] }, type := 34, pos := "law.go:172", after := #[{ on := 0, ground := Ground.data }, { on := 2, ground := Ground.data }], guard := none }) rfl (fun K hK => ?_) AllReadyH.nil
    obtain ⟨V1, V2, o1, c1, o2, c2, hr1, hr2, hrows, hb1, hb2⟩ := two_rows (n1 := T.flat.length) (n := T.flat.length + T2.flat.length) hV.vp hV.vq (by omega) (by omega) rfl rfl
    refine step_app2 (by rfl) (Operand.tmp 66) (Operand.tmp 68) 34 34 rfl hr1 ?_
    refine hK.out _ _ (hV.go hb1) (fun hHeld2 => ?_)
    clear hK K hHeld
    have hHeld := hHeld2
    clear hHeld2
    try simp only [Act.put, List.setIfInBounds_toArray, List.set_cons_zero, List.set_cons_succ, List.getElem_toArray, List.getElem_cons_succ, List.getElem_cons_zero]
    refine wpAnyH_ready (rs := [6]) (by kernel_rfl) (by simp) ?_
    refine AllReadyH.cons (o := { dst := some 72, op := Op.call { callee := Callee.builtin Builtin.append, args := #[Operand.tmp 69, Operand.tmp 71], argTypes := #[34, 34] }, type := 34, pos := "law.go:172", after := #[{ on := 3, ground := Ground.data }, { on := 5, ground := Ground.data }, { on := 3, ground := Ground.chain }], guard := none }) rfl (fun K hK => ?_) AllReadyH.nil
    refine step_app2 (by rfl) (Operand.tmp 69) (Operand.tmp 71) 34 34 rfl hr2 ?_
    refine hK.out _ _ (hV.go hb2) (fun hHeld2 => ?_)
    clear hK K hHeld
    have hHeld := hHeld2
    clear hHeld2
    try simp only [Act.put, List.setIfInBounds_toArray, List.set_cons_zero, List.set_cons_succ, List.getElem_toArray, List.getElem_cons_succ, List.getElem_cons_zero]
    refine wpAnyH_take (i := 7) (v := ?_) rfl (by kernel_rfl) (by kernel_rfl) (by kernel_rfl) (fun _ _ _ h => h) (Or.inl ⟨by rfl, ?_⟩) hHeld ?_
    rotate_left
    · intro u hSu; go_simp; try with_reducible rfl
    simp only [Act.put, List.setIfInBounds_toArray, List.set_cons_zero, List.set_cons_succ, List.getElem_toArray, List.getElem_cons_succ, List.getElem_cons_zero]
    refine wpAnyH_done (by kernel_rfl) ?_ _
    go_wp2_with fail
    go_meet
    exact ⟨_, _, rfl, hrows.view, hHeld⟩
  case rest =>
    clear hI
    obtain ⟨o', c', hc1, hW, hI⟩ := hcut
    subst hc1
    have hJ : JmI w (T.flat ++ T2.flat) (.slice o' (T.flat.length + T2.flat.length) c') yb ym yd wc := ⟨hW, hI.y1, hI.y2, hI.env, hI.below⟩
    have hlb : (T.flat ++ T2.flat).length = T.flat.length + T2.flat.length := List.length_append
    clear hI hW hl1
    generalize T.flat ++ T2.flat = LB at *
    obtain ⟨nb, hnb⟩ : ∃ nb, T.flat.length + T2.flat.length = nb := ⟨_, rfl⟩
    have hnb62 : nb ≤ 62 := by omega
    rw [hnb] at hJ hlb ⊢
    clear hnb hTl hTl2
    have zS : (bs S).size ≤ 252 := by rw [bs_size]; omega
    have zU : (bs U).size ≤ 252 := by rw [bs_size]; omega
    have zSU : (bs S).size + (bs U).size ≤ 252 := by rw [bs_size, bs_size]; omega
    have eM : bs S ++ bs [UInt8.ofNat ym.toNat] ++ (⟨#[40]⟩ : ByteArray) ++ bs U ++ (⟨#[41]⟩ : ByteArray) = bs (S ++ [byteZ ym] ++ 40 :: (U ++ [41])) := by
      show bs S ++ bs [byteZ ym] ++ bs [40] ++ bs U ++ bs [41] = _
      rw [bs_app, bs_app, bs_app, bs_app]; congr 1; simp
    have eD : bs S ++ bs [UInt8.ofNat yd.toNat] ++ (⟨#[40]⟩ : ByteArray) ++ bs U ++ (⟨#[41]⟩ : ByteArray) = bs (S ++ [byteZ yd] ++ 40 :: (U ++ [41])) := by
      show bs S ++ bs [byteZ yd] ++ bs [40] ++ bs U ++ bs [41] = _
      rw [bs_app, bs_app, bs_app, bs_app]; congr 1; simp
    have lM : (S ++ [byteZ ym] ++ 40 :: (U ++ [41])).length ≤ 255 := by simp only [List.length_append, List.length_cons, List.length_nil]; omega
    have lD : (S ++ [byteZ yd] ++ 40 :: (U ++ [41])).length ≤ 255 := by simp only [List.length_append, List.length_cons, List.length_nil]; omega
    generalize S ++ [byteZ ym] ++ 40 :: (U ++ [41]) = TM at *
    generalize S ++ [byteZ yd] ++ 40 :: (U ++ [41]) = TD at *
    have zm : (bs [UInt8.ofNat ym.toNat]).size ≤ 1 := Nat.le_refl 1
    have zd : (bs [UInt8.ofNat yd.toNat]).size ≤ 1 := Nat.le_refl 1
    have y1 := hJ.y1
    have hu8 := alloc_own wc (.cells #[.int .u8 ym] 5)
    have hJ8 := hJ.go hu8
    clear hJ hu8
    go_wp2_with fail
    generalize wc.alloc (.cells #[.int .u8 ym] 5) = Y8 at *
    refine (hP TM Y8 hJ8.env lM).mono ?_
    rintro e w9 he
    obtain ⟨om, cm, rfl, hSm, -, hb9⟩ := end_ok he (hxM _)
    have hlm : (LB ++ [opStep 3]).length = nb + 1 := by rw [List.length_append, hlb]; rfl
    rw [hlm] at hSm ⊢
    obtain ⟨lm, hlmm⟩ : ∃ z : Int, ((TM.length : Nat) : Int) = z := ⟨_, rfl⟩
    rw [hlmm]
    have hu9 := alloc_own w9 (.cells #[.slice om (nb + 1) cm, .int .i64 0, .int .i64 lm, .int .i64 0] 37)
    have hb9' := hb9.trans (hu9.mono hb9.size)
    have hJ9 := hJ8.go hb9'
    have hSm' : StepsAt w9 (.slice om (nb + 1) cm) (LB ++ [opStep 3]) := hSm
    have hxm := Err4.new w9 (.slice om (nb + 1) cm) (.int .i64 0) (.int .i64 lm) (.int .i64 0)
    have hVm := hSm'.view.go hu9
    have y2 := hJ9.y2
    have ob2 := ob1 (w := w9.alloc (.cells #[.slice om (nb + 1) cm, .int .i64 0, .int .i64 lm, .int .i64 0] 37)) (x := yd)
    rw [show (w9.alloc (.cells #[.slice om (nb + 1) cm, .int .i64 0, .int .i64 lm, .int .i64 0] 37)).heap.size = w9.heap.size + 1 by simp [go_sem]] at ob2
    clear he hb9 hu9 hb9' hJ8 hxM hSm hSm' hlm hlmm eM lM y1
    go_wp2_with fail
    generalize w9.alloc (.cells #[.slice om (nb + 1) cm, .int .i64 0, .int .i64 lm, .int .i64 0] 37) = Y9 at *
    have hu10 := alloc_own Y9 (.cells #[.int .u8 yd] 5)
    have hJ10 := hJ9.go hu10
    have hxm10 := hxm.go hu10
    have hVm10 := hVm.go hu10
    generalize Y9.alloc (.cells #[.int .u8 yd] 5) = Y10 at *
    clear hJ9 hxm hVm hu10 y2
    refine (hP TD Y10 hJ10.env lD).mono ?_
    rintro e w11 he
    obtain ⟨od, cd, rfl, hSd, -, hb11⟩ := end_ok he (hxD _)
    have hld : (LB ++ [opStep 4]).length = nb + 1 := by rw [List.length_append, hlb]; rfl
    rw [hld] at hSd ⊢
    obtain ⟨ld, hldd⟩ : ∃ z : Int, ((TD.length : Nat) : Int) = z := ⟨_, rfl⟩
    rw [hldd]
    have hu11 := alloc_own w11 (.cells #[.slice od (nb + 1) cd, .int .i64 0, .int .i64 ld, .int .i64 0] 37)
    have hb11' := hb11.trans (hu11.mono hb11.size)
    have hJ11 := hJ10.go hb11'
    have hSd' : StepsAt w11 (.slice od (nb + 1) cd) (LB ++ [opStep 4]) := hSd
    have hI : JdI w LB (LB ++ [opStep 3]) (LB ++ [opStep 4]) (.slice o' nb c') (.slice om (nb + 1) cm) (.slice od (nb + 1) cd) w9.heap.size w11.heap.size (.int .i64 lm) (.int .i64 ld) (w11.alloc (.cells #[.slice od (nb + 1) cd, .int .i64 0, .int .i64 ld, .int .i64 0] 37)) :=
      ⟨hJ11.vb, hxm10.go hb11', hVm10.go hb11', Err4.new w11 _ _ _ _, hSd'.view.go hu11, hJ11.below⟩
    have hSame := fun (op : Int) (a b : Value) (W : World) (h1 : View W a (LB ++ [opStep op])) (h2 : View W b (LB ++ [opStep op])) => same_any a b _ _ W h1 h2 (by rw [List.length_append]; simp; omega) (by rw [List.length_append]; simp; omega)
    simp only [decide_true] at hSame
    clear he hb11 hu11 hb11' hJ10 hJ11 hxD hSd hSd' hld hldd eD lD hxm10 hVm10 hP
    go_upto_region 15 with fail
    generalize w11.alloc (.cells #[.slice od (nb + 1) cd, .int .i64 0, .int .i64 ld, .int .i64 0] 37) = Y11 at *
    go_cut [17] from 19 (fun x wx => x = .bool true ∧ JdI w LB (LB ++ [opStep 3]) (LB ++ [opStep 4]) (.slice o' nb c') (.slice om (nb + 1) cm) (.slice od (nb + 1) cd) w9.heap.size w11.heap.size (.int .i64 lm) (.int .i64 ld) wx)
    case first =>
      refine wp_region_held_drew (S := (fun v => JdI w LB (LB ++ [opStep 3]) (LB ++ [opStep 4]) (.slice o' nb c') (.slice om (nb + 1) cm) (.slice od (nb + 1) cd) w9.heap.size w11.heap.size (.int .i64 lm) (.int .i64 ld) v)) (by kernel_rfl) hI.drew (fun hHeld => ?_)
      clear hI
      refine wpAnyH_take (i := 0) (v := ?_) rfl (by kernel_rfl) (by kernel_rfl) (by kernel_rfl) (fun _ _ _ h => h) (Or.inl ⟨by rfl, ?_⟩) hHeld ?_
      rotate_left
      · intro u hSu; go_simp; try with_reducible rfl
      simp only [Act.put, List.setIfInBounds_toArray, List.set_cons_zero, List.set_cons_succ, List.getElem_toArray, List.getElem_cons_succ, List.getElem_cons_zero]
      refine wpAnyH_take (i := 1) (v := ?_) rfl (by kernel_rfl) (by kernel_rfl) (by kernel_rfl) (fun _ _ _ h => h) (Or.inl ⟨by rfl, ?_⟩) hHeld ?_
      rotate_left
      · intro u hSu; obtain ⟨c0, _, _, _⟩ := hSu.xm; go_simp; try with_reducible rfl
      simp only [Act.put, List.setIfInBounds_toArray, List.set_cons_zero, List.set_cons_succ, List.getElem_toArray, List.getElem_cons_succ, List.getElem_cons_zero]
      refine wpAnyH_take (i := 3) (v := ?_) rfl (by kernel_rfl) (by kernel_rfl) (by kernel_rfl) (fun _ _ _ h => h) (Or.inl ⟨by rfl, ?_⟩) hHeld ?_
      rotate_left
      · intro u hSu; go_simp; try with_reducible rfl
      simp only [Act.put, List.setIfInBounds_toArray, List.set_cons_zero, List.set_cons_succ, List.getElem_toArray, List.getElem_cons_succ, List.getElem_cons_zero]
      refine wpAnyH_take (i := 5) (v := ?_) rfl (by kernel_rfl) (by kernel_rfl) (by kernel_rfl) (fun _ _ _ h => h) (Or.inl ⟨by rfl, ?_⟩) hHeld ?_
      rotate_left
      · intro u hSu; go_simp; try with_reducible rfl
      simp only [Act.put, List.setIfInBounds_toArray, List.set_cons_zero, List.set_cons_succ, List.getElem_toArray, List.getElem_cons_succ, List.getElem_cons_zero]
      refine wpAnyH_ready (rs := [2, 6]) (by kernel_rfl) (by simp) ?_
      refine AllReadyH.cons (o := { dst := some 99, op := Op.buildSlice 34 0 #[], type := 34, pos := "law.go:175", after := #[], guard := none }) rfl (fun K hK => ?_) ?_
      · skip
        go_simp
        have hV := hHeld
        try go_simp
        refine hK.out _ _ (hHeld.go ((Below.refl _ _).alloc (Nat.le_refl _) _)) (fun hHeld2 => ?_)
        clear hK K hHeld
        rename JdI _ _ _ _ _ _ _ _ _ _ _ _ => hHeld3
        have hHeld := hHeld3
        clear hHeld3
        try simp only [Act.put, List.setIfInBounds_toArray, List.set_cons_zero, List.set_cons_succ, List.getElem_toArray, List.getElem_cons_succ, List.getElem_cons_zero]
        refine wpAnyH_ready (rs := [4, 6]) (by kernel_rfl) (by simp) ?_
        refine AllReadyH.cons (o := { dst := some 101, op := Op.call { callee := Callee.builtin Builtin.append, args := #[Operand.tmp 99, Operand.tmp 100], argTypes := #[34, 34] }, type := 34, pos := "law.go:175", after := #[{ on := 2, ground := Ground.data }, { on := 3, ground := Ground.data }], guard := none }) rfl (fun K hK => ?_) ?_
        · skip
          obtain ⟨V1, V2, o1, c1, o2, c2, HQ0⟩ := pair_i (n := nb) hV.vb (⟨3, -1, 0, 0, 0, []⟩) (by first | omega | (simp only [List.length_append]; omega)) (by first | rfl | exact List.length_append | omega)
          refine step_app2 (by rfl) (Operand.tmp 99) (Operand.tmp 100) 34 34 rfl HQ0.hr1 ?_
          refine hK.out _ _ (hV.go HQ0.b1) (fun hHeld2 => ?_)
          clear hK K hHeld
          have hHeld := hHeld2
          clear hHeld2
          try simp only [Act.put, List.setIfInBounds_toArray, List.set_cons_zero, List.set_cons_succ, List.getElem_toArray, List.getElem_cons_succ, List.getElem_cons_zero]
          refine wpAnyH_ready (rs := [6]) (by kernel_rfl) (by simp) ?_
          refine AllReadyH.cons (o := { dst := some 103, op := Op.buildSlice 34 1 #[(0, Operand.tmp 102)], type := 34, pos := "law.go:175", after := #[{ on := 5, ground := Ground.data }], guard := none }) rfl (fun K hK => ?_) AllReadyH.nil
          go_simp
          try go_simp
          refine hK.out _ _ (hHeld.go ((Below.refl _ _).alloc (Nat.le_refl _) _)) (fun hHeld2 => ?_)
          clear hK K hHeld
          rename JdI _ _ _ _ _ _ _ _ _ _ _ _ => hHeld3
          have hHeld := hHeld3
          clear hHeld3
          try simp only [Act.put, List.setIfInBounds_toArray, List.set_cons_zero, List.set_cons_succ, List.getElem_toArray, List.getElem_cons_succ, List.getElem_cons_zero]
          refine wpAnyH_ready (rs := [7]) (by kernel_rfl) (by simp) ?_
          refine AllReadyH.cons (o := { dst := some 104, op := Op.call { callee := Callee.builtin Builtin.append, args := #[Operand.tmp 101, Operand.tmp 103], argTypes := #[34, 34] }, type := 34, pos := "law.go:175", after := #[{ on := 4, ground := Ground.data }, { on := 6, ground := Ground.data }, { on := 4, ground := Ground.chain }], guard := none }) rfl (fun K hK => ?_) AllReadyH.nil
          refine step_app2 (by rfl) (Operand.tmp 101) (Operand.tmp 103) 34 34 rfl HQ0.hr2 ?_
          refine hK.out _ _ (hV.go HQ0.b2) (fun hHeld2 => ?_)
          clear hK K hHeld hV
          have hHeld := hHeld2
          clear hHeld2
          try simp only [Act.put, List.setIfInBounds_toArray, List.set_cons_zero, List.set_cons_succ, List.getElem_toArray, List.getElem_cons_succ, List.getElem_cons_zero]
          refine wpAnyH_ready (rs := [8]) (by kernel_rfl) (by simp) ?_
          refine AllReadyH.cons (o := { dst := some 105, op := Op.call { callee := Callee.value (Operand.func 19), args := #[Operand.tmp 98, Operand.tmp 104], argTypes := #[34, 34] }, type := 4, pos := "law.go:175", after := #[{ on := 1, ground := Ground.data }, { on := 7, ground := Ground.data }, { on := 7, ground := Ground.chain }], guard := none }) rfl (fun K hK => ?_) AllReadyH.nil
          go_simp
          refine (hSame 3 _ _ _ hHeld.vm HQ0.rows.view).mono ?_
          rintro e u8 ⟨rfl, hb⟩
          try go_simp
          refine hK.out _ _ (hHeld.go hb) (fun hHeld2 => ?_)
          clear hK K hb hHeld
          rename JdI _ _ _ _ _ _ _ _ _ _ _ _ => hHeld
          try simp only [Act.put, List.setIfInBounds_toArray, List.set_cons_zero, List.set_cons_succ, List.getElem_toArray, List.getElem_cons_succ, List.getElem_cons_zero]
          refine wpAnyH_take (i := 9) (v := ?_) rfl (by kernel_rfl) (by kernel_rfl) (by kernel_rfl) (fun _ _ _ h => h) (Or.inl ⟨by rfl, ?_⟩) hHeld ?_
          rotate_left
          · intro u hSu; go_simp; try with_reducible rfl
          simp only [Act.put, List.setIfInBounds_toArray, List.set_cons_zero, List.set_cons_succ, List.getElem_toArray, List.getElem_cons_succ, List.getElem_cons_zero]
          refine wpAnyH_done (by kernel_rfl) ?_ _
          go_wp2_with fail
          go_meet
          exact ⟨rfl, hHeld⟩
        refine AllReadyH.cons (o := { dst := some 103, op := Op.buildSlice 34 1 #[(0, Operand.tmp 102)], type := 34, pos := "law.go:175", after := #[{ on := 5, ground := Ground.data }], guard := none }) rfl (fun K hK => ?_) AllReadyH.nil
        go_simp
        try go_simp
        refine hK.out _ _ (hHeld.go ((Below.refl _ _).alloc (Nat.le_refl _) _)) (fun hHeld2 => ?_)
        clear hK K hHeld
        rename JdI _ _ _ _ _ _ _ _ _ _ _ _ => hHeld3
        have hHeld := hHeld3
        clear hHeld3
        try simp only [Act.put, List.setIfInBounds_toArray, List.set_cons_zero, List.set_cons_succ, List.getElem_toArray, List.getElem_cons_succ, List.getElem_cons_zero]
        refine wpAnyH_ready (rs := [4]) (by kernel_rfl) (by simp) ?_
        refine AllReadyH.cons (o := { dst := some 101, op := Op.call { callee := Callee.builtin Builtin.append, args := #[Operand.tmp 99, Operand.tmp 100], argTypes := #[34, 34] }, type := 34, pos := "law.go:175", after := #[{ on := 2, ground := Ground.data }, { on := 3, ground := Ground.data }], guard := none }) rfl (fun K hK => ?_) AllReadyH.nil
        obtain ⟨V1, V2, o1, c1, o2, c2, HQ0⟩ := pair_ii (n := nb) hV.vb (⟨3, -1, 0, 0, 0, []⟩) (by first | omega | (simp only [List.length_append]; omega)) (by first | rfl | exact List.length_append | omega)
        refine step_app2 (by rfl) (Operand.tmp 99) (Operand.tmp 100) 34 34 rfl HQ0.hr1 ?_
        refine hK.out _ _ (hV.go HQ0.b1) (fun hHeld2 => ?_)
        clear hK K hHeld
        have hHeld := hHeld2
        clear hHeld2
        try simp only [Act.put, List.setIfInBounds_toArray, List.set_cons_zero, List.set_cons_succ, List.getElem_toArray, List.getElem_cons_succ, List.getElem_cons_zero]
        refine wpAnyH_ready (rs := [7]) (by kernel_rfl) (by simp) ?_
        refine AllReadyH.cons (o := { dst := some 104, op := Op.call { callee := Callee.builtin Builtin.append, args := #[Operand.tmp 101, Operand.tmp 103], argTypes := #[34, 34] }, type := 34, pos := "law.go:175", after := #[{ on := 4, ground := Ground.data }, { on := 6, ground := Ground.data }, { on := 4, ground := Ground.chain }], guard := none }) rfl (fun K hK => ?_) AllReadyH.nil
        refine step_app2 (by rfl) (Operand.tmp 101) (Operand.tmp 103) 34 34 rfl HQ0.hr2 ?_
        refine hK.out _ _ (hV.go HQ0.b2) (fun hHeld2 => ?_)
        clear hK K hHeld hV
        have hHeld := hHeld2
        clear hHeld2
        try simp only [Act.put, List.setIfInBounds_toArray, List.set_cons_zero, List.set_cons_succ, List.getElem_toArray, List.getElem_cons_succ, List.getElem_cons_zero]
        refine wpAnyH_ready (rs := [8]) (by kernel_rfl) (by simp) ?_
        refine AllReadyH.cons (o := { dst := some 105, op := Op.call { callee := Callee.value (Operand.func 19), args := #[Operand.tmp 98, Operand.tmp 104], argTypes := #[34, 34] }, type := 4, pos := "law.go:175", after := #[{ on := 1, ground := Ground.data }, { on := 7, ground := Ground.data }, { on := 7, ground := Ground.chain }], guard := none }) rfl (fun K hK => ?_) AllReadyH.nil
        go_simp
        refine (hSame 3 _ _ _ hHeld.vm HQ0.rows.view).mono ?_
        rintro e u8 ⟨rfl, hb⟩
        try go_simp
        refine hK.out _ _ (hHeld.go hb) (fun hHeld2 => ?_)
        clear hK K hb hHeld
        rename JdI _ _ _ _ _ _ _ _ _ _ _ _ => hHeld
        try simp only [Act.put, List.setIfInBounds_toArray, List.set_cons_zero, List.set_cons_succ, List.getElem_toArray, List.getElem_cons_succ, List.getElem_cons_zero]
        refine wpAnyH_take (i := 9) (v := ?_) rfl (by kernel_rfl) (by kernel_rfl) (by kernel_rfl) (fun _ _ _ h => h) (Or.inl ⟨by rfl, ?_⟩) hHeld ?_
        rotate_left
        · intro u hSu; go_simp; try with_reducible rfl
        simp only [Act.put, List.setIfInBounds_toArray, List.set_cons_zero, List.set_cons_succ, List.getElem_toArray, List.getElem_cons_succ, List.getElem_cons_zero]
        refine wpAnyH_done (by kernel_rfl) ?_ _
        go_wp2_with fail
        go_meet
        exact ⟨rfl, hHeld⟩
      refine AllReadyH.cons (o := { dst := some 103, op := Op.buildSlice 34 1 #[(0, Operand.tmp 102)], type := 34, pos := "law.go:175", after := #[{ on := 5, ground := Ground.data }], guard := none }) rfl (fun K hK => ?_) AllReadyH.nil
      go_simp
      have hV := hHeld
      try go_simp
      refine hK.out _ _ (hHeld.go ((Below.refl _ _).alloc (Nat.le_refl _) _)) (fun hHeld2 => ?_)
      clear hK K hHeld
      rename JdI _ _ _ _ _ _ _ _ _ _ _ _ => hHeld3
      have hHeld := hHeld3
      clear hHeld3
      try simp only [Act.put, List.setIfInBounds_toArray, List.set_cons_zero, List.set_cons_succ, List.getElem_toArray, List.getElem_cons_succ, List.getElem_cons_zero]
      refine wpAnyH_ready (rs := [2]) (by kernel_rfl) (by simp) ?_
      refine AllReadyH.cons (o := { dst := some 99, op := Op.buildSlice 34 0 #[], type := 34, pos := "law.go:175", after := #[], guard := none }) rfl (fun K hK => ?_) AllReadyH.nil
      go_simp
      try go_simp
      refine hK.out _ _ (hHeld.go ((Below.refl _ _).alloc (Nat.le_refl _) _)) (fun hHeld2 => ?_)
      clear hK K hHeld
      rename JdI _ _ _ _ _ _ _ _ _ _ _ _ => hHeld3
      have hHeld := hHeld3
      clear hHeld3
      try simp only [Act.put, List.setIfInBounds_toArray, List.set_cons_zero, List.set_cons_succ, List.getElem_toArray, List.getElem_cons_succ, List.getElem_cons_zero]
      refine wpAnyH_ready (rs := [4]) (by kernel_rfl) (by simp) ?_
      refine AllReadyH.cons (o := { dst := some 101, op := Op.call { callee := Callee.builtin Builtin.append, args := #[Operand.tmp 99, Operand.tmp 100], argTypes := #[34, 34] }, type := 34, pos := "law.go:175", after := #[{ on := 2, ground := Ground.data }, { on := 3, ground := Ground.data }], guard := none }) rfl (fun K hK => ?_) AllReadyH.nil
      obtain ⟨V1, V2, o1, c1, o2, c2, HQ0⟩ := pair_iii (n := nb) hV.vb (⟨3, -1, 0, 0, 0, []⟩) (by first | omega | (simp only [List.length_append]; omega)) (by first | rfl | exact List.length_append | omega)
      refine step_app2 (by rfl) (Operand.tmp 99) (Operand.tmp 100) 34 34 rfl HQ0.hr1 ?_
      refine hK.out _ _ (hV.go HQ0.b1) (fun hHeld2 => ?_)
      clear hK K hHeld
      have hHeld := hHeld2
      clear hHeld2
      try simp only [Act.put, List.setIfInBounds_toArray, List.set_cons_zero, List.set_cons_succ, List.getElem_toArray, List.getElem_cons_succ, List.getElem_cons_zero]
      refine wpAnyH_ready (rs := [7]) (by kernel_rfl) (by simp) ?_
      refine AllReadyH.cons (o := { dst := some 104, op := Op.call { callee := Callee.builtin Builtin.append, args := #[Operand.tmp 101, Operand.tmp 103], argTypes := #[34, 34] }, type := 34, pos := "law.go:175", after := #[{ on := 4, ground := Ground.data }, { on := 6, ground := Ground.data }, { on := 4, ground := Ground.chain }], guard := none }) rfl (fun K hK => ?_) AllReadyH.nil
      refine step_app2 (by rfl) (Operand.tmp 101) (Operand.tmp 103) 34 34 rfl HQ0.hr2 ?_
      refine hK.out _ _ (hV.go HQ0.b2) (fun hHeld2 => ?_)
      clear hK K hHeld hV
      have hHeld := hHeld2
      clear hHeld2
      try simp only [Act.put, List.setIfInBounds_toArray, List.set_cons_zero, List.set_cons_succ, List.getElem_toArray, List.getElem_cons_succ, List.getElem_cons_zero]
      refine wpAnyH_ready (rs := [8]) (by kernel_rfl) (by simp) ?_
      refine AllReadyH.cons (o := { dst := some 105, op := Op.call { callee := Callee.value (Operand.func 19), args := #[Operand.tmp 98, Operand.tmp 104], argTypes := #[34, 34] }, type := 4, pos := "law.go:175", after := #[{ on := 1, ground := Ground.data }, { on := 7, ground := Ground.data }, { on := 7, ground := Ground.chain }], guard := none }) rfl (fun K hK => ?_) AllReadyH.nil
      go_simp
      refine (hSame 3 _ _ _ hHeld.vm HQ0.rows.view).mono ?_
      rintro e u8 ⟨rfl, hb⟩
      try go_simp
      refine hK.out _ _ (hHeld.go hb) (fun hHeld2 => ?_)
      clear hK K hb hHeld
      rename JdI _ _ _ _ _ _ _ _ _ _ _ _ => hHeld
      try simp only [Act.put, List.setIfInBounds_toArray, List.set_cons_zero, List.set_cons_succ, List.getElem_toArray, List.getElem_cons_succ, List.getElem_cons_zero]
      refine wpAnyH_take (i := 9) (v := ?_) rfl (by kernel_rfl) (by kernel_rfl) (by kernel_rfl) (fun _ _ _ h => h) (Or.inl ⟨by rfl, ?_⟩) hHeld ?_
      rotate_left
      · intro u hSu; go_simp; try with_reducible rfl
      simp only [Act.put, List.setIfInBounds_toArray, List.set_cons_zero, List.set_cons_succ, List.getElem_toArray, List.getElem_cons_succ, List.getElem_cons_zero]
      refine wpAnyH_done (by kernel_rfl) ?_ _
      go_wp2_with fail
      go_meet
      exact ⟨rfl, hHeld⟩
    case rest =>
      clear hI
      obtain ⟨hc1, hI⟩ := hcut
      subst hc1
      go_upto_region 16 with fail
      go_cut [18] from 19 (fun x wx => x = .bool true ∧ JdI w LB (LB ++ [opStep 3]) (LB ++ [opStep 4]) (.slice o' nb c') (.slice om (nb + 1) cm) (.slice od (nb + 1) cd) w9.heap.size w11.heap.size (.int .i64 lm) (.int .i64 ld) wx)
      case first =>
        refine wp_region_held_drew (S := (fun v => JdI w LB (LB ++ [opStep 3]) (LB ++ [opStep 4]) (.slice o' nb c') (.slice om (nb + 1) cm) (.slice od (nb + 1) cd) w9.heap.size w11.heap.size (.int .i64 lm) (.int .i64 ld) v)) (by kernel_rfl) hI.drew (fun hHeld => ?_)
        clear hI
        refine wpAnyH_take (i := 0) (v := ?_) rfl (by kernel_rfl) (by kernel_rfl) (by kernel_rfl) (fun _ _ _ h => h) (Or.inl ⟨by rfl, ?_⟩) hHeld ?_
        rotate_left
        · intro u hSu; go_simp; try with_reducible rfl
        simp only [Act.put, List.setIfInBounds_toArray, List.set_cons_zero, List.set_cons_succ, List.getElem_toArray, List.getElem_cons_succ, List.getElem_cons_zero]
        refine wpAnyH_take (i := 1) (v := ?_) rfl (by kernel_rfl) (by kernel_rfl) (by kernel_rfl) (fun _ _ _ h => h) (Or.inl ⟨by rfl, ?_⟩) hHeld ?_
        rotate_left
        · intro u hSu; obtain ⟨c0, _, _, _⟩ := hSu.xd; go_simp; try with_reducible rfl
        simp only [Act.put, List.setIfInBounds_toArray, List.set_cons_zero, List.set_cons_succ, List.getElem_toArray, List.getElem_cons_succ, List.getElem_cons_zero]
        refine wpAnyH_take (i := 3) (v := ?_) rfl (by kernel_rfl) (by kernel_rfl) (by kernel_rfl) (fun _ _ _ h => h) (Or.inl ⟨by rfl, ?_⟩) hHeld ?_
        rotate_left
        · intro u hSu; go_simp; try with_reducible rfl
        simp only [Act.put, List.setIfInBounds_toArray, List.set_cons_zero, List.set_cons_succ, List.getElem_toArray, List.getElem_cons_succ, List.getElem_cons_zero]
        refine wpAnyH_take (i := 5) (v := ?_) rfl (by kernel_rfl) (by kernel_rfl) (by kernel_rfl) (fun _ _ _ h => h) (Or.inl ⟨by rfl, ?_⟩) hHeld ?_
        rotate_left
        · intro u hSu; go_simp; try with_reducible rfl
        simp only [Act.put, List.setIfInBounds_toArray, List.set_cons_zero, List.set_cons_succ, List.getElem_toArray, List.getElem_cons_succ, List.getElem_cons_zero]
        refine wpAnyH_ready (rs := [2, 6]) (by kernel_rfl) (by simp) ?_
        refine AllReadyH.cons (o := { dst := some 108, op := Op.buildSlice 34 0 #[], type := 34, pos := "law.go:176", after := #[], guard := none }) rfl (fun K hK => ?_) ?_
        · skip
          go_simp
          have hV := hHeld
          try go_simp
          refine hK.out _ _ (hHeld.go ((Below.refl _ _).alloc (Nat.le_refl _) _)) (fun hHeld2 => ?_)
          clear hK K hHeld
          rename JdI _ _ _ _ _ _ _ _ _ _ _ _ => hHeld3
          have hHeld := hHeld3
          clear hHeld3
          try simp only [Act.put, List.setIfInBounds_toArray, List.set_cons_zero, List.set_cons_succ, List.getElem_toArray, List.getElem_cons_succ, List.getElem_cons_zero]
          refine wpAnyH_ready (rs := [4, 6]) (by kernel_rfl) (by simp) ?_
          refine AllReadyH.cons (o := { dst := some 110, op := Op.call { callee := Callee.builtin Builtin.append, args := #[Operand.tmp 108, Operand.tmp 109], argTypes := #[34, 34] }, type := 34, pos := "law.go:176", after := #[{ on := 2, ground := Ground.data }, { on := 3, ground := Ground.data }], guard := none }) rfl (fun K hK => ?_) ?_
          · skip
            obtain ⟨V1, V2, o1, c1, o2, c2, HQ0⟩ := pair_i (n := nb) hV.vb (⟨4, -1, 0, 0, 0, []⟩) (by first | omega | (simp only [List.length_append]; omega)) (by first | rfl | exact List.length_append | omega)
            refine step_app2 (by rfl) (Operand.tmp 108) (Operand.tmp 109) 34 34 rfl HQ0.hr1 ?_
            refine hK.out _ _ (hV.go HQ0.b1) (fun hHeld2 => ?_)
            clear hK K hHeld
            have hHeld := hHeld2
            clear hHeld2
            try simp only [Act.put, List.setIfInBounds_toArray, List.set_cons_zero, List.set_cons_succ, List.getElem_toArray, List.getElem_cons_succ, List.getElem_cons_zero]
            refine wpAnyH_ready (rs := [6]) (by kernel_rfl) (by simp) ?_
            refine AllReadyH.cons (o := { dst := some 112, op := Op.buildSlice 34 1 #[(0, Operand.tmp 111)], type := 34, pos := "law.go:176", after := #[{ on := 5, ground := Ground.data }], guard := none }) rfl (fun K hK => ?_) AllReadyH.nil
            go_simp
            try go_simp
            refine hK.out _ _ (hHeld.go ((Below.refl _ _).alloc (Nat.le_refl _) _)) (fun hHeld2 => ?_)
            clear hK K hHeld
            rename JdI _ _ _ _ _ _ _ _ _ _ _ _ => hHeld3
            have hHeld := hHeld3
            clear hHeld3
            try simp only [Act.put, List.setIfInBounds_toArray, List.set_cons_zero, List.set_cons_succ, List.getElem_toArray, List.getElem_cons_succ, List.getElem_cons_zero]
            refine wpAnyH_ready (rs := [7]) (by kernel_rfl) (by simp) ?_
            refine AllReadyH.cons (o := { dst := some 113, op := Op.call { callee := Callee.builtin Builtin.append, args := #[Operand.tmp 110, Operand.tmp 112], argTypes := #[34, 34] }, type := 34, pos := "law.go:176", after := #[{ on := 4, ground := Ground.data }, { on := 6, ground := Ground.data }, { on := 4, ground := Ground.chain }], guard := none }) rfl (fun K hK => ?_) AllReadyH.nil
            refine step_app2 (by rfl) (Operand.tmp 110) (Operand.tmp 112) 34 34 rfl HQ0.hr2 ?_
            refine hK.out _ _ (hV.go HQ0.b2) (fun hHeld2 => ?_)
            clear hK K hHeld hV
            have hHeld := hHeld2
            clear hHeld2
            try simp only [Act.put, List.setIfInBounds_toArray, List.set_cons_zero, List.set_cons_succ, List.getElem_toArray, List.getElem_cons_succ, List.getElem_cons_zero]
            refine wpAnyH_ready (rs := [8]) (by kernel_rfl) (by simp) ?_
            refine AllReadyH.cons (o := { dst := some 114, op := Op.call { callee := Callee.value (Operand.func 19), args := #[Operand.tmp 107, Operand.tmp 113], argTypes := #[34, 34] }, type := 4, pos := "law.go:176", after := #[{ on := 1, ground := Ground.data }, { on := 7, ground := Ground.data }, { on := 7, ground := Ground.chain }], guard := none }) rfl (fun K hK => ?_) AllReadyH.nil
            go_simp
            refine (hSame 4 _ _ _ hHeld.vd HQ0.rows.view).mono ?_
            rintro e u8 ⟨rfl, hb⟩
            try go_simp
            refine hK.out _ _ (hHeld.go hb) (fun hHeld2 => ?_)
            clear hK K hb hHeld
            rename JdI _ _ _ _ _ _ _ _ _ _ _ _ => hHeld
            try simp only [Act.put, List.setIfInBounds_toArray, List.set_cons_zero, List.set_cons_succ, List.getElem_toArray, List.getElem_cons_succ, List.getElem_cons_zero]
            refine wpAnyH_take (i := 9) (v := ?_) rfl (by kernel_rfl) (by kernel_rfl) (by kernel_rfl) (fun _ _ _ h => h) (Or.inl ⟨by rfl, ?_⟩) hHeld ?_
            rotate_left
            · intro u hSu; go_simp; try with_reducible rfl
            simp only [Act.put, List.setIfInBounds_toArray, List.set_cons_zero, List.set_cons_succ, List.getElem_toArray, List.getElem_cons_succ, List.getElem_cons_zero]
            refine wpAnyH_done (by kernel_rfl) ?_ _
            go_wp2_with fail
            go_meet
            exact ⟨rfl, hHeld⟩
          refine AllReadyH.cons (o := { dst := some 112, op := Op.buildSlice 34 1 #[(0, Operand.tmp 111)], type := 34, pos := "law.go:176", after := #[{ on := 5, ground := Ground.data }], guard := none }) rfl (fun K hK => ?_) AllReadyH.nil
          go_simp
          try go_simp
          refine hK.out _ _ (hHeld.go ((Below.refl _ _).alloc (Nat.le_refl _) _)) (fun hHeld2 => ?_)
          clear hK K hHeld
          rename JdI _ _ _ _ _ _ _ _ _ _ _ _ => hHeld3
          have hHeld := hHeld3
          clear hHeld3
          try simp only [Act.put, List.setIfInBounds_toArray, List.set_cons_zero, List.set_cons_succ, List.getElem_toArray, List.getElem_cons_succ, List.getElem_cons_zero]
          refine wpAnyH_ready (rs := [4]) (by kernel_rfl) (by simp) ?_
          refine AllReadyH.cons (o := { dst := some 110, op := Op.call { callee := Callee.builtin Builtin.append, args := #[Operand.tmp 108, Operand.tmp 109], argTypes := #[34, 34] }, type := 34, pos := "law.go:176", after := #[{ on := 2, ground := Ground.data }, { on := 3, ground := Ground.data }], guard := none }) rfl (fun K hK => ?_) AllReadyH.nil
          obtain ⟨V1, V2, o1, c1, o2, c2, HQ0⟩ := pair_ii (n := nb) hV.vb (⟨4, -1, 0, 0, 0, []⟩) (by first | omega | (simp only [List.length_append]; omega)) (by first | rfl | exact List.length_append | omega)
          refine step_app2 (by rfl) (Operand.tmp 108) (Operand.tmp 109) 34 34 rfl HQ0.hr1 ?_
          refine hK.out _ _ (hV.go HQ0.b1) (fun hHeld2 => ?_)
          clear hK K hHeld
          have hHeld := hHeld2
          clear hHeld2
          try simp only [Act.put, List.setIfInBounds_toArray, List.set_cons_zero, List.set_cons_succ, List.getElem_toArray, List.getElem_cons_succ, List.getElem_cons_zero]
          refine wpAnyH_ready (rs := [7]) (by kernel_rfl) (by simp) ?_
          refine AllReadyH.cons (o := { dst := some 113, op := Op.call { callee := Callee.builtin Builtin.append, args := #[Operand.tmp 110, Operand.tmp 112], argTypes := #[34, 34] }, type := 34, pos := "law.go:176", after := #[{ on := 4, ground := Ground.data }, { on := 6, ground := Ground.data }, { on := 4, ground := Ground.chain }], guard := none }) rfl (fun K hK => ?_) AllReadyH.nil
          refine step_app2 (by rfl) (Operand.tmp 110) (Operand.tmp 112) 34 34 rfl HQ0.hr2 ?_
          refine hK.out _ _ (hV.go HQ0.b2) (fun hHeld2 => ?_)
          clear hK K hHeld hV
          have hHeld := hHeld2
          clear hHeld2
          try simp only [Act.put, List.setIfInBounds_toArray, List.set_cons_zero, List.set_cons_succ, List.getElem_toArray, List.getElem_cons_succ, List.getElem_cons_zero]
          refine wpAnyH_ready (rs := [8]) (by kernel_rfl) (by simp) ?_
          refine AllReadyH.cons (o := { dst := some 114, op := Op.call { callee := Callee.value (Operand.func 19), args := #[Operand.tmp 107, Operand.tmp 113], argTypes := #[34, 34] }, type := 4, pos := "law.go:176", after := #[{ on := 1, ground := Ground.data }, { on := 7, ground := Ground.data }, { on := 7, ground := Ground.chain }], guard := none }) rfl (fun K hK => ?_) AllReadyH.nil
          go_simp
          refine (hSame 4 _ _ _ hHeld.vd HQ0.rows.view).mono ?_
          rintro e u8 ⟨rfl, hb⟩
          try go_simp
          refine hK.out _ _ (hHeld.go hb) (fun hHeld2 => ?_)
          clear hK K hb hHeld
          rename JdI _ _ _ _ _ _ _ _ _ _ _ _ => hHeld
          try simp only [Act.put, List.setIfInBounds_toArray, List.set_cons_zero, List.set_cons_succ, List.getElem_toArray, List.getElem_cons_succ, List.getElem_cons_zero]
          refine wpAnyH_take (i := 9) (v := ?_) rfl (by kernel_rfl) (by kernel_rfl) (by kernel_rfl) (fun _ _ _ h => h) (Or.inl ⟨by rfl, ?_⟩) hHeld ?_
          rotate_left
          · intro u hSu; go_simp; try with_reducible rfl
          simp only [Act.put, List.setIfInBounds_toArray, List.set_cons_zero, List.set_cons_succ, List.getElem_toArray, List.getElem_cons_succ, List.getElem_cons_zero]
          refine wpAnyH_done (by kernel_rfl) ?_ _
          go_wp2_with fail
          go_meet
          exact ⟨rfl, hHeld⟩
        refine AllReadyH.cons (o := { dst := some 112, op := Op.buildSlice 34 1 #[(0, Operand.tmp 111)], type := 34, pos := "law.go:176", after := #[{ on := 5, ground := Ground.data }], guard := none }) rfl (fun K hK => ?_) AllReadyH.nil
        go_simp
        have hV := hHeld
        try go_simp
        refine hK.out _ _ (hHeld.go ((Below.refl _ _).alloc (Nat.le_refl _) _)) (fun hHeld2 => ?_)
        clear hK K hHeld
        rename JdI _ _ _ _ _ _ _ _ _ _ _ _ => hHeld3
        have hHeld := hHeld3
        clear hHeld3
        try simp only [Act.put, List.setIfInBounds_toArray, List.set_cons_zero, List.set_cons_succ, List.getElem_toArray, List.getElem_cons_succ, List.getElem_cons_zero]
        refine wpAnyH_ready (rs := [2]) (by kernel_rfl) (by simp) ?_
        refine AllReadyH.cons (o := { dst := some 108, op := Op.buildSlice 34 0 #[], type := 34, pos := "law.go:176", after := #[], guard := none }) rfl (fun K hK => ?_) AllReadyH.nil
        go_simp
        try go_simp
        refine hK.out _ _ (hHeld.go ((Below.refl _ _).alloc (Nat.le_refl _) _)) (fun hHeld2 => ?_)
        clear hK K hHeld
        rename JdI _ _ _ _ _ _ _ _ _ _ _ _ => hHeld3
        have hHeld := hHeld3
        clear hHeld3
        try simp only [Act.put, List.setIfInBounds_toArray, List.set_cons_zero, List.set_cons_succ, List.getElem_toArray, List.getElem_cons_succ, List.getElem_cons_zero]
        refine wpAnyH_ready (rs := [4]) (by kernel_rfl) (by simp) ?_
        refine AllReadyH.cons (o := { dst := some 110, op := Op.call { callee := Callee.builtin Builtin.append, args := #[Operand.tmp 108, Operand.tmp 109], argTypes := #[34, 34] }, type := 34, pos := "law.go:176", after := #[{ on := 2, ground := Ground.data }, { on := 3, ground := Ground.data }], guard := none }) rfl (fun K hK => ?_) AllReadyH.nil
        obtain ⟨V1, V2, o1, c1, o2, c2, HQ0⟩ := pair_iii (n := nb) hV.vb (⟨4, -1, 0, 0, 0, []⟩) (by first | omega | (simp only [List.length_append]; omega)) (by first | rfl | exact List.length_append | omega)
        refine step_app2 (by rfl) (Operand.tmp 108) (Operand.tmp 109) 34 34 rfl HQ0.hr1 ?_
        refine hK.out _ _ (hV.go HQ0.b1) (fun hHeld2 => ?_)
        clear hK K hHeld
        have hHeld := hHeld2
        clear hHeld2
        try simp only [Act.put, List.setIfInBounds_toArray, List.set_cons_zero, List.set_cons_succ, List.getElem_toArray, List.getElem_cons_succ, List.getElem_cons_zero]
        refine wpAnyH_ready (rs := [7]) (by kernel_rfl) (by simp) ?_
        refine AllReadyH.cons (o := { dst := some 113, op := Op.call { callee := Callee.builtin Builtin.append, args := #[Operand.tmp 110, Operand.tmp 112], argTypes := #[34, 34] }, type := 34, pos := "law.go:176", after := #[{ on := 4, ground := Ground.data }, { on := 6, ground := Ground.data }, { on := 4, ground := Ground.chain }], guard := none }) rfl (fun K hK => ?_) AllReadyH.nil
        refine step_app2 (by rfl) (Operand.tmp 110) (Operand.tmp 112) 34 34 rfl HQ0.hr2 ?_
        refine hK.out _ _ (hV.go HQ0.b2) (fun hHeld2 => ?_)
        clear hK K hHeld hV
        have hHeld := hHeld2
        clear hHeld2
        try simp only [Act.put, List.setIfInBounds_toArray, List.set_cons_zero, List.set_cons_succ, List.getElem_toArray, List.getElem_cons_succ, List.getElem_cons_zero]
        refine wpAnyH_ready (rs := [8]) (by kernel_rfl) (by simp) ?_
        refine AllReadyH.cons (o := { dst := some 114, op := Op.call { callee := Callee.value (Operand.func 19), args := #[Operand.tmp 107, Operand.tmp 113], argTypes := #[34, 34] }, type := 4, pos := "law.go:176", after := #[{ on := 1, ground := Ground.data }, { on := 7, ground := Ground.data }, { on := 7, ground := Ground.chain }], guard := none }) rfl (fun K hK => ?_) AllReadyH.nil
        go_simp
        refine (hSame 4 _ _ _ hHeld.vd HQ0.rows.view).mono ?_
        rintro e u8 ⟨rfl, hb⟩
        try go_simp
        refine hK.out _ _ (hHeld.go hb) (fun hHeld2 => ?_)
        clear hK K hb hHeld
        rename JdI _ _ _ _ _ _ _ _ _ _ _ _ => hHeld
        try simp only [Act.put, List.setIfInBounds_toArray, List.set_cons_zero, List.set_cons_succ, List.getElem_toArray, List.getElem_cons_succ, List.getElem_cons_zero]
        refine wpAnyH_take (i := 9) (v := ?_) rfl (by kernel_rfl) (by kernel_rfl) (by kernel_rfl) (fun _ _ _ h => h) (Or.inl ⟨by rfl, ?_⟩) hHeld ?_
        rotate_left
        · intro u hSu; go_simp; try with_reducible rfl
        simp only [Act.put, List.setIfInBounds_toArray, List.set_cons_zero, List.set_cons_succ, List.getElem_toArray, List.getElem_cons_succ, List.getElem_cons_zero]
        refine wpAnyH_done (by kernel_rfl) ?_ _
        go_wp2_with fail
        go_meet
        exact ⟨rfl, hHeld⟩
      case rest =>
        clear hI hSame
        obtain ⟨hc1, hI⟩ := hcut
        subst hc1
        have HB := Lib.hid hI.below
        clear hI
        go_wp2_with fail
        go_ret
        exact ⟨rfl, HB.out⟩

end Go.Proofs.YthofogokpolhdaaGreatDoor.Parses

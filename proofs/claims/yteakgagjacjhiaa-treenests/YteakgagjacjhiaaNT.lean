/-
  TreeNests.
-/
import Derived.Test.YteakgagjacjhiaaUY
import Derived.Test.YteakgagjacjhiaaGS
namespace Go.Proofs.Yteakgagjacjhiaa.Trees
open Go.RowKit Go.Shelf
open Go.Proofs.Yteakgagjacjhiaa.Style (bs bs_size bs_at getD_at bs_of)
open Go.Proofs.Yteakgagjacjhiaa.Toks (cell_lt cell_same SliceAt Above wpList_app)
set_option linter.unusedVariables false
set_option linter.unusedSimpArgs false

theorem may_r (r : Nat) (hr : r < 4) : mayZ symT ⟨3 + r, -1, 0, 0, 0, []⟩ = true := by
  rcases (by omega : r = 0 ∨ r = 1 ∨ r = 2 ∨ r = 3) with rfl | rfl | rfl | rfl
  · exact may_op3 _ (by simp)
  · exact may_op3 _ (by simp)
  · exact may_op3 _ (by simp)
  · exact may_note _ _ (by simp) rfl
theorem nest_twos {ta tb : Tr} (ha : ta.good symT) (hb : tb.good symT) (hl : ta.flat.length ≤ 31) (hl2 : tb.flat.length ≤ 31) (r : Nat) (hr : r < 2) : nestZ symT (ta.flat ++ tb.flat ++ [⟨3 + r, -1, 0, 0, 0, []⟩]) = ((max ta.nest (tb.nest + inZ (3 + r) tb.top.op) : Nat) : Int) := by
  have hg : (Tr.two ⟨3 + r, -1, 0, 0, 0, []⟩ ta tb).good symT := ⟨⟨may_r r (by omega), by rcases (by omega : r = 0 ∨ r = 1) with rfl | rfl <;> rfl⟩, ha, hb⟩
  exact nest_tree hg (by simp only [Tr.flat, List.length_append, List.length_cons, List.length_nil]; omega)
theorem nest_ones {tb : Tr} (hb : tb.good symT) (hl2 : tb.flat.length ≤ 31) (r : Nat) (hr : r < 4) (h2 : ¬ r < 2) : nestZ symT (tb.flat ++ [⟨3 + r, -1, 0, 0, 0, []⟩]) = ((tb.nest + inZ (3 + r) tb.top.op : Nat) : Int) := by
  have hg : (Tr.one ⟨3 + r, -1, 0, 0, 0, []⟩ tb).good symT := ⟨⟨may_r r hr, by rcases (by omega : r = 2 ∨ r = 3) with rfl | rfl <;> rfl⟩, hb⟩
  exact nest_tree hg (by simp only [Tr.flat, List.length_append, List.length_cons, List.length_nil]; omega)
theorem nest_small : ∀ t : Tr, t.nest + 1 ≤ t.flat.length
  | .leaf x => by simp [Tr.nest, Tr.flat]
  | .one x a => by
    have := nest_small a
    have h3 : inZ x.op a.top.op ≤ 1 := by unfold inZ; split <;> omega
    simp only [Tr.nest, Tr.flat, List.length_append, List.length_cons, List.length_nil]; omega
  | .two x a b => by
    have := nest_small a
    have := nest_small b
    have h3 : inZ x.op b.top.op ≤ 1 := by unfold inZ; split <;> omega
    simp only [Tr.nest, Tr.flat, List.length_append, List.length_cons, List.length_nil]; omega
theorem top_op {ok : Int → Int → Bool} : ∀ {t : Tr}, t.good ok → 1 ≤ t.top.op ∧ t.top.op ≤ 7
  | .leaf x, h => may_op h.1
  | .one x a, h => may_op h.1.1
  | .two x a b, h => may_op h.1.1
theorem top_last (t : Tr) : t.flat.getD (t.flat.length - 1) default = t.top := by
  rw [← flat_last t, List.getLastD_eq_getLast?, List.getLast?_eq_getElem?, List.getD_eq_getElem?_getD]

set_option maxRecDepth 100000 in
set_option maxHeartbeats 8000000 in
theorem nests_go (sa : Value) (la : List Int) (sb : Value) (lb : List Int) (op : Int) (w : World) (ha : IV w sa la) (hb : IV w sb lb) (hop : -9223372036854775808 ≤ op ∧ op ≤ 9223372036854775807) (hla : la.length ≤ 9223372036854775807) (hlb : lb.length ≤ 9223372036854775807) :
    Calls Try.prog 6 #[sa, sb, .int .i64 op] w fun e w' => e = .returned (.bool true) ∧ Below w.heap.size w w' := by
  have hAw := fun W => awake_yes W
  have hMa := fun W h => made_x sa la W h hla
  have hMb := fun W h => made_x sb lb W h hlb
  have hR := fun W => rest_any op 4 W (by omega) (by omega)
  have hr4 := restN_lt op 4 (by omega)
  generalize restN op 4 = r at *
  clear hop
  go_enter Try.func6, Try.ntmps6
  go_wp2_with fail
  refine (hAw _).mono ?_
  rintro e w1 ⟨rfl, hb1⟩
  go_wp2_with fail
  refine (hMa _ (ha.go hb1)).mono ?_
  rintro e w2 ⟨ta, s2, rfl, hga, hl2, hT2, hs2, hA2, hb2⟩
  obtain ⟨o2, c2, rfl⟩ := SliceAt.slice hs2
  go_wp2_with fail
  refine (hMb _ ((hb.go hb1).go hb2)).mono ?_
  rintro e w3 ⟨tb, s3, rfl, hgb, hl3, hT3, hs3, hA3, hb3⟩
  obtain ⟨o3, c3, rfl⟩ := SliceAt.slice hs3
  have hV2 := hs2.view.go hb3
  have hV3 := hs3.view
  have hB3 := (hb1.trans (hb2.mono hb1.size)).trans (hb3.mono (by have := hb1.size; have := hb2.size; omega))
  clear hs2 hs3 hA2 hA3 hb1 hb2 hb3 ha hb hAw hMa hMb
  have hsum : ¬ (250 : Int) < (ta.flat.length : Int) + (tb.flat.length : Int) := by omega
  have hnb := flat_pos tb
  go_wp2_with fail
  refine (hR _).mono ?_
  rintro e w3' ⟨rfl, rfl⟩
  have hu4 : Below w3.heap.size w3 (w3.alloc (.cells (Stp.cs ⟨3 + r, -1, 0, 0, 0, []⟩) 35)) := (Below.refl _ _).alloc (Nat.le_refl _) _
  have hG : GrI w w3.heap.size ⟨3 + r, -1, 0, 0, 0, []⟩ (.slice o2 ta.flat.length c2) (.slice o3 tb.flat.length c3) ta.flat tb.flat (w3.alloc (.cells (Stp.cs ⟨3 + r, -1, 0, 0, 0, []⟩) 35)) := ⟨StAt.new w3 _, hV2.go hu4, hV3.go hu4, hB3.trans (hu4.mono hB3.size)⟩
  simp only [Stp.cs] at hG
  clear hV2 hV3 hB3 hu4 hR
  go_upto_region 7 with fail
  change Code.wp _ _ _ _ (w3.alloc (.cells #[.int .i64 (3 + r), .int .i64 (-1), .int .i64 0, .int .i64 0, .int .i64 0, .string (bs [])] 35))
  generalize w3.alloc (.cells #[.int .i64 (3 + r), .int .i64 (-1), .int .i64 0, .int .i64 0, .int .i64 0, .string (bs [])] 35) = W4 at *
  generalize w3.heap.size = xb at *
  have hN1 := fun (s : Value) (W : World) (h : View W s ta.flat) => nest_any s ta.flat W h (far hT2) (by omega)
  have hN2 := fun (s : Value) (W : World) (h : View W s tb.flat) => nest_any s tb.flat W h (far hT3) (by omega)
  have hN3 := fun (s : Value) (W : World) (h : View W s (ta.flat ++ tb.flat ++ [⟨3 + r, -1, 0, 0, 0, []⟩])) => nest_any s (ta.flat ++ tb.flat ++ [⟨3 + r, -1, 0, 0, 0, []⟩]) W h (far (fits (fits hT2 hT3) (by simp))) (by simp only [List.length_append, List.length_cons, List.length_nil]; omega)
  have hN4 := fun (s : Value) (W : World) (h : View W s (tb.flat ++ [⟨3 + r, -1, 0, 0, 0, []⟩])) => nest_any s (tb.flat ++ [⟨3 + r, -1, 0, 0, 0, []⟩]) W h (far (fits hT3 (by simp))) (by simp only [List.length_append, List.length_cons, List.length_nil]; omega)
  rw [nest_tree hga (by omega)] at hN1
  rw [nest_tree hgb (by omega)] at hN2
  have hq2 := nest_twos hga hgb hl2 hl3 r
  have hq1 := nest_ones hgb hl3 r hr4
  have hlo := top_op hgb
  have hsa := nest_small ta
  have hsb := nest_small tb
  have htl := top_last tb
  have hx0 : ∃ b off, o3 = some ⟨b, off, none⟩ ∧ W4.cell? ⟨b, off + (tb.flat.length - 1) * 6, none⟩ = some (.int .i64 tb.top.op) := by
    obtain ⟨o', c', e', _, hv⟩ := hG.v2
    obtain ⟨b, off, eo, c0, _⟩ := hv (tb.flat.length - 1) (by omega)
    injection e' with e1 _ _
    rw [htl] at c0
    exact ⟨b, off, e1.trans eo, c0⟩
  obtain ⟨lb3, lo3, rfl, hc0⟩ := hx0
  have hc3 : (tb.flat.length : Int) ≤ c3 := by
    obtain ⟨o', c', e', h, _⟩ := hG.v2
    injection e' with _ _ e3
    subst e3; omega
  have HQ := Lib.hid (And.intro hq1 hq2)
  clear hga hgb hq1 hq2 htl hT2 hT3
  generalize ta.flat = L1 at *
  generalize tb.flat = L2 at *
  generalize tb.top.op = lo at *
  generalize ta.nest = d1 at *
  generalize tb.nest = d2 at *
  obtain ⟨n2, hn2⟩ : ∃ n2, L2.length = n2 + 1 := ⟨L2.length - 1, by omega⟩
  rw [show L2.length - 1 = n2 by omega] at hc0
  have hn2i : (L2.length : Int) - 1 = (n2 : Int) := by omega
  have hn2j : (n2 : Int) < (L2.length : Int) := by omega
  have HN := Lib.hid hn2
  clear hn2
  go_upto_region 9 with fail
  have h0 := hG.st.c0
  simp only at h0
  go_cut [52] from 15 (fun x wx => x = .bool (brkZ (3 + r) lo) ∧ wx = W4)
  case first =>
    clear hG hN1 hN2 hN3 hN4 HQ HN
    rcases (by omega : lo = 1 ∨ lo = 2 ∨ lo = 3 ∨ lo = 4 ∨ lo = 5 ∨ lo = 6 ∨ lo = 7) with rfl | rfl | rfl | rfl | rfl | rfl | rfl
    all_goals
      rcases (by omega : r = 0 ∨ r = 1 ∨ r = 2 ∨ r = 3) with rfl | rfl | rfl | rfl
    all_goals
      go_wp2_with fail
      go_meet
      exact ⟨by first | rfl | (simp [brkZ]; done), rfl⟩
  case rest =>
    obtain ⟨hcc1, hcc2⟩ := hcut
    subst hcc1
    replace hcc2 := hcc2.symm
    subst hcc2
    clear hc0
    have hin : inZ (3 + r) lo = if brkZ (3 + r) lo = true then 1 else 0 := rfl
    generalize inZ (3 + r) lo = iv at *
    generalize brkZ (3 + r) lo = bk at *
    go_upto_if 52 with fail
    go_cut [12] from 15 (fun x wx => x = .int .i64 (iv : Int) ∧ wx = W4)
    case first =>
      clear hG hN1 hN2 hN3 hN4 HQ
      cases bk with
      | true =>
        simp only [if_true] at hin
        subst hin
        go_wp2_with fail
        go_meet
        exact ⟨rfl, rfl⟩
      | false =>
        simp only [Bool.false_eq_true, if_false] at hin
        subst hin
        go_wp2_with fail
        go_meet
        exact ⟨rfl, rfl⟩
    case rest =>
      obtain ⟨hcc1, hcc2⟩ := hcut
      subst hcc1
      replace hcc2 := hcc2.symm
      subst hcc2
      have hiv : iv ≤ 1 := by cases bk <;> simp_all
      clear hin
      go_wp2_with fail
      refine (hN2 _ W4 hG.v2).mono ?_
      rintro e W5 ⟨rfl, hb5⟩
      replace hG := hG.go hb5
      clear hb5 hN2 h0
      have h0 := hG.st.c0
      simp only at h0
      go_upto_region 12 with fail
      go_cut [62] from 15 (fun x wx => x = .bool (decide (r < 2)) ∧ wx = W5)
      case first =>
        clear hG hN1 hN3 hN4 HQ
        rcases (by omega : r = 0 ∨ r = 1 ∨ r = 2 ∨ r = 3) with rfl | rfl | rfl | rfl
        all_goals
          go_wp2_with fail
          go_meet
          exact ⟨by first | rfl | simp, rfl⟩
      case rest =>
        obtain ⟨hcc1, hcc2⟩ := hcut
        subst hcc1
        replace hcc2 := hcc2.symm
        subst hcc2
        clear h0
        have hd1 : (d1 : Int) ≤ 31 := by omega
        have hd2 : (d2 : Int) ≤ 31 := by omega
        have hivi : (iv : Int) ≤ 1 := by omega
        by_cases h2 : r < 2
        · have h3 := HQ.out.2 h2
          rw [h3] at hN3
          rw [decide_eq_true h2]
          clear hN4 HQ h3
          go_upto_region 13 with fail
          go_cut [14] from 15 (fun x wx => ∃ o c, x = .slice o (L1.length + L2.length + 1) c ∧ View wx (.slice o (L1.length + L2.length + 1) c) (L1 ++ L2 ++ [⟨3 + r, -1, 0, 0, 0, []⟩]) ∧ GrI w xb ⟨3 + r, -1, 0, 0, 0, []⟩ (.slice o2 L1.length c2) (.slice (some ⟨lb3, lo3, none⟩) L2.length c3) L1 L2 wx)
          case first =>
            clear hN1 hN3
            refine wp_region_held_drew (S := (fun v => GrI w xb ⟨3 + r, -1, 0, 0, 0, []⟩ (.slice o2 L1.length c2) (.slice (some ⟨lb3, lo3, none⟩) L2.length c3) L1 L2 v)) (by kernel_rfl) hG.drew (fun hHeld => ?_)
            clear hG
            refine wpAnyH_take (i := 1) (v := ?_) rfl (by kernel_rfl) (by kernel_rfl) (by kernel_rfl) (fun _ _ _ h => h) (Or.inl ⟨by rfl, ?_⟩) hHeld ?_
            rotate_left
            · intro u hSu; go_simp; try with_reducible rfl
            simp only [Act.put, List.setIfInBounds_toArray, List.set_cons_zero, List.set_cons_succ, List.getElem_toArray, List.getElem_cons_succ, List.getElem_cons_zero]
            refine wpAnyH_take (i := 3) (v := ?_) rfl (by kernel_rfl) (by kernel_rfl) (by kernel_rfl) (fun _ _ _ h => h) (Or.inl ⟨by rfl, ?_⟩) hHeld ?_
            rotate_left
            · intro u hSu; go_simp; try with_reducible rfl
            simp only [Act.put, List.setIfInBounds_toArray, List.set_cons_zero, List.set_cons_succ, List.getElem_toArray, List.getElem_cons_succ, List.getElem_cons_zero]
            refine wpAnyH_take (i := 5) (v := ?_) rfl (by kernel_rfl) (by kernel_rfl) (by kernel_rfl) (fun _ _ _ h => h) (Or.inl ⟨by rfl, ?_⟩) hHeld ?_
            rotate_left
            · intro u hSu; obtain ⟨c0, c1, c2', c3', c4, c5⟩ := hSu.st; simp only at c0 c1 c2' c3' c4 c5; go_simp; try with_reducible rfl
            simp only [Act.put, List.setIfInBounds_toArray, List.set_cons_zero, List.set_cons_succ, List.getElem_toArray, List.getElem_cons_succ, List.getElem_cons_zero]
            refine wpAnyH_ready (rs := [0, 6]) (by kernel_rfl) (by simp) ?_
            refine AllReadyH.cons (o := { dst := some 63, op := Op.buildSlice 27 0 #[], type := 27, pos := "law.go:132", after := #[], guard := none }) rfl (fun K hK => ?_) ?_
            · skip
              have hV := hHeld
              have HC0 := ChI.start0 hV.below ⟨3 + r, -1, 0, 0, 0, []⟩
              go_simp
              refine hK.out _ _ (hHeld.go (alloc_own _ _)) (fun hHeld2 => ?_)
              clear hK K hHeld
              have hHeld := hHeld2
              clear hHeld2
              try simp only [Act.put, List.setIfInBounds_toArray, List.set_cons_zero, List.set_cons_succ, List.getElem_toArray, List.getElem_cons_succ, List.getElem_cons_zero]
              refine wpAnyH_ready (rs := [2, 6]) (by kernel_rfl) (by simp) ?_
              refine AllReadyH.cons (o := { dst := some 65, op := Op.call { callee := Callee.builtin Builtin.append, args := #[Operand.tmp 63, Operand.tmp 64], argTypes := #[27, 27] }, type := 27, pos := "law.go:132", after := #[{ on := 0, ground := Ground.data }, { on := 1, ground := Ground.data }], guard := none }) rfl (fun K hK => ?_) ?_
              · skip
                obtain ⟨V2, o2, c2, HR2, HN0⟩ := HC0.app (n := L1.length) (hHeld.v1) (by first | omega | (simp only [List.length_append, List.length_nil, List.nil_append]; omega)) (by first | rfl | (simp only [List.length_append, List.length_nil, List.nil_append, Nat.zero_add]; done) | (simp only [List.length_append, List.length_nil, List.nil_append]; omega))
                refine step_app2 (by rfl) (Operand.tmp 63) (Operand.tmp 64) 27 27 rfl HR2.out ?_
                refine hK.out _ _ (hV.go HN0.below) (fun hHeld2 => ?_)
                clear HC0
                have HC0 := HN0
                clear HN0
                clear hK K hHeld
                have hHeld := hHeld2
                clear hHeld2
                try simp only [Act.put, List.setIfInBounds_toArray, List.set_cons_zero, List.set_cons_succ, List.getElem_toArray, List.getElem_cons_succ, List.getElem_cons_zero]
                refine wpAnyH_ready (rs := [4, 6]) (by kernel_rfl) (by simp) ?_
                refine AllReadyH.cons (o := { dst := some 67, op := Op.call { callee := Callee.builtin Builtin.append, args := #[Operand.tmp 65, Operand.tmp 66], argTypes := #[27, 27] }, type := 27, pos := "law.go:132", after := #[{ on := 2, ground := Ground.data }, { on := 3, ground := Ground.data }, { on := 2, ground := Ground.chain }], guard := none }) rfl (fun K hK => ?_) ?_
                · skip
                  obtain ⟨V4, o4, c4, HR4, HN0⟩ := HC0.app (n := L1.length + L2.length) (hHeld.v2) (by first | omega | (simp only [List.length_append, List.length_nil, List.nil_append]; omega)) (by first | rfl | (simp only [List.length_append, List.length_nil, List.nil_append, Nat.zero_add]; done) | (simp only [List.length_append, List.length_nil, List.nil_append]; omega))
                  refine step_app2 (by rfl) (Operand.tmp 65) (Operand.tmp 66) 27 27 rfl HR4.out ?_
                  refine hK.out _ _ (hV.go HN0.below) (fun hHeld2 => ?_)
                  clear HC0
                  have HC0 := HN0
                  clear HN0
                  clear hK K hHeld
                  have hHeld := hHeld2
                  clear hHeld2
                  try simp only [Act.put, List.setIfInBounds_toArray, List.set_cons_zero, List.set_cons_succ, List.getElem_toArray, List.getElem_cons_succ, List.getElem_cons_zero]
                  refine wpAnyH_ready (rs := [6]) (by kernel_rfl) (by simp) ?_
                  refine AllReadyH.cons (o := { dst := some 69, op := Op.buildSlice 27 1 #[(0, Operand.tmp 68)], type := 27, pos := "law.go:132", after := #[{ on := 5, ground := Ground.data }], guard := none }) rfl (fun K hK => ?_) AllReadyH.nil
                  replace HC0 := HC0.one'
                  try simp only [World.size_alloc] at HC0
                  go_simp
                  refine hK.out _ _ (hHeld.go (alloc_own _ _)) (fun hHeld2 => ?_)
                  clear hK K hHeld
                  have hHeld := hHeld2
                  clear hHeld2
                  try simp only [Act.put, List.setIfInBounds_toArray, List.set_cons_zero, List.set_cons_succ, List.getElem_toArray, List.getElem_cons_succ, List.getElem_cons_zero]
                  refine wpAnyH_ready (rs := [7]) (by kernel_rfl) (by simp) ?_
                  refine AllReadyH.cons (o := { dst := some 70, op := Op.call { callee := Callee.builtin Builtin.append, args := #[Operand.tmp 67, Operand.tmp 69], argTypes := #[27, 27] }, type := 27, pos := "law.go:132", after := #[{ on := 4, ground := Ground.data }, { on := 6, ground := Ground.data }, { on := 4, ground := Ground.chain }], guard := none }) rfl (fun K hK => ?_) AllReadyH.nil
                  obtain ⟨V7, o7, c7, HR7, HS0, hB7⟩ := HC0.fin (n := L1.length + L2.length + 1) (by first | omega | (simp only [List.length_append, List.length_nil, List.nil_append]; omega)) (by first | rfl | (simp only [List.length_append, List.length_nil, List.nil_append]; done) | (simp only [List.length_append, List.length_nil, List.nil_append]; omega))
                  refine step_app2 (by rfl) (Operand.tmp 67) (Operand.tmp 69) 27 27 rfl HR7.out ?_
                  refine hK.out _ _ (hV.go hB7) (fun hHeld2 => ?_)
                  clear HC0
                  clear hK K hHeld
                  have hHeld := hHeld2
                  clear hHeld2
                  try simp only [Act.put, List.setIfInBounds_toArray, List.set_cons_zero, List.set_cons_succ, List.getElem_toArray, List.getElem_cons_succ, List.getElem_cons_zero]
                  clear hV
                  refine wpAnyH_take (i := 8) (v := ?_) rfl (by kernel_rfl) (by kernel_rfl) (by kernel_rfl) (fun _ _ _ h => h) (Or.inl ⟨by rfl, ?_⟩) hHeld ?_
                  rotate_left
                  · intro u hSu; go_simp; try with_reducible rfl
                  simp only [Act.put, List.setIfInBounds_toArray, List.set_cons_zero, List.set_cons_succ, List.getElem_toArray, List.getElem_cons_succ, List.getElem_cons_zero]
                  refine wpAnyH_done (by kernel_rfl) ?_ _
                  go_wp2_with fail
                  go_meet
                  exact ⟨_, _, rfl, HS0.view, hHeld⟩
                refine AllReadyH.cons (o := { dst := some 69, op := Op.buildSlice 27 1 #[(0, Operand.tmp 68)], type := 27, pos := "law.go:132", after := #[{ on := 5, ground := Ground.data }], guard := none }) rfl (fun K hK => ?_) AllReadyH.nil
                replace HC0 := HC0.one'
                try simp only [World.size_alloc] at HC0
                go_simp
                refine hK.out _ _ (hHeld.go (alloc_own _ _)) (fun hHeld2 => ?_)
                clear hK K hHeld
                have hHeld := hHeld2
                clear hHeld2
                try simp only [Act.put, List.setIfInBounds_toArray, List.set_cons_zero, List.set_cons_succ, List.getElem_toArray, List.getElem_cons_succ, List.getElem_cons_zero]
                refine wpAnyH_ready (rs := [4]) (by kernel_rfl) (by simp) ?_
                refine AllReadyH.cons (o := { dst := some 67, op := Op.call { callee := Callee.builtin Builtin.append, args := #[Operand.tmp 65, Operand.tmp 66], argTypes := #[27, 27] }, type := 27, pos := "law.go:132", after := #[{ on := 2, ground := Ground.data }, { on := 3, ground := Ground.data }, { on := 2, ground := Ground.chain }], guard := none }) rfl (fun K hK => ?_) AllReadyH.nil
                obtain ⟨V4, o4, c4, HR4, HN0⟩ := HC0.app (n := L1.length + L2.length) (hHeld.v2) (by first | omega | (simp only [List.length_append, List.length_nil, List.nil_append]; omega)) (by first | rfl | (simp only [List.length_append, List.length_nil, List.nil_append, Nat.zero_add]; done) | (simp only [List.length_append, List.length_nil, List.nil_append]; omega))
                refine step_app2 (by rfl) (Operand.tmp 65) (Operand.tmp 66) 27 27 rfl HR4.out ?_
                refine hK.out _ _ (hV.go HN0.below) (fun hHeld2 => ?_)
                clear HC0
                have HC0 := HN0
                clear HN0
                clear hK K hHeld
                have hHeld := hHeld2
                clear hHeld2
                try simp only [Act.put, List.setIfInBounds_toArray, List.set_cons_zero, List.set_cons_succ, List.getElem_toArray, List.getElem_cons_succ, List.getElem_cons_zero]
                refine wpAnyH_ready (rs := [7]) (by kernel_rfl) (by simp) ?_
                refine AllReadyH.cons (o := { dst := some 70, op := Op.call { callee := Callee.builtin Builtin.append, args := #[Operand.tmp 67, Operand.tmp 69], argTypes := #[27, 27] }, type := 27, pos := "law.go:132", after := #[{ on := 4, ground := Ground.data }, { on := 6, ground := Ground.data }, { on := 4, ground := Ground.chain }], guard := none }) rfl (fun K hK => ?_) AllReadyH.nil
                obtain ⟨V7, o7, c7, HR7, HS0, hB7⟩ := HC0.fin (n := L1.length + L2.length + 1) (by first | omega | (simp only [List.length_append, List.length_nil, List.nil_append]; omega)) (by first | rfl | (simp only [List.length_append, List.length_nil, List.nil_append]; done) | (simp only [List.length_append, List.length_nil, List.nil_append]; omega))
                refine step_app2 (by rfl) (Operand.tmp 67) (Operand.tmp 69) 27 27 rfl HR7.out ?_
                refine hK.out _ _ (hV.go hB7) (fun hHeld2 => ?_)
                clear HC0
                clear hK K hHeld
                have hHeld := hHeld2
                clear hHeld2
                try simp only [Act.put, List.setIfInBounds_toArray, List.set_cons_zero, List.set_cons_succ, List.getElem_toArray, List.getElem_cons_succ, List.getElem_cons_zero]
                clear hV
                refine wpAnyH_take (i := 8) (v := ?_) rfl (by kernel_rfl) (by kernel_rfl) (by kernel_rfl) (fun _ _ _ h => h) (Or.inl ⟨by rfl, ?_⟩) hHeld ?_
                rotate_left
                · intro u hSu; go_simp; try with_reducible rfl
                simp only [Act.put, List.setIfInBounds_toArray, List.set_cons_zero, List.set_cons_succ, List.getElem_toArray, List.getElem_cons_succ, List.getElem_cons_zero]
                refine wpAnyH_done (by kernel_rfl) ?_ _
                go_wp2_with fail
                go_meet
                exact ⟨_, _, rfl, HS0.view, hHeld⟩
              refine AllReadyH.cons (o := { dst := some 69, op := Op.buildSlice 27 1 #[(0, Operand.tmp 68)], type := 27, pos := "law.go:132", after := #[{ on := 5, ground := Ground.data }], guard := none }) rfl (fun K hK => ?_) AllReadyH.nil
              replace HC0 := HC0.one'
              try simp only [World.size_alloc] at HC0
              go_simp
              refine hK.out _ _ (hHeld.go (alloc_own _ _)) (fun hHeld2 => ?_)
              clear hK K hHeld
              have hHeld := hHeld2
              clear hHeld2
              try simp only [Act.put, List.setIfInBounds_toArray, List.set_cons_zero, List.set_cons_succ, List.getElem_toArray, List.getElem_cons_succ, List.getElem_cons_zero]
              refine wpAnyH_ready (rs := [2]) (by kernel_rfl) (by simp) ?_
              refine AllReadyH.cons (o := { dst := some 65, op := Op.call { callee := Callee.builtin Builtin.append, args := #[Operand.tmp 63, Operand.tmp 64], argTypes := #[27, 27] }, type := 27, pos := "law.go:132", after := #[{ on := 0, ground := Ground.data }, { on := 1, ground := Ground.data }], guard := none }) rfl (fun K hK => ?_) AllReadyH.nil
              obtain ⟨V2, o2, c2, HR2, HN0⟩ := HC0.app (n := L1.length) (hHeld.v1) (by first | omega | (simp only [List.length_append, List.length_nil, List.nil_append]; omega)) (by first | rfl | (simp only [List.length_append, List.length_nil, List.nil_append, Nat.zero_add]; done) | (simp only [List.length_append, List.length_nil, List.nil_append]; omega))
              refine step_app2 (by rfl) (Operand.tmp 63) (Operand.tmp 64) 27 27 rfl HR2.out ?_
              refine hK.out _ _ (hV.go HN0.below) (fun hHeld2 => ?_)
              clear HC0
              have HC0 := HN0
              clear HN0
              clear hK K hHeld
              have hHeld := hHeld2
              clear hHeld2
              try simp only [Act.put, List.setIfInBounds_toArray, List.set_cons_zero, List.set_cons_succ, List.getElem_toArray, List.getElem_cons_succ, List.getElem_cons_zero]
              refine wpAnyH_ready (rs := [4]) (by kernel_rfl) (by simp) ?_
              refine AllReadyH.cons (o := { dst := some 67, op := Op.call { callee := Callee.builtin Builtin.append, args := #[Operand.tmp 65, Operand.tmp 66], argTypes := #[27, 27] }, type := 27, pos := "law.go:132", after := #[{ on := 2, ground := Ground.data }, { on := 3, ground := Ground.data }, { on := 2, ground := Ground.chain }], guard := none }) rfl (fun K hK => ?_) AllReadyH.nil
              obtain ⟨V4, o4, c4, HR4, HN0⟩ := HC0.app (n := L1.length + L2.length) (hHeld.v2) (by first | omega | (simp only [List.length_append, List.length_nil, List.nil_append]; omega)) (by first | rfl | (simp only [List.length_append, List.length_nil, List.nil_append, Nat.zero_add]; done) | (simp only [List.length_append, List.length_nil, List.nil_append]; omega))
              refine step_app2 (by rfl) (Operand.tmp 65) (Operand.tmp 66) 27 27 rfl HR4.out ?_
              refine hK.out _ _ (hV.go HN0.below) (fun hHeld2 => ?_)
              clear HC0
              have HC0 := HN0
              clear HN0
              clear hK K hHeld
              have hHeld := hHeld2
              clear hHeld2
              try simp only [Act.put, List.setIfInBounds_toArray, List.set_cons_zero, List.set_cons_succ, List.getElem_toArray, List.getElem_cons_succ, List.getElem_cons_zero]
              refine wpAnyH_ready (rs := [7]) (by kernel_rfl) (by simp) ?_
              refine AllReadyH.cons (o := { dst := some 70, op := Op.call { callee := Callee.builtin Builtin.append, args := #[Operand.tmp 67, Operand.tmp 69], argTypes := #[27, 27] }, type := 27, pos := "law.go:132", after := #[{ on := 4, ground := Ground.data }, { on := 6, ground := Ground.data }, { on := 4, ground := Ground.chain }], guard := none }) rfl (fun K hK => ?_) AllReadyH.nil
              obtain ⟨V7, o7, c7, HR7, HS0, hB7⟩ := HC0.fin (n := L1.length + L2.length + 1) (by first | omega | (simp only [List.length_append, List.length_nil, List.nil_append]; omega)) (by first | rfl | (simp only [List.length_append, List.length_nil, List.nil_append]; done) | (simp only [List.length_append, List.length_nil, List.nil_append]; omega))
              refine step_app2 (by rfl) (Operand.tmp 67) (Operand.tmp 69) 27 27 rfl HR7.out ?_
              refine hK.out _ _ (hV.go hB7) (fun hHeld2 => ?_)
              clear HC0
              clear hK K hHeld
              have hHeld := hHeld2
              clear hHeld2
              try simp only [Act.put, List.setIfInBounds_toArray, List.set_cons_zero, List.set_cons_succ, List.getElem_toArray, List.getElem_cons_succ, List.getElem_cons_zero]
              clear hV
              refine wpAnyH_take (i := 8) (v := ?_) rfl (by kernel_rfl) (by kernel_rfl) (by kernel_rfl) (fun _ _ _ h => h) (Or.inl ⟨by rfl, ?_⟩) hHeld ?_
              rotate_left
              · intro u hSu; go_simp; try with_reducible rfl
              simp only [Act.put, List.setIfInBounds_toArray, List.set_cons_zero, List.set_cons_succ, List.getElem_toArray, List.getElem_cons_succ, List.getElem_cons_zero]
              refine wpAnyH_done (by kernel_rfl) ?_ _
              go_wp2_with fail
              go_meet
              exact ⟨_, _, rfl, HS0.view, hHeld⟩
            refine AllReadyH.cons (o := { dst := some 69, op := Op.buildSlice 27 1 #[(0, Operand.tmp 68)], type := 27, pos := "law.go:132", after := #[{ on := 5, ground := Ground.data }], guard := none }) rfl (fun K hK => ?_) AllReadyH.nil
            have hV := hHeld
            go_simp
            refine hK.out _ _ (hHeld.go (alloc_own _ _)) (fun hHeld2 => ?_)
            clear hK K hHeld
            have hHeld := hHeld2
            clear hHeld2
            try simp only [Act.put, List.setIfInBounds_toArray, List.set_cons_zero, List.set_cons_succ, List.getElem_toArray, List.getElem_cons_succ, List.getElem_cons_zero]
            refine wpAnyH_ready (rs := [0]) (by kernel_rfl) (by simp) ?_
            refine AllReadyH.cons (o := { dst := some 63, op := Op.buildSlice 27 0 #[], type := 27, pos := "law.go:132", after := #[], guard := none }) rfl (fun K hK => ?_) AllReadyH.nil
            have HC0 := ChI.start10 hV.below ⟨3 + r, -1, 0, 0, 0, []⟩
            go_simp
            refine hK.out _ _ (hHeld.go (alloc_own _ _)) (fun hHeld2 => ?_)
            clear hK K hHeld
            have hHeld := hHeld2
            clear hHeld2
            try simp only [Act.put, List.setIfInBounds_toArray, List.set_cons_zero, List.set_cons_succ, List.getElem_toArray, List.getElem_cons_succ, List.getElem_cons_zero]
            refine wpAnyH_ready (rs := [2]) (by kernel_rfl) (by simp) ?_
            refine AllReadyH.cons (o := { dst := some 65, op := Op.call { callee := Callee.builtin Builtin.append, args := #[Operand.tmp 63, Operand.tmp 64], argTypes := #[27, 27] }, type := 27, pos := "law.go:132", after := #[{ on := 0, ground := Ground.data }, { on := 1, ground := Ground.data }], guard := none }) rfl (fun K hK => ?_) AllReadyH.nil
            obtain ⟨V2, o2, c2, HR2, HN0⟩ := HC0.app (n := L1.length) (hHeld.v1) (by first | omega | (simp only [List.length_append, List.length_nil, List.nil_append]; omega)) (by first | rfl | (simp only [List.length_append, List.length_nil, List.nil_append, Nat.zero_add]; done) | (simp only [List.length_append, List.length_nil, List.nil_append]; omega))
            refine step_app2 (by rfl) (Operand.tmp 63) (Operand.tmp 64) 27 27 rfl HR2.out ?_
            refine hK.out _ _ (hV.go HN0.below) (fun hHeld2 => ?_)
            clear HC0
            have HC0 := HN0
            clear HN0
            clear hK K hHeld
            have hHeld := hHeld2
            clear hHeld2
            try simp only [Act.put, List.setIfInBounds_toArray, List.set_cons_zero, List.set_cons_succ, List.getElem_toArray, List.getElem_cons_succ, List.getElem_cons_zero]
            refine wpAnyH_ready (rs := [4]) (by kernel_rfl) (by simp) ?_
            refine AllReadyH.cons (o := { dst := some 67, op := Op.call { callee := Callee.builtin Builtin.append, args := #[Operand.tmp 65, Operand.tmp 66], argTypes := #[27, 27] }, type := 27, pos := "law.go:132", after := #[{ on := 2, ground := Ground.data }, { on := 3, ground := Ground.data }, { on := 2, ground := Ground.chain }], guard := none }) rfl (fun K hK => ?_) AllReadyH.nil
            obtain ⟨V4, o4, c4, HR4, HN0⟩ := HC0.app (n := L1.length + L2.length) (hHeld.v2) (by first | omega | (simp only [List.length_append, List.length_nil, List.nil_append]; omega)) (by first | rfl | (simp only [List.length_append, List.length_nil, List.nil_append, Nat.zero_add]; done) | (simp only [List.length_append, List.length_nil, List.nil_append]; omega))
            refine step_app2 (by rfl) (Operand.tmp 65) (Operand.tmp 66) 27 27 rfl HR4.out ?_
            refine hK.out _ _ (hV.go HN0.below) (fun hHeld2 => ?_)
            clear HC0
            have HC0 := HN0
            clear HN0
            clear hK K hHeld
            have hHeld := hHeld2
            clear hHeld2
            try simp only [Act.put, List.setIfInBounds_toArray, List.set_cons_zero, List.set_cons_succ, List.getElem_toArray, List.getElem_cons_succ, List.getElem_cons_zero]
            refine wpAnyH_ready (rs := [7]) (by kernel_rfl) (by simp) ?_
            refine AllReadyH.cons (o := { dst := some 70, op := Op.call { callee := Callee.builtin Builtin.append, args := #[Operand.tmp 67, Operand.tmp 69], argTypes := #[27, 27] }, type := 27, pos := "law.go:132", after := #[{ on := 4, ground := Ground.data }, { on := 6, ground := Ground.data }, { on := 4, ground := Ground.chain }], guard := none }) rfl (fun K hK => ?_) AllReadyH.nil
            obtain ⟨V7, o7, c7, HR7, HS0, hB7⟩ := HC0.fin (n := L1.length + L2.length + 1) (by first | omega | (simp only [List.length_append, List.length_nil, List.nil_append]; omega)) (by first | rfl | (simp only [List.length_append, List.length_nil, List.nil_append]; done) | (simp only [List.length_append, List.length_nil, List.nil_append]; omega))
            refine step_app2 (by rfl) (Operand.tmp 67) (Operand.tmp 69) 27 27 rfl HR7.out ?_
            refine hK.out _ _ (hV.go hB7) (fun hHeld2 => ?_)
            clear HC0
            clear hK K hHeld
            have hHeld := hHeld2
            clear hHeld2
            try simp only [Act.put, List.setIfInBounds_toArray, List.set_cons_zero, List.set_cons_succ, List.getElem_toArray, List.getElem_cons_succ, List.getElem_cons_zero]
            clear hV
            refine wpAnyH_take (i := 8) (v := ?_) rfl (by kernel_rfl) (by kernel_rfl) (by kernel_rfl) (fun _ _ _ h => h) (Or.inl ⟨by rfl, ?_⟩) hHeld ?_
            rotate_left
            · intro u hSu; go_simp; try with_reducible rfl
            simp only [Act.put, List.setIfInBounds_toArray, List.set_cons_zero, List.set_cons_succ, List.getElem_toArray, List.getElem_cons_succ, List.getElem_cons_zero]
            refine wpAnyH_done (by kernel_rfl) ?_ _
            go_wp2_with fail
            go_meet
            exact ⟨_, _, rfl, HS0.view, hHeld⟩
          case rest =>
            obtain ⟨o7, c7, hcc1, hV7, hG7⟩ := hcut
            subst hcc1
            clear hG
            go_wp2_with fail
            refine (hN3 _ _ hV7).mono ?_
            rintro e W8 ⟨rfl, hb8⟩
            replace hG7 := hG7.go hb8
            go_wp2_with fail
            refine (hN1 _ _ hG7.v1).mono ?_
            rintro e W9 ⟨rfl, hb9⟩
            replace hG7 := hG7.go hb9
            have hB := hG7.below
            clear hN1 hN3 hb8 hb9 hV7 hG7
            by_cases hmx : d1 < d2 + iv
            · have hmi : (d1 : Int) < (d2 : Int) + (iv : Int) := by omega
              have hme : max d1 (d2 + iv) = d2 + iv := by omega
              rw [hme]
              have hme2 : ((d2 + iv : Nat) : Int) = (d2 : Int) + (iv : Int) := by omega
              rw [hme2]
              go_wp2_with fail
              go_ret
              exact ⟨by first | rfl | simp, hB⟩
            · have hmi : ¬ (d1 : Int) < (d2 : Int) + (iv : Int) := by omega
              have hmi2 : (d2 : Int) + (iv : Int) ≤ (d1 : Int) := by omega
              have hme : max d1 (d2 + iv) = d1 := by omega
              rw [hme]
              go_wp2_with fail
              go_ret
              exact ⟨by first | rfl | simp, hB⟩
        · have h3 := HQ.out.1 h2
          rw [h3] at hN4
          rw [decide_eq_false h2]
          clear hN1 hN3 HQ h3
          have hme2 : ((d2 + iv : Nat) : Int) = (d2 : Int) + (iv : Int) := by omega
          rw [hme2] at hN4
          have hwr : IntKind.i64.wrap ((d2 : Int) + (iv : Int)) = (d2 : Int) + (iv : Int) := by unfold IntKind.wrap; simp [IntKind.bits, IntKind.signed]; omega
          go_upto_region 15 with fail
          refine wp_region_held_drew (S := (fun v => GrI w xb ⟨3 + r, -1, 0, 0, 0, []⟩ (.slice o2 L1.length c2) (.slice (some ⟨lb3, lo3, none⟩) L2.length c3) L1 L2 v)) (by kernel_rfl) hG.drew (fun hHeld => ?_)
          clear hG
          refine wpAnyH_take (i := 0) (v := ?_) rfl (by kernel_rfl) (by kernel_rfl) (by kernel_rfl) (fun _ _ _ h => h) (Or.inl ⟨by rfl, ?_⟩) hHeld ?_
          rotate_left
          · intro u hSu; go_simp; try with_reducible rfl
          simp only [Act.put, List.setIfInBounds_toArray, List.set_cons_zero, List.set_cons_succ, List.getElem_toArray, List.getElem_cons_succ, List.getElem_cons_zero]
          refine wpAnyH_take (i := 1) (v := ?_) rfl (by kernel_rfl) (by kernel_rfl) (by kernel_rfl) (fun _ _ _ h => h) (Or.inl ⟨by rfl, ?_⟩) hHeld ?_
          rotate_left
          · intro u hSu; go_simp; try with_reducible rfl
          simp only [Act.put, List.setIfInBounds_toArray, List.set_cons_zero, List.set_cons_succ, List.getElem_toArray, List.getElem_cons_succ, List.getElem_cons_zero]
          refine wpAnyH_take (i := 3) (v := ?_) rfl (by kernel_rfl) (by kernel_rfl) (by kernel_rfl) (fun _ _ _ h => h) (Or.inl ⟨by rfl, ?_⟩) hHeld ?_
          rotate_left
          · intro u hSu; go_simp; try with_reducible rfl
          simp only [Act.put, List.setIfInBounds_toArray, List.set_cons_zero, List.set_cons_succ, List.getElem_toArray, List.getElem_cons_succ, List.getElem_cons_zero]
          refine wpAnyH_take (i := 5) (v := ?_) rfl (by kernel_rfl) (by kernel_rfl) (by kernel_rfl) (fun _ _ _ h => h) (Or.inl ⟨by rfl, ?_⟩) hHeld ?_
          rotate_left
          · intro u hSu; obtain ⟨c0, c1, c2', c3', c4, c5⟩ := hSu.st; simp only at c0 c1 c2' c3' c4 c5; go_simp; try with_reducible rfl
          simp only [Act.put, List.setIfInBounds_toArray, List.set_cons_zero, List.set_cons_succ, List.getElem_toArray, List.getElem_cons_succ, List.getElem_cons_zero]
          refine wpAnyH_take (i := 9) (v := ?_) rfl (by kernel_rfl) (by kernel_rfl) (by kernel_rfl) (fun _ _ _ h => h) (Or.inl ⟨by rfl, ?_⟩) hHeld ?_
          rotate_left
          · intro u hSu; go_simp; try with_reducible rfl
          simp only [Act.put, List.setIfInBounds_toArray, List.set_cons_zero, List.set_cons_succ, List.getElem_toArray, List.getElem_cons_succ, List.getElem_cons_zero]
          refine wpAnyH_take (i := 10) (v := ?_) rfl (by kernel_rfl) (by kernel_rfl) (by kernel_rfl) (fun _ _ _ h => h) (Or.inl ⟨by rfl, ?_⟩) hHeld ?_
          rotate_left
          · intro u hSu; go_simp; try with_reducible rfl
          simp only [Act.put, List.setIfInBounds_toArray, List.set_cons_zero, List.set_cons_succ, List.getElem_toArray, List.getElem_cons_succ, List.getElem_cons_zero]
          refine wpAnyH_take (i := 11) (v := ?_) rfl (by kernel_rfl) (by kernel_rfl) (by kernel_rfl) (fun _ _ _ h => h) (Or.inl ⟨by rfl, ?_⟩) hHeld ?_
          rotate_left
          · intro u hSu; go_simp; try with_reducible rfl
          simp only [Act.put, List.setIfInBounds_toArray, List.set_cons_zero, List.set_cons_succ, List.getElem_toArray, List.getElem_cons_succ, List.getElem_cons_zero]
          refine wpAnyH_ready (rs := [2, 6]) (by kernel_rfl) (by simp) ?_
          refine AllReadyH.cons (o := { dst := some 85, op := Op.buildSlice 27 0 #[], type := 27, pos := "law.go:135", after := #[{ on := 1, ground := Ground.guard }], guard := some (1, true) }) rfl (fun K hK => ?_) ?_
          · skip
            have hV := hHeld
            have HC0 := ChI.start0 hV.below ⟨3 + r, -1, 0, 0, 0, []⟩
            go_simp
            refine hK.out _ _ (hHeld.go (alloc_own _ _)) (fun hHeld2 => ?_)
            clear hK K hHeld
            have hHeld := hHeld2
            clear hHeld2
            try simp only [Act.put, List.setIfInBounds_toArray, List.set_cons_zero, List.set_cons_succ, List.getElem_toArray, List.getElem_cons_succ, List.getElem_cons_zero]
            refine wpAnyH_ready (rs := [4, 6]) (by kernel_rfl) (by simp) ?_
            refine AllReadyH.cons (o := { dst := some 87, op := Op.call { callee := Callee.builtin Builtin.append, args := #[Operand.tmp 85, Operand.tmp 86], argTypes := #[27, 27] }, type := 27, pos := "law.go:135", after := #[{ on := 2, ground := Ground.data }, { on := 3, ground := Ground.data }, { on := 1, ground := Ground.chain }, { on := 1, ground := Ground.guard }], guard := some (1, true) }) rfl (fun K hK => ?_) ?_
            · skip
              obtain ⟨V4, o4, c4, HR4, HN0⟩ := HC0.app (n := L2.length) (hHeld.v2) (by first | omega | (simp only [List.length_append, List.length_nil, List.nil_append]; omega)) (by first | rfl | (simp only [List.length_append, List.length_nil, List.nil_append, Nat.zero_add]; done) | (simp only [List.length_append, List.length_nil, List.nil_append]; omega))
              refine step_app2 (by rfl) (Operand.tmp 85) (Operand.tmp 86) 27 27 rfl HR4.out ?_
              refine hK.out _ _ (hV.go HN0.below) (fun hHeld2 => ?_)
              clear HC0
              have HC0 := HN0
              clear HN0
              clear hK K hHeld
              have hHeld := hHeld2
              clear hHeld2
              try simp only [Act.put, List.setIfInBounds_toArray, List.set_cons_zero, List.set_cons_succ, List.getElem_toArray, List.getElem_cons_succ, List.getElem_cons_zero]
              refine wpAnyH_ready (rs := [6]) (by kernel_rfl) (by simp) ?_
              refine AllReadyH.cons (o := { dst := some 89, op := Op.buildSlice 27 1 #[(0, Operand.tmp 88)], type := 27, pos := "law.go:135", after := #[{ on := 5, ground := Ground.data }, { on := 1, ground := Ground.guard }], guard := some (1, true) }) rfl (fun K hK => ?_) AllReadyH.nil
              replace HC0 := HC0.one'
              try simp only [World.size_alloc] at HC0
              go_simp
              refine hK.out _ _ (hHeld.go (alloc_own _ _)) (fun hHeld2 => ?_)
              clear hK K hHeld
              have hHeld := hHeld2
              clear hHeld2
              try simp only [Act.put, List.setIfInBounds_toArray, List.set_cons_zero, List.set_cons_succ, List.getElem_toArray, List.getElem_cons_succ, List.getElem_cons_zero]
              refine wpAnyH_ready (rs := [7]) (by kernel_rfl) (by simp) ?_
              refine AllReadyH.cons (o := { dst := some 90, op := Op.call { callee := Callee.builtin Builtin.append, args := #[Operand.tmp 87, Operand.tmp 89], argTypes := #[27, 27] }, type := 27, pos := "law.go:135", after := #[{ on := 4, ground := Ground.data }, { on := 6, ground := Ground.data }, { on := 4, ground := Ground.chain }, { on := 1, ground := Ground.guard }], guard := some (1, true) }) rfl (fun K hK => ?_) AllReadyH.nil
              obtain ⟨V7, o7, c7, HR7, HS0, hB7⟩ := HC0.fin (n := L2.length + 1) (by first | omega | (simp only [List.length_append, List.length_nil, List.nil_append]; omega)) (by first | rfl | (simp only [List.length_append, List.length_nil, List.nil_append]; done) | (simp only [List.length_append, List.length_nil, List.nil_append]; omega))
              refine step_app2 (by rfl) (Operand.tmp 87) (Operand.tmp 89) 27 27 rfl HR7.out ?_
              refine hK.out _ _ (hV.go hB7) (fun hHeld2 => ?_)
              clear HC0
              clear hK K hHeld
              have hHeld := hHeld2
              clear hHeld2
              try simp only [Act.put, List.setIfInBounds_toArray, List.set_cons_zero, List.set_cons_succ, List.getElem_toArray, List.getElem_cons_succ, List.getElem_cons_zero]
              clear hV
              refine wpAnyH_ready (rs := [8]) (by kernel_rfl) (by simp) ?_
              refine AllReadyH.cons (o := { dst := some 91, op := Op.call { callee := Callee.value (Operand.func 16), args := #[Operand.tmp 90], argTypes := #[27] }, type := 3, pos := "law.go:135", after := #[{ on := 7, ground := Ground.data }, { on := 7, ground := Ground.chain }, { on := 1, ground := Ground.guard }], guard := some (1, true) }) rfl (fun K hK => ?_) AllReadyH.nil
              go_simp
              refine (hN4 _ _ HS0.view).mono ?_
              rintro e u8 ⟨rfl, hb⟩
              try go_simp
              refine hK.out _ _ (hHeld.go hb) (fun hHeld2 => ?_)
              clear hK K hb hHeld
              rename GrI _ _ _ _ _ _ _ _ => hHeld
              try simp only [Act.put, List.setIfInBounds_toArray, List.set_cons_zero, List.set_cons_succ, List.getElem_toArray, List.getElem_cons_succ, List.getElem_cons_zero]
              refine wpAnyH_take (i := 12) (v := ?_) rfl (by kernel_rfl) (by kernel_rfl) (by kernel_rfl) (fun _ _ _ h => h) (Or.inl ⟨by rfl, ?_⟩) hHeld ?_
              rotate_left
              · intro u hSu; go_simp; try with_reducible rfl
              simp only [Act.put, List.setIfInBounds_toArray, List.set_cons_zero, List.set_cons_succ, List.getElem_toArray, List.getElem_cons_succ, List.getElem_cons_zero]
              refine wpAnyH_take (i := 13) (v := ?_) rfl (by kernel_rfl) (by kernel_rfl) (by kernel_rfl) (fun _ _ _ h => h) (Or.inl ⟨by rfl, ?_⟩) hHeld ?_
              rotate_left
              · intro u hSu; go_simp; try with_reducible rfl
              simp only [Act.put, List.setIfInBounds_toArray, List.set_cons_zero, List.set_cons_succ, List.getElem_toArray, List.getElem_cons_succ, List.getElem_cons_zero]
              refine wpAnyH_take (i := 14) (v := ?_) rfl (by kernel_rfl) (by kernel_rfl) (by kernel_rfl) (fun _ _ _ h => h) (Or.inl ⟨by rfl, ?_⟩) hHeld ?_
              rotate_left
              · intro u hSu; go_simp; try with_reducible rfl
              simp only [Act.put, List.setIfInBounds_toArray, List.set_cons_zero, List.set_cons_succ, List.getElem_toArray, List.getElem_cons_succ, List.getElem_cons_zero]
              refine wpAnyH_done (by kernel_rfl) ?_ _
              have hB := hHeld.below
              clear hHeld
              go_wp2_with fail
              go_ret
              exact ⟨by first | rfl | simp, hB⟩
            refine AllReadyH.cons (o := { dst := some 89, op := Op.buildSlice 27 1 #[(0, Operand.tmp 88)], type := 27, pos := "law.go:135", after := #[{ on := 5, ground := Ground.data }, { on := 1, ground := Ground.guard }], guard := some (1, true) }) rfl (fun K hK => ?_) AllReadyH.nil
            replace HC0 := HC0.one'
            try simp only [World.size_alloc] at HC0
            go_simp
            refine hK.out _ _ (hHeld.go (alloc_own _ _)) (fun hHeld2 => ?_)
            clear hK K hHeld
            have hHeld := hHeld2
            clear hHeld2
            try simp only [Act.put, List.setIfInBounds_toArray, List.set_cons_zero, List.set_cons_succ, List.getElem_toArray, List.getElem_cons_succ, List.getElem_cons_zero]
            refine wpAnyH_ready (rs := [4]) (by kernel_rfl) (by simp) ?_
            refine AllReadyH.cons (o := { dst := some 87, op := Op.call { callee := Callee.builtin Builtin.append, args := #[Operand.tmp 85, Operand.tmp 86], argTypes := #[27, 27] }, type := 27, pos := "law.go:135", after := #[{ on := 2, ground := Ground.data }, { on := 3, ground := Ground.data }, { on := 1, ground := Ground.chain }, { on := 1, ground := Ground.guard }], guard := some (1, true) }) rfl (fun K hK => ?_) AllReadyH.nil
            obtain ⟨V4, o4, c4, HR4, HN0⟩ := HC0.app (n := L2.length) (hHeld.v2) (by first | omega | (simp only [List.length_append, List.length_nil, List.nil_append]; omega)) (by first | rfl | (simp only [List.length_append, List.length_nil, List.nil_append, Nat.zero_add]; done) | (simp only [List.length_append, List.length_nil, List.nil_append]; omega))
            refine step_app2 (by rfl) (Operand.tmp 85) (Operand.tmp 86) 27 27 rfl HR4.out ?_
            refine hK.out _ _ (hV.go HN0.below) (fun hHeld2 => ?_)
            clear HC0
            have HC0 := HN0
            clear HN0
            clear hK K hHeld
            have hHeld := hHeld2
            clear hHeld2
            try simp only [Act.put, List.setIfInBounds_toArray, List.set_cons_zero, List.set_cons_succ, List.getElem_toArray, List.getElem_cons_succ, List.getElem_cons_zero]
            refine wpAnyH_ready (rs := [7]) (by kernel_rfl) (by simp) ?_
            refine AllReadyH.cons (o := { dst := some 90, op := Op.call { callee := Callee.builtin Builtin.append, args := #[Operand.tmp 87, Operand.tmp 89], argTypes := #[27, 27] }, type := 27, pos := "law.go:135", after := #[{ on := 4, ground := Ground.data }, { on := 6, ground := Ground.data }, { on := 4, ground := Ground.chain }, { on := 1, ground := Ground.guard }], guard := some (1, true) }) rfl (fun K hK => ?_) AllReadyH.nil
            obtain ⟨V7, o7, c7, HR7, HS0, hB7⟩ := HC0.fin (n := L2.length + 1) (by first | omega | (simp only [List.length_append, List.length_nil, List.nil_append]; omega)) (by first | rfl | (simp only [List.length_append, List.length_nil, List.nil_append]; done) | (simp only [List.length_append, List.length_nil, List.nil_append]; omega))
            refine step_app2 (by rfl) (Operand.tmp 87) (Operand.tmp 89) 27 27 rfl HR7.out ?_
            refine hK.out _ _ (hV.go hB7) (fun hHeld2 => ?_)
            clear HC0
            clear hK K hHeld
            have hHeld := hHeld2
            clear hHeld2
            try simp only [Act.put, List.setIfInBounds_toArray, List.set_cons_zero, List.set_cons_succ, List.getElem_toArray, List.getElem_cons_succ, List.getElem_cons_zero]
            clear hV
            refine wpAnyH_ready (rs := [8]) (by kernel_rfl) (by simp) ?_
            refine AllReadyH.cons (o := { dst := some 91, op := Op.call { callee := Callee.value (Operand.func 16), args := #[Operand.tmp 90], argTypes := #[27] }, type := 3, pos := "law.go:135", after := #[{ on := 7, ground := Ground.data }, { on := 7, ground := Ground.chain }, { on := 1, ground := Ground.guard }], guard := some (1, true) }) rfl (fun K hK => ?_) AllReadyH.nil
            go_simp
            refine (hN4 _ _ HS0.view).mono ?_
            rintro e u8 ⟨rfl, hb⟩
            try go_simp
            refine hK.out _ _ (hHeld.go hb) (fun hHeld2 => ?_)
            clear hK K hb hHeld
            rename GrI _ _ _ _ _ _ _ _ => hHeld
            try simp only [Act.put, List.setIfInBounds_toArray, List.set_cons_zero, List.set_cons_succ, List.getElem_toArray, List.getElem_cons_succ, List.getElem_cons_zero]
            refine wpAnyH_take (i := 12) (v := ?_) rfl (by kernel_rfl) (by kernel_rfl) (by kernel_rfl) (fun _ _ _ h => h) (Or.inl ⟨by rfl, ?_⟩) hHeld ?_
            rotate_left
            · intro u hSu; go_simp; try with_reducible rfl
            simp only [Act.put, List.setIfInBounds_toArray, List.set_cons_zero, List.set_cons_succ, List.getElem_toArray, List.getElem_cons_succ, List.getElem_cons_zero]
            refine wpAnyH_take (i := 13) (v := ?_) rfl (by kernel_rfl) (by kernel_rfl) (by kernel_rfl) (fun _ _ _ h => h) (Or.inl ⟨by rfl, ?_⟩) hHeld ?_
            rotate_left
            · intro u hSu; go_simp; try with_reducible rfl
            simp only [Act.put, List.setIfInBounds_toArray, List.set_cons_zero, List.set_cons_succ, List.getElem_toArray, List.getElem_cons_succ, List.getElem_cons_zero]
            refine wpAnyH_take (i := 14) (v := ?_) rfl (by kernel_rfl) (by kernel_rfl) (by kernel_rfl) (fun _ _ _ h => h) (Or.inl ⟨by rfl, ?_⟩) hHeld ?_
            rotate_left
            · intro u hSu; go_simp; try with_reducible rfl
            simp only [Act.put, List.setIfInBounds_toArray, List.set_cons_zero, List.set_cons_succ, List.getElem_toArray, List.getElem_cons_succ, List.getElem_cons_zero]
            refine wpAnyH_done (by kernel_rfl) ?_ _
            have hB := hHeld.below
            clear hHeld
            go_wp2_with fail
            go_ret
            exact ⟨by first | rfl | simp, hB⟩
          refine AllReadyH.cons (o := { dst := some 89, op := Op.buildSlice 27 1 #[(0, Operand.tmp 88)], type := 27, pos := "law.go:135", after := #[{ on := 5, ground := Ground.data }, { on := 1, ground := Ground.guard }], guard := some (1, true) }) rfl (fun K hK => ?_) AllReadyH.nil
          have hV := hHeld
          go_simp
          refine hK.out _ _ (hHeld.go (alloc_own _ _)) (fun hHeld2 => ?_)
          clear hK K hHeld
          have hHeld := hHeld2
          clear hHeld2
          try simp only [Act.put, List.setIfInBounds_toArray, List.set_cons_zero, List.set_cons_succ, List.getElem_toArray, List.getElem_cons_succ, List.getElem_cons_zero]
          refine wpAnyH_ready (rs := [2]) (by kernel_rfl) (by simp) ?_
          refine AllReadyH.cons (o := { dst := some 85, op := Op.buildSlice 27 0 #[], type := 27, pos := "law.go:135", after := #[{ on := 1, ground := Ground.guard }], guard := some (1, true) }) rfl (fun K hK => ?_) AllReadyH.nil
          have HC0 := ChI.start10 hV.below ⟨3 + r, -1, 0, 0, 0, []⟩
          go_simp
          refine hK.out _ _ (hHeld.go (alloc_own _ _)) (fun hHeld2 => ?_)
          clear hK K hHeld
          have hHeld := hHeld2
          clear hHeld2
          try simp only [Act.put, List.setIfInBounds_toArray, List.set_cons_zero, List.set_cons_succ, List.getElem_toArray, List.getElem_cons_succ, List.getElem_cons_zero]
          refine wpAnyH_ready (rs := [4]) (by kernel_rfl) (by simp) ?_
          refine AllReadyH.cons (o := { dst := some 87, op := Op.call { callee := Callee.builtin Builtin.append, args := #[Operand.tmp 85, Operand.tmp 86], argTypes := #[27, 27] }, type := 27, pos := "law.go:135", after := #[{ on := 2, ground := Ground.data }, { on := 3, ground := Ground.data }, { on := 1, ground := Ground.chain }, { on := 1, ground := Ground.guard }], guard := some (1, true) }) rfl (fun K hK => ?_) AllReadyH.nil
          obtain ⟨V4, o4, c4, HR4, HN0⟩ := HC0.app (n := L2.length) (hHeld.v2) (by first | omega | (simp only [List.length_append, List.length_nil, List.nil_append]; omega)) (by first | rfl | (simp only [List.length_append, List.length_nil, List.nil_append, Nat.zero_add]; done) | (simp only [List.length_append, List.length_nil, List.nil_append]; omega))
          refine step_app2 (by rfl) (Operand.tmp 85) (Operand.tmp 86) 27 27 rfl HR4.out ?_
          refine hK.out _ _ (hV.go HN0.below) (fun hHeld2 => ?_)
          clear HC0
          have HC0 := HN0
          clear HN0
          clear hK K hHeld
          have hHeld := hHeld2
          clear hHeld2
          try simp only [Act.put, List.setIfInBounds_toArray, List.set_cons_zero, List.set_cons_succ, List.getElem_toArray, List.getElem_cons_succ, List.getElem_cons_zero]
          refine wpAnyH_ready (rs := [7]) (by kernel_rfl) (by simp) ?_
          refine AllReadyH.cons (o := { dst := some 90, op := Op.call { callee := Callee.builtin Builtin.append, args := #[Operand.tmp 87, Operand.tmp 89], argTypes := #[27, 27] }, type := 27, pos := "law.go:135", after := #[{ on := 4, ground := Ground.data }, { on := 6, ground := Ground.data }, { on := 4, ground := Ground.chain }, { on := 1, ground := Ground.guard }], guard := some (1, true) }) rfl (fun K hK => ?_) AllReadyH.nil
          obtain ⟨V7, o7, c7, HR7, HS0, hB7⟩ := HC0.fin (n := L2.length + 1) (by first | omega | (simp only [List.length_append, List.length_nil, List.nil_append]; omega)) (by first | rfl | (simp only [List.length_append, List.length_nil, List.nil_append]; done) | (simp only [List.length_append, List.length_nil, List.nil_append]; omega))
          refine step_app2 (by rfl) (Operand.tmp 87) (Operand.tmp 89) 27 27 rfl HR7.out ?_
          refine hK.out _ _ (hV.go hB7) (fun hHeld2 => ?_)
          clear HC0
          clear hK K hHeld
          have hHeld := hHeld2
          clear hHeld2
          try simp only [Act.put, List.setIfInBounds_toArray, List.set_cons_zero, List.set_cons_succ, List.getElem_toArray, List.getElem_cons_succ, List.getElem_cons_zero]
          clear hV
          refine wpAnyH_ready (rs := [8]) (by kernel_rfl) (by simp) ?_
          refine AllReadyH.cons (o := { dst := some 91, op := Op.call { callee := Callee.value (Operand.func 16), args := #[Operand.tmp 90], argTypes := #[27] }, type := 3, pos := "law.go:135", after := #[{ on := 7, ground := Ground.data }, { on := 7, ground := Ground.chain }, { on := 1, ground := Ground.guard }], guard := some (1, true) }) rfl (fun K hK => ?_) AllReadyH.nil
          go_simp
          refine (hN4 _ _ HS0.view).mono ?_
          rintro e u8 ⟨rfl, hb⟩
          try go_simp
          refine hK.out _ _ (hHeld.go hb) (fun hHeld2 => ?_)
          clear hK K hb hHeld
          rename GrI _ _ _ _ _ _ _ _ => hHeld
          try simp only [Act.put, List.setIfInBounds_toArray, List.set_cons_zero, List.set_cons_succ, List.getElem_toArray, List.getElem_cons_succ, List.getElem_cons_zero]
          refine wpAnyH_take (i := 12) (v := ?_) rfl (by kernel_rfl) (by kernel_rfl) (by kernel_rfl) (fun _ _ _ h => h) (Or.inl ⟨by rfl, ?_⟩) hHeld ?_
          rotate_left
          · intro u hSu; go_simp; try with_reducible rfl
          simp only [Act.put, List.setIfInBounds_toArray, List.set_cons_zero, List.set_cons_succ, List.getElem_toArray, List.getElem_cons_succ, List.getElem_cons_zero]
          refine wpAnyH_take (i := 13) (v := ?_) rfl (by kernel_rfl) (by kernel_rfl) (by kernel_rfl) (fun _ _ _ h => h) (Or.inl ⟨by rfl, ?_⟩) hHeld ?_
          rotate_left
          · intro u hSu; go_simp; try with_reducible rfl
          simp only [Act.put, List.setIfInBounds_toArray, List.set_cons_zero, List.set_cons_succ, List.getElem_toArray, List.getElem_cons_succ, List.getElem_cons_zero]
          refine wpAnyH_take (i := 14) (v := ?_) rfl (by kernel_rfl) (by kernel_rfl) (by kernel_rfl) (fun _ _ _ h => h) (Or.inl ⟨by rfl, ?_⟩) hHeld ?_
          rotate_left
          · intro u hSu; go_simp; try with_reducible rfl
          simp only [Act.put, List.setIfInBounds_toArray, List.set_cons_zero, List.set_cons_succ, List.getElem_toArray, List.getElem_cons_succ, List.getElem_cons_zero]
          refine wpAnyH_done (by kernel_rfl) ?_ _
          have hB := hHeld.below
          clear hHeld
          go_wp2_with fail
          go_ret
          exact ⟨by first | rfl | simp, hB⟩

end Go.Proofs.Yteakgagjacjhiaa.Trees

/-
  Contract of the law's parts.
-/
import Derived.Test.YteakgagjacjhiaaUY
import Derived.Test.YteakgagjacjhiaaUOX
import Derived.Test.YteakgagjacjhiaaURX
namespace Go.Proofs.Yteakgagjacjhiaa.Trees
open Go.RowKit Go.Shelf
open Go.Proofs.Yteakgagjacjhiaa.Style (bs bs_size bs_at getD_at bs_of)
open Go.Proofs.Yteakgagjacjhiaa.Toks (cell_lt cell_same SliceAt Above wpList_app)
set_option linter.unusedVariables false
set_option linter.unusedSimpArgs false
attribute [local irreducible] symT mayZ

/-- While parts goes: the last step's box, both parts, the steps. -/
structure PtI (w : World) (xb : Nat) (x : Stp) (sa sb sv : Value) (La Lb L : List Stp) (W : World) : Prop where
  st : StAt W xb x
  va : View W sa La
  vb : View W sb Lb
  vt : View W sv L
  below : Below w.heap.size w W
theorem PtI.go {w W W' : World} {xb : Nat} {x : Stp} {sa sb sv : Value} {La Lb L : List Stp} (h : PtI w xb x sa sb sv La Lb L W) (hb : Below W.heap.size W W') : PtI w xb x sa sb sv La Lb L W' :=
  ⟨h.st.go hb, h.va.go hb, h.vb.go hb, h.vt.go hb, h.below.trans (hb.mono h.below.size)⟩
theorem PtI.drew {w W : World} {xb : Nat} {x : Stp} {sa sb sv : Value} {La Lb L : List Stp} (h : PtI w xb x sa sb sv La Lb L W) : PtI w xb x sa sb sv La Lb L W.drew := h.go (Below.refl _ _).drew
def PartsOk (L : List Stp) : Prop := ∀ (s : Value) (W : World), View W s L → Calls Try.prog 13 #[s] W fun e w' => e = .returned (.bool true) ∧ Below W.heap.size W w'

set_option maxRecDepth 100000 in
set_option maxHeartbeats 8000000 in
theorem parts_gen (x : Stp) (La Lb : List Stp) (two : Bool) (s : Value) (w : World) (hV : View w s (La ++ Lb ++ [x])) (hl : (La ++ Lb ++ [x]).length ≤ 255) (hF : ∀ y ∈ La ++ Lb ++ [x], y.text.length ≤ 9223372036854775807)
    (hp : partsZ symT (La ++ Lb ++ [x]) = (La, Lb)) (hs : soundZ symT (La ++ Lb ++ [x]) = true) (hsa : soundZ symT La = two) (hsb : soundZ symT Lb = true) (h0 : two = false → La = [])
    (hop : x.op ≠ 1 ∧ x.op ≠ 2 ∧ x.op ≠ 7) (htwo : decide (x.op = 3 ∨ x.op = 4) = two) (hRb : PartsOk Lb) (hRa : two = true → PartsOk La) :
    Calls Try.prog 13 #[s] w fun e w' => e = .returned (.bool true) ∧ Below w.heap.size w w' := by
  have hP := parts_any s _ w hV hF (by omega)
  rw [hp] at hP
  have hS := fun W h => sound_any s (La ++ Lb ++ [x]) W h hF (by omega)
  rw [hs] at hS
  have hlen : (La ++ Lb ++ [x]).length = La.length + Lb.length + 1 := by simp only [List.length_append, List.length_cons, List.length_nil]
  have hll : La.length + Lb.length + 1 ≤ 255 := by omega
  have hSa := fun sv W h => sound_any sv La W h (fun y hy => hF y (by simp [hy])) (by omega)
  have hSb := fun sv W h => sound_any sv Lb W h (fun y hy => hF y (by simp [hy])) (by omega)
  rw [hsa] at hSa
  rw [hsb] at hSb
  have hSame := fun (a b : Value) (W : World) (h1 : View W a (La ++ Lb ++ [x])) (h2 : View W b (La ++ Lb ++ [x])) => same_any a b (La ++ Lb ++ [x]) (La ++ Lb ++ [x]) W h1 h2 (by omega) (by omega)
  simp only [decide_true] at hSame
  have hgd : (La ++ Lb ++ [x]).getD (La.length + Lb.length) default = x := by
    rw [List.getD_eq_getElem?_getD, List.getElem?_append_right (by rw [List.length_append]; omega), List.length_append]; simp
  obtain ⟨o, c, rfl, hlc⟩ := hV.slice
  have hcell : ∃ b0 off, o = some ⟨b0, off, none⟩ := by
    obtain ⟨o', c', e', _, hv⟩ := hV
    obtain ⟨b0, off, eo, _⟩ := hv 0 (by omega)
    injection e' with e1 _ _
    exact ⟨b0, off, e1.trans eo⟩
  obtain ⟨b0, off, rfl⟩ := hcell
  have hlast : ∀ W, View W (.slice (some ⟨b0, off, none⟩) (La ++ Lb ++ [x]).length c) (La ++ Lb ++ [x]) →
      W.cell? ⟨b0, off + (La.length + Lb.length) * 6, none⟩ = some (.int .i64 x.op) ∧ W.cell? ⟨b0, off + (La.length + Lb.length) * 6 + 1, none⟩ = some (.int .i64 x.pf) ∧ W.cell? ⟨b0, off + (La.length + Lb.length) * 6 + 2, none⟩ = some (.int .i64 x.atom) ∧ W.cell? ⟨b0, off + (La.length + Lb.length) * 6 + 3, none⟩ = some (.int .i64 x.n) ∧ W.cell? ⟨b0, off + (La.length + Lb.length) * 6 + 4, none⟩ = some (.int .i64 x.num) ∧ W.cell? ⟨b0, off + (La.length + Lb.length) * 6 + 5, none⟩ = some (.string (bs x.text)) := by
    intro W h
    obtain ⟨o', c', e', _, hv⟩ := h
    obtain ⟨b1, off1, eo, hc⟩ := hv (La.length + Lb.length) (by omega)
    injection e' with e1 _ _
    rw [← e1] at eo
    injection eo with eo
    injection eo with e2 e3
    subst e2 e3
    rw [hgd] at hc
    exact hc
  have HL := Lib.hid hlast
  have HLE := Lib.hid hlen
  have ho1 : (x.op == 1) = false := by simpa using hop.1
  have ho2 : (x.op == 2) = false := by simpa using hop.2.1
  have ho7 : (x.op == 7) = false := by simpa using hop.2.2
  have HT := Lib.hid htwo
  have H0 := Lib.hid h0
  have HRa := Lib.hid hRa
  have HRb := Lib.hid hRb
  obtain ⟨n, hn⟩ : ∃ n, La.length + Lb.length = n := ⟨_, rfl⟩
  obtain ⟨N, hN⟩ : ∃ N, (La ++ Lb ++ [x]).length = N := ⟨_, rfl⟩
  have hnN : (N : Int) - 1 = (n : Int) := by omega
  have hnl : (n : Int) < (N : Int) := by omega
  have hcN : (N : Int) ≤ (c : Int) := by omega
  have hni : (N : Int) ≤ 255 := by omega
  have hab : (La.length : Int) + (Lb.length : Int) ≤ 255 := by omega
  rw [hn] at HL
  rw [hN] at hV HL hS hP ⊢
  have HN := Lib.hid (And.intro hn hN)
  clear hF hp hs hsa hsb h0 hop htwo hRa hRb hgd hlen hlast hlc hn hN
  obtain ⟨xo, xp, xa, xn, xm, xt⟩ := x
  simp only at ho1 ho2 ho7 HL HT
  go_enter Try.func13, Try.ntmps13
  go_wp2_with fail
  refine hP.mono ?_
  rintro e w1 ⟨⟨s1, s2, rfl, h1, h2⟩, hb1⟩
  obtain ⟨o1, c1, rfl⟩ := SliceAt.slice h1
  obtain ⟨o2, c2, rfl⟩ := SliceAt.slice h2
  have hV1 := hV.go hb1
  clear hP
  go_wp2_with fail
  refine (hS _ hV1).mono ?_
  rintro e w2 ⟨rfl, hb2⟩
  have hV2 := hV1.go hb2
  have hu : Below w2.heap.size w2 (w2.alloc (.cells (Stp.cs ⟨xo, xp, xa, xn, xm, xt⟩) 35)) := (Below.refl _ _).alloc (Nat.le_refl _) _
  have hb12 := hb1.trans (hb2.mono hb1.size)
  have hI : PtI w w2.heap.size ⟨xo, xp, xa, xn, xm, xt⟩ (.slice o1 La.length c1) (.slice o2 Lb.length c2) (.slice (some ⟨b0, off, none⟩) N c) La Lb (La ++ Lb ++ [⟨xo, xp, xa, xn, xm, xt⟩]) (w2.alloc (.cells (Stp.cs ⟨xo, xp, xa, xn, xm, xt⟩) 35)) :=
    ⟨StAt.new w2 _, (h1.view.go hb2).go hu, (h2.view.go hb2).go hu, hV2.go hu, hb12.trans (hu.mono hb12.size)⟩
  obtain ⟨l0, l1, l2, l3, l4, l5⟩ := HL.out _ hV2
  simp only [Stp.cs] at hI
  clear hV hV1 hV2 hb1 hb2 hb12 hu h1 h2 hS HL
  go_upto_region 5 with fail
  change Code.wp _ _ _ _ (w2.alloc (.cells #[.int .i64 xo, .int .i64 xp, .int .i64 xa, .int .i64 xn, .int .i64 xm, .string (bs xt)] 35))
  generalize w2.alloc (.cells #[.int .i64 xo, .int .i64 xp, .int .i64 xa, .int .i64 xn, .int .i64 xm, .string (bs xt)] 35) = W3 at *
  generalize w2.heap.size = xb at *
  clear l0 l1 l2 l3 l4 l5
  have q0 := hI.st.c0
  simp only at q0
  go_upto_region 7 with fail
  go_cut [6] from 10 (fun v wx => v = .bool two ∧ wx = W3)
  case first =>
    clear hI hSa hSb hSame
    have h1 := HT.out
    by_cases h3 : xo = 3
    · subst h3
      have : two = true := by rw [← h1]; rfl
      subst this
      clear h1
      go_wp2_with fail
      go_meet
      exact ⟨rfl, rfl⟩
    · have e3 : (xo == 3) = false := by simpa using h3
      by_cases h4 : xo = 4
      · subst h4
        have : two = true := by rw [← h1]; rfl
        subst this
        clear h1
        go_wp2_with fail
        go_meet
        exact ⟨rfl, rfl⟩
      · have e4 : (xo == 4) = false := by simpa using h4
        have : two = false := by rw [← h1]; exact decide_eq_false (by omega)
        subst this
        clear h1
        go_wp2_with fail
        go_meet
        exact ⟨rfl, rfl⟩
  case rest =>
    obtain ⟨hc1, hc2⟩ := hcut
    subst hc1
    replace hc2 := hc2.symm
    subst hc2
    clear q0 ho1 ho2 ho7
    go_upto_region 8 with fail
    go_cut [78] from 10 (fun v wx => v = .bool false ∧ PtI w xb ⟨xo, xp, xa, xn, xm, xt⟩ (.slice o1 La.length c1) (.slice o2 Lb.length c2) (.slice (some ⟨b0, off, none⟩) N c) La Lb (La ++ Lb ++ [⟨xo, xp, xa, xn, xm, xt⟩]) wx)
    case first =>
      clear hSame
      go_wp2_with fail
      refine (hSb _ _ hI.vb).mono ?_
      rintro e w4 ⟨rfl, hb4⟩
      replace hI := hI.go hb4
      go_wp2_with fail
      refine (hSa _ _ hI.va).mono ?_
      rintro e w5 ⟨rfl, hb5⟩
      replace hI := hI.go hb5
      clear hb4 hb5 hSa hSb
      cases two with
      | true =>
        go_wp2_with fail
        go_meet
        exact ⟨rfl, hI⟩
      | false =>
        have hz := H0.out rfl
        subst hz
        go_wp2_with fail
        go_meet
        exact ⟨rfl, hI⟩
    case rest =>
      clear hI hSa hSb
      obtain ⟨hc1, hI⟩ := hcut
      subst hc1
      go_upto_region 10 with fail
      go_cut [7] from 10 (fun v wx => ∃ o' c', v = .slice o' (La.length + Lb.length + 1) c' ∧ View wx (.slice o' (La.length + Lb.length + 1) c') (La ++ Lb ++ [⟨xo, xp, xa, xn, xm, xt⟩]) ∧ PtI w xb ⟨xo, xp, xa, xn, xm, xt⟩ (.slice o1 La.length c1) (.slice o2 Lb.length c2) (.slice (some ⟨b0, off, none⟩) N c) La Lb (La ++ Lb ++ [⟨xo, xp, xa, xn, xm, xt⟩]) wx)
      case first =>
        clear hSame
        refine wp_region_held_drew (S := (fun v => PtI w xb ⟨xo, xp, xa, xn, xm, xt⟩ (.slice o1 La.length c1) (.slice o2 Lb.length c2) (.slice (some ⟨b0, off, none⟩) N c) La Lb (La ++ Lb ++ [⟨xo, xp, xa, xn, xm, xt⟩]) v)) (by kernel_rfl) hI.drew (fun hHeld => ?_)
        clear hI
        refine wpAnyH_take (i := 1) (v := ?_) rfl (by kernel_rfl) (by kernel_rfl) (by kernel_rfl) (fun _ _ _ h => h) (Or.inl ⟨by rfl, ?_⟩) hHeld ?_
        rotate_left
        · intro u hSu; go_simp; try with_reducible rfl
        simp only [Act.put, List.setIfInBounds_toArray, List.set_cons_zero, List.set_cons_succ, List.getElem_toArray, List.getElem_cons_succ, List.getElem_cons_zero]
        refine wpAnyH_take (i := 3) (v := ?_) rfl (by kernel_rfl) (by kernel_rfl) (by kernel_rfl) (fun _ _ _ h => h) (Or.inl ⟨by rfl, ?_⟩) hHeld ?_
        rotate_left
        · intro u hSu; go_simp; try with_reducible rfl
        simp only [Act.put, List.setIfInBounds_toArray, List.set_cons_zero, List.set_cons_succ, List.getElem_toArray, List.getElem_cons_succ, List.getElem_cons_zero]
        refine wpAnyH_take (i := 5) (v := ?_) rfl (by kernel_rfl) (by kernel_rfl) (by kernel_rfl) (fun _ _ _ h => h) (Or.inl ⟨by rfl, ?_⟩) hHeld ?_
        rotate_left
        · intro u hSu; obtain ⟨c0, c1', c2', c3', c4, c5⟩ := hSu.st; simp only at c0 c1' c2' c3' c4 c5; go_simp; try with_reducible rfl
        simp only [Act.put, List.setIfInBounds_toArray, List.set_cons_zero, List.set_cons_succ, List.getElem_toArray, List.getElem_cons_succ, List.getElem_cons_zero]
        refine wpAnyH_ready (rs := [0, 6]) (by kernel_rfl) (by simp) ?_
        refine AllReadyH.cons (o := { dst := some 79, op := Op.buildSlice 27 0 #[], type := 27, pos := "law.go:99", after := #[], guard := none }) rfl (fun K hK => ?_) ?_
        · skip
          have hV := hHeld
          have HC0 := ChI.start0 hV.below ⟨xo, xp, xa, xn, xm, xt⟩
          go_simp
          refine hK.out _ _ (hHeld.go (alloc_own _ _)) (fun hHeld2 => ?_)
          clear hK K hHeld
          have hHeld := hHeld2
          clear hHeld2
          try simp only [Act.put, List.setIfInBounds_toArray, List.set_cons_zero, List.set_cons_succ, List.getElem_toArray, List.getElem_cons_succ, List.getElem_cons_zero]
          refine wpAnyH_ready (rs := [2, 6]) (by kernel_rfl) (by simp) ?_
          refine AllReadyH.cons (o := { dst := some 81, op := Op.call { callee := Callee.builtin Builtin.append, args := #[Operand.tmp 79, Operand.tmp 80], argTypes := #[27, 27] }, type := 27, pos := "law.go:99", after := #[{ on := 0, ground := Ground.data }, { on := 1, ground := Ground.data }], guard := none }) rfl (fun K hK => ?_) ?_
          · skip
            obtain ⟨V2, o2, c2, HR2, HN0⟩ := HC0.app (n := La.length) (hHeld.va) (by first | omega | (simp only [List.length_append, List.length_nil, List.nil_append]; omega)) (by first | rfl | (simp only [List.length_append, List.length_nil, List.nil_append, Nat.zero_add]; done) | (simp only [List.length_append, List.length_nil, List.nil_append]; omega))
            refine step_app2 (by rfl) (Operand.tmp 79) (Operand.tmp 80) 27 27 rfl HR2.out ?_
            refine hK.out _ _ (hV.go HN0.below) (fun hHeld2 => ?_)
            clear HC0
            have HC0 := HN0
            clear HN0
            clear hK K hHeld
            have hHeld := hHeld2
            clear hHeld2
            try simp only [Act.put, List.setIfInBounds_toArray, List.set_cons_zero, List.set_cons_succ, List.getElem_toArray, List.getElem_cons_succ, List.getElem_cons_zero]
            refine wpAnyH_ready (rs := [4, 6]) (by kernel_rfl) (by simp) ?_
            refine AllReadyH.cons (o := { dst := some 83, op := Op.call { callee := Callee.builtin Builtin.append, args := #[Operand.tmp 81, Operand.tmp 82], argTypes := #[27, 27] }, type := 27, pos := "law.go:99", after := #[{ on := 2, ground := Ground.data }, { on := 3, ground := Ground.data }, { on := 2, ground := Ground.chain }], guard := none }) rfl (fun K hK => ?_) ?_
            · skip
              obtain ⟨V4, o4, c4, HR4, HN0⟩ := HC0.app (n := La.length + Lb.length) (hHeld.vb) (by first | omega | (simp only [List.length_append, List.length_nil, List.nil_append]; omega)) (by first | rfl | (simp only [List.length_append, List.length_nil, List.nil_append, Nat.zero_add]; done) | (simp only [List.length_append, List.length_nil, List.nil_append]; omega))
              refine step_app2 (by rfl) (Operand.tmp 81) (Operand.tmp 82) 27 27 rfl HR4.out ?_
              refine hK.out _ _ (hV.go HN0.below) (fun hHeld2 => ?_)
              clear HC0
              have HC0 := HN0
              clear HN0
              clear hK K hHeld
              have hHeld := hHeld2
              clear hHeld2
              try simp only [Act.put, List.setIfInBounds_toArray, List.set_cons_zero, List.set_cons_succ, List.getElem_toArray, List.getElem_cons_succ, List.getElem_cons_zero]
              refine wpAnyH_ready (rs := [6]) (by kernel_rfl) (by simp) ?_
              refine AllReadyH.cons (o := { dst := some 85, op := Op.buildSlice 27 1 #[(0, Operand.tmp 84)], type := 27, pos := "law.go:99", after := #[{ on := 5, ground := Ground.data }], guard := none }) rfl (fun K hK => ?_) AllReadyH.nil
              replace HC0 := HC0.one'
              try simp only [World.size_alloc] at HC0
              go_simp
              refine hK.out _ _ (hHeld.go (alloc_own _ _)) (fun hHeld2 => ?_)
              clear hK K hHeld
              have hHeld := hHeld2
              clear hHeld2
              try simp only [Act.put, List.setIfInBounds_toArray, List.set_cons_zero, List.set_cons_succ, List.getElem_toArray, List.getElem_cons_succ, List.getElem_cons_zero]
              refine wpAnyH_ready (rs := [7]) (by kernel_rfl) (by simp) ?_
              refine AllReadyH.cons (o := { dst := some 86, op := Op.call { callee := Callee.builtin Builtin.append, args := #[Operand.tmp 83, Operand.tmp 85], argTypes := #[27, 27] }, type := 27, pos := "law.go:99", after := #[{ on := 4, ground := Ground.data }, { on := 6, ground := Ground.data }, { on := 4, ground := Ground.chain }], guard := none }) rfl (fun K hK => ?_) AllReadyH.nil
              obtain ⟨V7, o7, c7, HR7, HS0, hB7⟩ := HC0.fin (n := La.length + Lb.length + 1) (by first | omega | (simp only [List.length_append, List.length_nil, List.nil_append]; omega)) (by first | rfl | (simp only [List.length_append, List.length_nil, List.nil_append]; done) | (simp only [List.length_append, List.length_nil, List.nil_append]; omega))
              refine step_app2 (by rfl) (Operand.tmp 83) (Operand.tmp 85) 27 27 rfl HR7.out ?_
              refine hK.out _ _ (hV.go hB7) (fun hHeld2 => ?_)
              clear HC0
              clear hK K hHeld
              have hHeld := hHeld2
              clear hHeld2
              try simp only [Act.put, List.setIfInBounds_toArray, List.set_cons_zero, List.set_cons_succ, List.getElem_toArray, List.getElem_cons_succ, List.getElem_cons_zero]
              clear hV
              refine wpAnyH_take (i := 8) (v := ?_) rfl (by kernel_rfl) (by kernel_rfl) (by kernel_rfl) (fun _ _ _ h => h) (Or.inl ⟨by rfl, ?_⟩) hHeld ?_
              rotate_left
              · intro u hSu; go_simp; try with_reducible rfl
              simp only [Act.put, List.setIfInBounds_toArray, List.set_cons_zero, List.set_cons_succ, List.getElem_toArray, List.getElem_cons_succ, List.getElem_cons_zero]
              refine wpAnyH_done (by kernel_rfl) ?_ _
              go_wp2_with fail
              go_meet
              exact ⟨_, _, rfl, HS0.view, hHeld⟩
            refine AllReadyH.cons (o := { dst := some 85, op := Op.buildSlice 27 1 #[(0, Operand.tmp 84)], type := 27, pos := "law.go:99", after := #[{ on := 5, ground := Ground.data }], guard := none }) rfl (fun K hK => ?_) AllReadyH.nil
            replace HC0 := HC0.one'
            try simp only [World.size_alloc] at HC0
            go_simp
            refine hK.out _ _ (hHeld.go (alloc_own _ _)) (fun hHeld2 => ?_)
            clear hK K hHeld
            have hHeld := hHeld2
            clear hHeld2
            try simp only [Act.put, List.setIfInBounds_toArray, List.set_cons_zero, List.set_cons_succ, List.getElem_toArray, List.getElem_cons_succ, List.getElem_cons_zero]
            refine wpAnyH_ready (rs := [4]) (by kernel_rfl) (by simp) ?_
            refine AllReadyH.cons (o := { dst := some 83, op := Op.call { callee := Callee.builtin Builtin.append, args := #[Operand.tmp 81, Operand.tmp 82], argTypes := #[27, 27] }, type := 27, pos := "law.go:99", after := #[{ on := 2, ground := Ground.data }, { on := 3, ground := Ground.data }, { on := 2, ground := Ground.chain }], guard := none }) rfl (fun K hK => ?_) AllReadyH.nil
            obtain ⟨V4, o4, c4, HR4, HN0⟩ := HC0.app (n := La.length + Lb.length) (hHeld.vb) (by first | omega | (simp only [List.length_append, List.length_nil, List.nil_append]; omega)) (by first | rfl | (simp only [List.length_append, List.length_nil, List.nil_append, Nat.zero_add]; done) | (simp only [List.length_append, List.length_nil, List.nil_append]; omega))
            refine step_app2 (by rfl) (Operand.tmp 81) (Operand.tmp 82) 27 27 rfl HR4.out ?_
            refine hK.out _ _ (hV.go HN0.below) (fun hHeld2 => ?_)
            clear HC0
            have HC0 := HN0
            clear HN0
            clear hK K hHeld
            have hHeld := hHeld2
            clear hHeld2
            try simp only [Act.put, List.setIfInBounds_toArray, List.set_cons_zero, List.set_cons_succ, List.getElem_toArray, List.getElem_cons_succ, List.getElem_cons_zero]
            refine wpAnyH_ready (rs := [7]) (by kernel_rfl) (by simp) ?_
            refine AllReadyH.cons (o := { dst := some 86, op := Op.call { callee := Callee.builtin Builtin.append, args := #[Operand.tmp 83, Operand.tmp 85], argTypes := #[27, 27] }, type := 27, pos := "law.go:99", after := #[{ on := 4, ground := Ground.data }, { on := 6, ground := Ground.data }, { on := 4, ground := Ground.chain }], guard := none }) rfl (fun K hK => ?_) AllReadyH.nil
            obtain ⟨V7, o7, c7, HR7, HS0, hB7⟩ := HC0.fin (n := La.length + Lb.length + 1) (by first | omega | (simp only [List.length_append, List.length_nil, List.nil_append]; omega)) (by first | rfl | (simp only [List.length_append, List.length_nil, List.nil_append]; done) | (simp only [List.length_append, List.length_nil, List.nil_append]; omega))
            refine step_app2 (by rfl) (Operand.tmp 83) (Operand.tmp 85) 27 27 rfl HR7.out ?_
            refine hK.out _ _ (hV.go hB7) (fun hHeld2 => ?_)
            clear HC0
            clear hK K hHeld
            have hHeld := hHeld2
            clear hHeld2
            try simp only [Act.put, List.setIfInBounds_toArray, List.set_cons_zero, List.set_cons_succ, List.getElem_toArray, List.getElem_cons_succ, List.getElem_cons_zero]
            clear hV
            refine wpAnyH_take (i := 8) (v := ?_) rfl (by kernel_rfl) (by kernel_rfl) (by kernel_rfl) (fun _ _ _ h => h) (Or.inl ⟨by rfl, ?_⟩) hHeld ?_
            rotate_left
            · intro u hSu; go_simp; try with_reducible rfl
            simp only [Act.put, List.setIfInBounds_toArray, List.set_cons_zero, List.set_cons_succ, List.getElem_toArray, List.getElem_cons_succ, List.getElem_cons_zero]
            refine wpAnyH_done (by kernel_rfl) ?_ _
            go_wp2_with fail
            go_meet
            exact ⟨_, _, rfl, HS0.view, hHeld⟩
          refine AllReadyH.cons (o := { dst := some 85, op := Op.buildSlice 27 1 #[(0, Operand.tmp 84)], type := 27, pos := "law.go:99", after := #[{ on := 5, ground := Ground.data }], guard := none }) rfl (fun K hK => ?_) AllReadyH.nil
          replace HC0 := HC0.one'
          try simp only [World.size_alloc] at HC0
          go_simp
          refine hK.out _ _ (hHeld.go (alloc_own _ _)) (fun hHeld2 => ?_)
          clear hK K hHeld
          have hHeld := hHeld2
          clear hHeld2
          try simp only [Act.put, List.setIfInBounds_toArray, List.set_cons_zero, List.set_cons_succ, List.getElem_toArray, List.getElem_cons_succ, List.getElem_cons_zero]
          refine wpAnyH_ready (rs := [2]) (by kernel_rfl) (by simp) ?_
          refine AllReadyH.cons (o := { dst := some 81, op := Op.call { callee := Callee.builtin Builtin.append, args := #[Operand.tmp 79, Operand.tmp 80], argTypes := #[27, 27] }, type := 27, pos := "law.go:99", after := #[{ on := 0, ground := Ground.data }, { on := 1, ground := Ground.data }], guard := none }) rfl (fun K hK => ?_) AllReadyH.nil
          obtain ⟨V2, o2, c2, HR2, HN0⟩ := HC0.app (n := La.length) (hHeld.va) (by first | omega | (simp only [List.length_append, List.length_nil, List.nil_append]; omega)) (by first | rfl | (simp only [List.length_append, List.length_nil, List.nil_append, Nat.zero_add]; done) | (simp only [List.length_append, List.length_nil, List.nil_append]; omega))
          refine step_app2 (by rfl) (Operand.tmp 79) (Operand.tmp 80) 27 27 rfl HR2.out ?_
          refine hK.out _ _ (hV.go HN0.below) (fun hHeld2 => ?_)
          clear HC0
          have HC0 := HN0
          clear HN0
          clear hK K hHeld
          have hHeld := hHeld2
          clear hHeld2
          try simp only [Act.put, List.setIfInBounds_toArray, List.set_cons_zero, List.set_cons_succ, List.getElem_toArray, List.getElem_cons_succ, List.getElem_cons_zero]
          refine wpAnyH_ready (rs := [4]) (by kernel_rfl) (by simp) ?_
          refine AllReadyH.cons (o := { dst := some 83, op := Op.call { callee := Callee.builtin Builtin.append, args := #[Operand.tmp 81, Operand.tmp 82], argTypes := #[27, 27] }, type := 27, pos := "law.go:99", after := #[{ on := 2, ground := Ground.data }, { on := 3, ground := Ground.data }, { on := 2, ground := Ground.chain }], guard := none }) rfl (fun K hK => ?_) AllReadyH.nil
          obtain ⟨V4, o4, c4, HR4, HN0⟩ := HC0.app (n := La.length + Lb.length) (hHeld.vb) (by first | omega | (simp only [List.length_append, List.length_nil, List.nil_append]; omega)) (by first | rfl | (simp only [List.length_append, List.length_nil, List.nil_append, Nat.zero_add]; done) | (simp only [List.length_append, List.length_nil, List.nil_append]; omega))
          refine step_app2 (by rfl) (Operand.tmp 81) (Operand.tmp 82) 27 27 rfl HR4.out ?_
          refine hK.out _ _ (hV.go HN0.below) (fun hHeld2 => ?_)
          clear HC0
          have HC0 := HN0
          clear HN0
          clear hK K hHeld
          have hHeld := hHeld2
          clear hHeld2
          try simp only [Act.put, List.setIfInBounds_toArray, List.set_cons_zero, List.set_cons_succ, List.getElem_toArray, List.getElem_cons_succ, List.getElem_cons_zero]
          refine wpAnyH_ready (rs := [7]) (by kernel_rfl) (by simp) ?_
          refine AllReadyH.cons (o := { dst := some 86, op := Op.call { callee := Callee.builtin Builtin.append, args := #[Operand.tmp 83, Operand.tmp 85], argTypes := #[27, 27] }, type := 27, pos := "law.go:99", after := #[{ on := 4, ground := Ground.data }, { on := 6, ground := Ground.data }, { on := 4, ground := Ground.chain }], guard := none }) rfl (fun K hK => ?_) AllReadyH.nil
          obtain ⟨V7, o7, c7, HR7, HS0, hB7⟩ := HC0.fin (n := La.length + Lb.length + 1) (by first | omega | (simp only [List.length_append, List.length_nil, List.nil_append]; omega)) (by first | rfl | (simp only [List.length_append, List.length_nil, List.nil_append]; done) | (simp only [List.length_append, List.length_nil, List.nil_append]; omega))
          refine step_app2 (by rfl) (Operand.tmp 83) (Operand.tmp 85) 27 27 rfl HR7.out ?_
          refine hK.out _ _ (hV.go hB7) (fun hHeld2 => ?_)
          clear HC0
          clear hK K hHeld
          have hHeld := hHeld2
          clear hHeld2
          try simp only [Act.put, List.setIfInBounds_toArray, List.set_cons_zero, List.set_cons_succ, List.getElem_toArray, List.getElem_cons_succ, List.getElem_cons_zero]
          clear hV
          refine wpAnyH_take (i := 8) (v := ?_) rfl (by kernel_rfl) (by kernel_rfl) (by kernel_rfl) (fun _ _ _ h => h) (Or.inl ⟨by rfl, ?_⟩) hHeld ?_
          rotate_left
          · intro u hSu; go_simp; try with_reducible rfl
          simp only [Act.put, List.setIfInBounds_toArray, List.set_cons_zero, List.set_cons_succ, List.getElem_toArray, List.getElem_cons_succ, List.getElem_cons_zero]
          refine wpAnyH_done (by kernel_rfl) ?_ _
          go_wp2_with fail
          go_meet
          exact ⟨_, _, rfl, HS0.view, hHeld⟩
        refine AllReadyH.cons (o := { dst := some 85, op := Op.buildSlice 27 1 #[(0, Operand.tmp 84)], type := 27, pos := "law.go:99", after := #[{ on := 5, ground := Ground.data }], guard := none }) rfl (fun K hK => ?_) AllReadyH.nil
        have hV := hHeld
        go_simp
        refine hK.out _ _ (hHeld.go (alloc_own _ _)) (fun hHeld2 => ?_)
        clear hK K hHeld
        have hHeld := hHeld2
        clear hHeld2
        try simp only [Act.put, List.setIfInBounds_toArray, List.set_cons_zero, List.set_cons_succ, List.getElem_toArray, List.getElem_cons_succ, List.getElem_cons_zero]
        refine wpAnyH_ready (rs := [0]) (by kernel_rfl) (by simp) ?_
        refine AllReadyH.cons (o := { dst := some 79, op := Op.buildSlice 27 0 #[], type := 27, pos := "law.go:99", after := #[], guard := none }) rfl (fun K hK => ?_) AllReadyH.nil
        have HC0 := ChI.start10 hV.below ⟨xo, xp, xa, xn, xm, xt⟩
        go_simp
        refine hK.out _ _ (hHeld.go (alloc_own _ _)) (fun hHeld2 => ?_)
        clear hK K hHeld
        have hHeld := hHeld2
        clear hHeld2
        try simp only [Act.put, List.setIfInBounds_toArray, List.set_cons_zero, List.set_cons_succ, List.getElem_toArray, List.getElem_cons_succ, List.getElem_cons_zero]
        refine wpAnyH_ready (rs := [2]) (by kernel_rfl) (by simp) ?_
        refine AllReadyH.cons (o := { dst := some 81, op := Op.call { callee := Callee.builtin Builtin.append, args := #[Operand.tmp 79, Operand.tmp 80], argTypes := #[27, 27] }, type := 27, pos := "law.go:99", after := #[{ on := 0, ground := Ground.data }, { on := 1, ground := Ground.data }], guard := none }) rfl (fun K hK => ?_) AllReadyH.nil
        obtain ⟨V2, o2, c2, HR2, HN0⟩ := HC0.app (n := La.length) (hHeld.va) (by first | omega | (simp only [List.length_append, List.length_nil, List.nil_append]; omega)) (by first | rfl | (simp only [List.length_append, List.length_nil, List.nil_append, Nat.zero_add]; done) | (simp only [List.length_append, List.length_nil, List.nil_append]; omega))
        refine step_app2 (by rfl) (Operand.tmp 79) (Operand.tmp 80) 27 27 rfl HR2.out ?_
        refine hK.out _ _ (hV.go HN0.below) (fun hHeld2 => ?_)
        clear HC0
        have HC0 := HN0
        clear HN0
        clear hK K hHeld
        have hHeld := hHeld2
        clear hHeld2
        try simp only [Act.put, List.setIfInBounds_toArray, List.set_cons_zero, List.set_cons_succ, List.getElem_toArray, List.getElem_cons_succ, List.getElem_cons_zero]
        refine wpAnyH_ready (rs := [4]) (by kernel_rfl) (by simp) ?_
        refine AllReadyH.cons (o := { dst := some 83, op := Op.call { callee := Callee.builtin Builtin.append, args := #[Operand.tmp 81, Operand.tmp 82], argTypes := #[27, 27] }, type := 27, pos := "law.go:99", after := #[{ on := 2, ground := Ground.data }, { on := 3, ground := Ground.data }, { on := 2, ground := Ground.chain }], guard := none }) rfl (fun K hK => ?_) AllReadyH.nil
        obtain ⟨V4, o4, c4, HR4, HN0⟩ := HC0.app (n := La.length + Lb.length) (hHeld.vb) (by first | omega | (simp only [List.length_append, List.length_nil, List.nil_append]; omega)) (by first | rfl | (simp only [List.length_append, List.length_nil, List.nil_append, Nat.zero_add]; done) | (simp only [List.length_append, List.length_nil, List.nil_append]; omega))
        refine step_app2 (by rfl) (Operand.tmp 81) (Operand.tmp 82) 27 27 rfl HR4.out ?_
        refine hK.out _ _ (hV.go HN0.below) (fun hHeld2 => ?_)
        clear HC0
        have HC0 := HN0
        clear HN0
        clear hK K hHeld
        have hHeld := hHeld2
        clear hHeld2
        try simp only [Act.put, List.setIfInBounds_toArray, List.set_cons_zero, List.set_cons_succ, List.getElem_toArray, List.getElem_cons_succ, List.getElem_cons_zero]
        refine wpAnyH_ready (rs := [7]) (by kernel_rfl) (by simp) ?_
        refine AllReadyH.cons (o := { dst := some 86, op := Op.call { callee := Callee.builtin Builtin.append, args := #[Operand.tmp 83, Operand.tmp 85], argTypes := #[27, 27] }, type := 27, pos := "law.go:99", after := #[{ on := 4, ground := Ground.data }, { on := 6, ground := Ground.data }, { on := 4, ground := Ground.chain }], guard := none }) rfl (fun K hK => ?_) AllReadyH.nil
        obtain ⟨V7, o7, c7, HR7, HS0, hB7⟩ := HC0.fin (n := La.length + Lb.length + 1) (by first | omega | (simp only [List.length_append, List.length_nil, List.nil_append]; omega)) (by first | rfl | (simp only [List.length_append, List.length_nil, List.nil_append]; done) | (simp only [List.length_append, List.length_nil, List.nil_append]; omega))
        refine step_app2 (by rfl) (Operand.tmp 83) (Operand.tmp 85) 27 27 rfl HR7.out ?_
        refine hK.out _ _ (hV.go hB7) (fun hHeld2 => ?_)
        clear HC0
        clear hK K hHeld
        have hHeld := hHeld2
        clear hHeld2
        try simp only [Act.put, List.setIfInBounds_toArray, List.set_cons_zero, List.set_cons_succ, List.getElem_toArray, List.getElem_cons_succ, List.getElem_cons_zero]
        clear hV
        refine wpAnyH_take (i := 8) (v := ?_) rfl (by kernel_rfl) (by kernel_rfl) (by kernel_rfl) (fun _ _ _ h => h) (Or.inl ⟨by rfl, ?_⟩) hHeld ?_
        rotate_left
        · intro u hSu; go_simp; try with_reducible rfl
        simp only [Act.put, List.setIfInBounds_toArray, List.set_cons_zero, List.set_cons_succ, List.getElem_toArray, List.getElem_cons_succ, List.getElem_cons_zero]
        refine wpAnyH_done (by kernel_rfl) ?_ _
        go_wp2_with fail
        go_meet
        exact ⟨_, _, rfl, HS0.view, hHeld⟩
      case rest =>
        clear hI
        obtain ⟨o7, c7, hc1, hW, hI⟩ := hcut
        subst hc1
        go_wp2_with fail
        refine (hSame _ _ _ hW hI.vt).mono ?_
        rintro e w8 ⟨rfl, hb8⟩
        replace hI := hI.go hb8
        clear hb8 hW hSame
        go_wp2_with fail
        refine (HRb.out _ _ hI.vb).mono ?_
        rintro e w9 ⟨rfl, hb9⟩
        replace hI := hI.go hb9
        clear hb9
        cases two with
        | false =>
          have hB := hI.below
          clear hI
          go_wp2_with fail
          go_ret
          exact ⟨by first | rfl | simp, hB⟩
        | true =>
          go_wp2_with fail
          refine (HRa.out (by first | rfl | trivial) _ _ hI.va).mono ?_
          rintro e w10 ⟨rfl, hb10⟩
          have hB := (hI.go hb10).below
          clear hI hb10
          go_wp2_with fail
          go_ret
          exact ⟨by first | rfl | simp, hB⟩

end Go.Proofs.Yteakgagjacjhiaa.Trees

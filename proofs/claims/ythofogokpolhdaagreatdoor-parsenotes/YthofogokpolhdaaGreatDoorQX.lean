/-
  The walk of ParseNotes.
-/
import Derived.Test.YthofogokpolhdaaGreatDoorQW
import Derived.Test.YthofogokpolhdaaGreatDoorQV
namespace Go.Proofs.YthofogokpolhdaaGreatDoor.Parses
open Go.RowKit Go.Shelf
open Go.Proofs.YthofogokpolhdaaGreatDoor.Trees (Stp Tr View symT IV StepsAt cellS same_any pair_i pair_ii pair_iii PairQ step_app2)
open Go.Proofs.YthofogokpolhdaaGreatDoor.Style (bs bs_size bs_app bs_toList stZ St rof_any one_byte plainL)
open Go.Proofs.YthofogokpolhdaaGreatDoor.Toks (cell_lt cell_same Env Grid)
set_option linter.unusedVariables false
set_option linter.unusedSimpArgs false

def wordOf (r : Nat) : List UInt8 := if r = 0 then [] else if r = 1 then [97, 32, 98] else if r = 2 then [120] else [40, 109]
theorem word_at (r : Nat) (hr : r < 4) (W : World) : (Instr.index 53 (.agg #[.string ⟨#[]⟩, .string ⟨#[97, 32, 98]⟩, .string ⟨#[120]⟩, .string ⟨#[40, 109]⟩]) (.int .i64 (r : Int))).run Tryz.prog W = .ok (.string (bs (wordOf r))) W := by
  rcases (by omega : r = 0 ∨ r = 1 ∨ r = 2 ∨ r = 3) with rfl | rfl | rfl | rfl <;> kernel_rfl
theorem word_plain {k r : Nat} (hk : k < 3) (hr : r < 4) : plainL (stZ ((k : Int) + 1)) (wordOf r) = true := by
  rcases (by omega : k = 0 ∨ k = 1 ∨ k = 2) with rfl | rfl | rfl <;> rcases (by omega : r = 0 ∨ r = 1 ∨ r = 2 ∨ r = 3) with rfl | rfl | rfl | rfl <;> rfl
theorem word_len (r : Nat) : (wordOf r).length ≤ 3 := by
  unfold wordOf
  repeat' split
  all_goals decide

/-- What the law holds while it compares. -/
structure NtI (w : World) (Lp Lq : List Stp) (sp sq : Value) (bp bq br bx ba : Nat) (p2 q2 r2 a0 a2 tv : Value) (W : World) : Prop where
  xp : Err4 W bp sp (.int .i64 0) p2 (.int .i64 0)
  vp : View W sp Lp
  xq : Err4 W bq sq (.int .i64 0) q2 (.int .i64 0)
  vq : View W sq Lq
  xr : Err4 W br (.slice none 0 0) (.int .i64 14) r2 (.int .i64 0)
  xa : Err4 W bx a0 (.int .i64 0) a2 (.int .i64 0)
  ta : W.cell? ⟨ba, 5, none⟩ = some tv
  below : Below w.heap.size w W
theorem NtI.go {w W W' : World} {Lp Lq : List Stp} {sp sq : Value} {bp bq br bx ba : Nat} {p2 q2 r2 a0 a2 tv : Value} (h : NtI w Lp Lq sp sq bp bq br bx ba p2 q2 r2 a0 a2 tv W) (hb : Below W.heap.size W W') : NtI w Lp Lq sp sq bp bq br bx ba p2 q2 r2 a0 a2 tv W' :=
  ⟨h.xp.go hb, h.vp.go hb, h.xq.go hb, h.vq.go hb, h.xr.go hb, h.xa.go hb, (hb.cell (p := ⟨ba, 5, none⟩) (cell_lt h.ta)).trans h.ta, h.below.trans (hb.mono h.below.size)⟩
theorem NtI.drew {w W : World} {Lp Lq : List Stp} {sp sq : Value} {bp bq br bx ba : Nat} {p2 q2 r2 a0 a2 tv : Value} (h : NtI w Lp Lq sp sq bp bq br bx ba p2 q2 r2 a0 a2 tv W) : NtI w Lp Lq sp sq bp bq br bx ba p2 q2 r2 a0 a2 tv W.drew := h.go (Below.refl _ _).drew

set_option maxRecDepth 100000 in
set_option maxHeartbeats 4000000 in
theorem notes_walk (n : Int) (sv : Value) (l : List Int) (which : Int) (w : World) (hE : Env w) (hn : -9223372036854775808 ≤ n ∧ n ≤ 9223372036854775807) (hV : IV w sv l) (hwh : -9223372036854775808 ≤ which ∧ which ≤ 9223372036854775807) (hl : l.length ≤ 9223372036854775807) :
    Calls Tryz.prog 9 #[.int .i64 n, sv, .int .i64 which] w fun e w' => e = .returned (.bool true) ∧ Below w.heap.size w w' := by
  have hR := rest_any n 3
  have hk3 := restN_lt n 3 (by omega)
  generalize restN n 3 = k at hR hk3
  have hRw := rest_any which 4
  have hr4 := restN_lt which 4 (by omega)
  generalize restN which 4 = r at hRw hr4
  have hk : k < 5 := by omega
  have hki : (k : Int) < 5 := by omega
  have hT := fun W (h : IV W sv l) => ltext_v k hk sv l W h hl
  obtain ⟨o, c, rfl, hc, _⟩ := id hV
  have hP : ∀ (s : List UInt8) (W : World), Env W → s.length ≤ 255 → Calls Tryz.prog 17 #[.int .i64 (1 + (k : Int)), .string (bs s)] W (TreeEnd k (pToks ((k : Int) + 1) s) (s.length : Int) W) := fun s W hW hl => by
    have h := parse_any k s W hW hk hl
    rw [show 1 + (k : Int) = (k : Int) + 1 by omega]
    exact h
  have hO : ∀ X, Calls Tryz.prog 20 #[.int .i64 (1 + (k : Int))] X fun e w' => e = .returned (stZ ((k : Int) + 1)).v ∧ Below X.heap.size X w' := fun X => by
    rw [show 1 + (k : Int) = (k : Int) + 1 by omega]
    exact rof_any _ X
  have ob := one_byte
  go_enter Tryz.func9, Tryz.ntmps9
  go_wp2_with fail
  refine (awake_yes w hE).mono ?_
  rintro e w1 ⟨rfl, hb1⟩
  have hE1 := hE.go hb1
  have hV1 := hV.go hb1
  clear hE hV
  go_wp2_with fail
  refine (hR w1 (by omega) (by omega)).mono ?_
  rintro e w2 ⟨rfl, rfl⟩
  clear hR
  go_wp2_with fail
  refine (hT w1 hV1).mono ?_
  rintro e w2 ⟨⟨S, rfl, hS⟩, hb2⟩
  have hE2 := hE1.go hb2
  have hB2 := hb1.trans (hb2.mono hb1.size)
  clear hT hE1 hV1 hb1 hb2 hc
  rcases hS with rfl | ⟨T, hST, hF, h255, h30, _, hTl⟩
  · have hem : (bs []).toList.isEmpty = true := by rw [bs_toList]; rfl
    clear hP hO
    go_wp2_with fail
    go_ret
    exact ⟨rfl, hB2⟩
  have hzi : ((bs S).size : Int) = (S.length : Int) := by rw [bs_size]
  by_cases h240 : 240 < S.length
  · have h240i : (240 : Int) < (S.length : Int) := by omega
    clear hP hO hF hST
    by_cases hS0 : S = []
    · rw [hS0] at h240; simp at h240
    · have hem : (bs S).toList.isEmpty = false := by rw [bs_toList]; simpa using hS0
      go_wp2_with fail
      go_ret
      exact ⟨rfl, hB2⟩
  have h240i : ¬ (240 : Int) < (S.length : Int) := by omega
  by_cases hS0 : S = []
  · subst hS0
    have hem : (bs []).toList.isEmpty = true := by rw [bs_toList]; rfl
    clear hP hO hF hST
    go_wp2_with fail
    go_ret
    exact ⟨rfl, hB2⟩
  have hem : (bs S).toList.isEmpty = false := by rw [bs_toList]; simpa using hS0
  have hpl := word_plain hk3 hr4
  have hwl := word_len r
  have hxP := fun size => back_end hF size
  have hxQ := fun size => note_end hF (by omega) hpl size
  have hxR := fun size => note_two hF (by omega) hpl size
  have hxA := fun size => note_alone hk hpl size
  rw [← hST] at hxP hxQ hxR
  have hwi := word_at r hr4
  have hRw' := fun W => hRw W (by omega) (by omega)
  clear hF hST hS0 hpl hRw
  generalize wordOf r = wd at *
  have zS : (bs S).size ≤ 240 := by rw [bs_size]; omega
  have zw : (bs wd).size ≤ 3 := by rw [bs_size]; exact hwl
  obtain ⟨nt, hnt⟩ : ∃ nt, noteTx k wd = nt := ⟨_, rfl⟩
  have hnl : nt.length = wd.length + 2 := by rw [← hnt]; unfold noteTx; simp
  have hnb : bs [byteZ (stZ ((k : Int) + 1)).op] ++ bs wd ++ bs [byteZ (stZ ((k : Int) + 1)).cl] = bs nt := by rw [bs_app, bs_app, ← hnt]; rfl
  rw [hnt] at hxQ hxR hxA
  have hOY := hO w2
  generalize stZ ((k : Int) + 1) = y at *
  obtain ⟨yf, ym, yd, yp, yo, yc⟩ := y
  simp only [St.v] at hOY
  dsimp only at hnb
  clear hnt hO
  go_wp2_with fail
  refine hOY.mono ?_
  rintro e w3 ⟨rfl, hb3⟩
  have hu3 := alloc_own w3 (.cells #[.bool yf, .int .u8 ym, .int .u8 yd, .int .u8 yp, .int .u8 yo, .int .u8 yc] 43)
  have y4 : (w3.alloc (.cells #[.bool yf, .int .u8 ym, .int .u8 yd, .int .u8 yp, .int .u8 yo, .int .u8 yc] 43)).cell? ⟨w3.heap.size, 4, none⟩ = some (.int .u8 yo) := by simp [go_sem]
  have y5 : (w3.alloc (.cells #[.bool yf, .int .u8 ym, .int .u8 yd, .int .u8 yp, .int .u8 yo, .int .u8 yc] 43)).cell? ⟨w3.heap.size, 5, none⟩ = some (.int .u8 yc) := by simp [go_sem]
  have hb3' := hb3.trans (hu3.mono hb3.size)
  have hE3 := hE2.go hb3'
  have hB3 := hB2.trans (hb3'.mono hB2.size)
  clear hOY hb3 hu3 hb3' hE2 hB2
  go_wp2_with fail
  generalize w3.alloc (.cells #[.bool yf, .int .u8 ym, .int .u8 yd, .int .u8 yp, .int .u8 yo, .int .u8 yc] 43) = Y3 at *
  generalize w3.heap.size = yb at *
  refine (hRw' Y3).mono ?_
  rintro e w4 ⟨rfl, rfl⟩
  have zn : (bs nt).size ≤ 5 := by rw [bs_size]; omega
  replace hnl : nt.length ≤ 5 := by omega
  have hnb' : bs [UInt8.ofNat yo.toNat] ++ bs wd ++ bs [UInt8.ofNat yc.toNat] = bs nt := hnb
  have z1 : ¬ 9223372036854775807 < (bs [UInt8.ofNat yo.toNat]).size + (bs wd).size := by
    show ¬ 9223372036854775807 < 1 + (bs wd).size
    omega
  have z2 : ¬ 9223372036854775807 < (bs [UInt8.ofNat yo.toNat]).size + (bs wd).size + (bs [UInt8.ofNat yc.toNat]).size := by
    show ¬ 9223372036854775807 < 1 + (bs wd).size + 1
    omega
  clear hnb
  have y5' : (Y3.alloc (.cells #[.int .u8 yo] 5)).cell? ⟨yb, 5, none⟩ = some (.int .u8 yc) := ((alloc_own Y3 (.cells #[.int .u8 yo] 5)).cell (p := ⟨yb, 5, none⟩) (cell_lt y5)).trans y5
  have ob' := ob (w := Y3.alloc (.cells #[.int .u8 yo] 5)) (x := yc)
  rw [show (Y3.alloc (.cells #[.int .u8 yo] 5)).heap.size = Y3.heap.size + 1 by simp [go_sem]] at ob'
  have hu4 := (alloc_own Y3 (.cells #[.int .u8 yo] 5)).trans ((alloc_own (Y3.alloc (.cells #[.int .u8 yo] 5)) (.cells #[.int .u8 yc] 5)).mono (by simp [go_sem]))
  have hE4 := hE3.go hu4
  have hB4 := hB3.trans (hu4.mono hB3.size)
  clear hE3 hB3 hu4
  go_wp2_with fail
  generalize (Y3.alloc (.cells #[.int .u8 yo] 5)).alloc (.cells #[.int .u8 yc] 5) = Y4 at *
  clear y4 y5 y5' ob' ob hnb' z1 z2 hRw'
  have lS : S.length ≤ 255 := by omega
  refine (hP S Y4 hE4 lS).mono ?_
  rintro e w5 he
  obtain ⟨op, cp, rfl, hSp, -, hb5⟩ := end_ok he (hxP _)
  have hu5 := alloc_own w5 (.cells #[.slice op T.flat.length cp, .int .i64 0, .int .i64 (S.length : Int), .int .i64 0] 37)
  have hb5' := hb5.trans (hu5.mono hb5.size)
  have hE5 := hE4.go hb5'
  have hB5 := hB4.trans (hb5'.mono hB4.size)
  have hxp := Err4.new w5 (.slice op T.flat.length cp) (.int .i64 0) (.int .i64 (S.length : Int)) (.int .i64 0)
  have hVp := hSp.view.go hu5
  have eQ : (⟨#[40]⟩ : ByteArray) ++ bs S ++ (⟨#[41]⟩ : ByteArray) ++ bs nt = bs (40 :: (S ++ [41]) ++ nt) := by
    show bs [40] ++ bs S ++ bs [41] ++ bs nt = _
    rw [bs_app, bs_app, bs_app]; rfl
  have eR : bs (40 :: (S ++ [41]) ++ nt) ++ bs nt = bs (40 :: (S ++ [41]) ++ nt ++ nt) := by rw [bs_app]
  have lQ : (40 :: (S ++ [41]) ++ nt).length = S.length + 2 + nt.length := by simp only [List.length_append, List.length_cons, List.length_nil]
  have lR : (40 :: (S ++ [41]) ++ nt ++ nt).length = S.length + 2 + nt.length + nt.length := by simp only [List.length_append, List.length_cons, List.length_nil]
  have zQ : (bs (40 :: (S ++ [41]) ++ nt)).size ≤ 250 := by rw [bs_size, lQ]; omega
  generalize hQt : 40 :: (S ++ [41]) ++ nt = Qt at *
  generalize hRt : Qt ++ nt = Rt at *
  clear he hb5 hu5 hb5' hE4 hB4 hxP hQt hRt hSp
  go_wp2_with fail
  generalize w5.alloc (.cells #[.slice op T.flat.length cp, .int .i64 0, .int .i64 (S.length : Int), .int .i64 0] 37) = Y5 at *
  refine (hP Qt Y5 hE5 (by omega)).mono ?_
  rintro e w6 he
  obtain ⟨oq, cq, rfl, hSq, -, hb6⟩ := end_ok he (hxQ _)
  have hlq : (T.flat ++ [noteStp 6 wd]).length = T.flat.length + 1 := by rw [List.length_append]; rfl
  rw [hlq] at hSq ⊢
  obtain ⟨lq, hlqq⟩ : ∃ z : Int, ((Qt.length : Nat) : Int) = z := ⟨_, rfl⟩
  rw [hlqq]
  have hu6 := alloc_own w6 (.cells #[.slice oq (T.flat.length + 1) cq, .int .i64 0, .int .i64 lq, .int .i64 0] 37)
  have hb6' := hb6.trans (hu6.mono hb6.size)
  have hE6 := hE5.go hb6'
  have hB6 := hB5.trans (hb6'.mono hB5.size)
  replace hxp := hxp.go hb6'
  replace hVp := hVp.go hb6'
  have hxq := Err4.new w6 (.slice oq (T.flat.length + 1) cq) (.int .i64 0) (.int .i64 lq) (.int .i64 0)
  have hSq' : StepsAt w6 (.slice oq (T.flat.length + 1) cq) (T.flat ++ [noteStp 6 wd]) := hSq
  have hVq := hSq'.view.go hu6
  clear he hb6 hu6 hb6' hE5 hB5 hxQ hSq hSq' hlq hlqq
  go_wp2_with fail
  generalize w6.alloc (.cells #[.slice oq (T.flat.length + 1) cq, .int .i64 0, .int .i64 lq, .int .i64 0] 37) = Y6 at *
  refine (hP Rt Y6 hE6 (by omega)).mono ?_
  rintro e w7 he
  obtain ⟨rfl, hb7⟩ := end_err he (hxR _)
  have hu7 := alloc_own w7 (.cells #[.slice none 0 0, .int .i64 14, .int .i64 ((S.length : Int) + 2 + (nt.length : Int)), .int .i64 0] 37)
  have hb7' := hb7.trans (hu7.mono hb7.size)
  have hE7 := hE6.go hb7'
  have hB7 := hB6.trans (hb7'.mono hB6.size)
  replace hxp := hxp.go hb7'
  replace hVp := hVp.go hb7'
  replace hxq := hxq.go hb7'
  replace hVq := hVq.go hb7'
  have hxr := Err4.new w7 (.slice none 0 0) (.int .i64 14) (.int .i64 ((S.length : Int) + 2 + (nt.length : Int))) (.int .i64 0)
  clear he hb7 hu7 hb7' hE6 hB6 hxR eQ eR
  go_wp2_with fail
  generalize w7.alloc (.cells #[.slice none 0 0, .int .i64 14, .int .i64 ((S.length : Int) + 2 + (nt.length : Int)), .int .i64 0] 37) = Y7 at *
  refine (hP nt Y7 hE7 (by omega)).mono ?_
  rintro e w8 he
  obtain ⟨oa, ca, rfl, hSa, -, hb8⟩ := end_ok he (hxA _)
  obtain ⟨ba, rfl, hga⟩ := steps_in hSa (by simp)
  have hu8 := alloc_own w8 (.cells #[.slice (some ⟨ba, 0, none⟩) 1 ca, .int .i64 0, .int .i64 (nt.length : Int), .int .i64 0] 37)
  have hb8' := hb8.trans (hu8.mono hb8.size)
  have hB8 := hB7.trans (hb8'.mono hB7.size)
  replace hxp := hxp.go hb8'
  replace hVp := hVp.go hb8'
  replace hxq := hxq.go hb8'
  replace hVq := hVq.go hb8'
  replace hxr := hxr.go hb8'
  have hxa := Err4.new w8 (.slice (some ⟨ba, 0, none⟩) 1 ca) (.int .i64 0) (.int .i64 (nt.length : Int)) (.int .i64 0)
  have hga2 := hga.go hu8
  have hta := hga2.1 0 (by simp) 5 (by omega)
  have hcv : cellS [noteStp 7 wd] 0 5 = .string (bs wd) := rfl
  rw [hcv] at hta
  simp only [Nat.reduceMul, Nat.reduceAdd] at hta
  clear he hb8 hu8 hb8' hE7 hB7 hxA hP hSa hga hga2 hcv lR
  have hI : NtI w T.flat (T.flat ++ [noteStp 6 wd]) (.slice op T.flat.length cp) (.slice oq (T.flat.length + 1) cq) w5.heap.size w6.heap.size w7.heap.size w8.heap.size ba (.int .i64 (S.length : Int)) (.int .i64 lq) (.int .i64 ((S.length : Int) + 2 + (nt.length : Int))) (.slice (some ⟨ba, 0, none⟩) 1 ca) (.int .i64 (nt.length : Int)) (.string (bs wd)) _ := ⟨hxp, hVp, hxq, hVq, hxr, hxa, hta, hB8⟩
  have hSame := fun (a b : Value) (W : World) (h1 : View W a (T.flat ++ [noteStp 6 wd])) (h2 : View W b (T.flat ++ [noteStp 6 wd])) => same_any a b _ _ W h1 h2 (by rw [List.length_append]; simp; omega) (by rw [List.length_append]; simp; omega)
  simp only [decide_true] at hSame
  clear hxp hVp hxq hVq hxr hxa hta hB8
  go_upto_region 13 with fail
  generalize w8.alloc (.cells #[.slice (some ⟨ba, 0, none⟩) 1 ca, .int .i64 0, .int .i64 (nt.length : Int), .int .i64 0] 37) = Y8 at *
  go_cut [17] from 18 (fun x wx => x = .bool true ∧ NtI w T.flat (T.flat ++ [noteStp 6 wd]) (.slice op T.flat.length cp) (.slice oq (T.flat.length + 1) cq) w5.heap.size w6.heap.size w7.heap.size w8.heap.size ba (.int .i64 (S.length : Int)) (.int .i64 lq) (.int .i64 ((S.length : Int) + 2 + (nt.length : Int))) (.slice (some ⟨ba, 0, none⟩) 1 ca) (.int .i64 (nt.length : Int)) (.string (bs wd)) wx)
  case first =>
    refine wp_region_held_drew (S := (fun v => NtI w T.flat (T.flat ++ [noteStp 6 wd]) (.slice op T.flat.length cp) (.slice oq (T.flat.length + 1) cq) w5.heap.size w6.heap.size w7.heap.size w8.heap.size ba (.int .i64 (S.length : Int)) (.int .i64 lq) (.int .i64 ((S.length : Int) + 2 + (nt.length : Int))) (.slice (some ⟨ba, 0, none⟩) 1 ca) (.int .i64 (nt.length : Int)) (.string (bs wd)) v)) (by kernel_rfl) hI.drew (fun hHeld => ?_)
    clear hI
    refine wpAnyH_take (i := 0) (v := ?_) rfl (by kernel_rfl) (by kernel_rfl) (by kernel_rfl) (fun _ _ _ h => h) (Or.inl ⟨by rfl, ?_⟩) hHeld ?_
    rotate_left
    · intro u hSu; go_simp; try with_reducible rfl
    simp only [Act.put, List.setIfInBounds_toArray, List.set_cons_zero, List.set_cons_succ, List.getElem_toArray, List.getElem_cons_succ, List.getElem_cons_zero]
    refine wpAnyH_take (i := 1) (v := ?_) rfl (by kernel_rfl) (by kernel_rfl) (by kernel_rfl) (fun _ _ _ h => h) (Or.inl ⟨by rfl, ?_⟩) hHeld ?_
    rotate_left
    · intro u hSu; obtain ⟨c0, _, _, _⟩ := hSu.xq; go_simp; try with_reducible rfl
    simp only [Act.put, List.setIfInBounds_toArray, List.set_cons_zero, List.set_cons_succ, List.getElem_toArray, List.getElem_cons_succ, List.getElem_cons_zero]
    refine wpAnyH_take (i := 3) (v := ?_) rfl (by kernel_rfl) (by kernel_rfl) (by kernel_rfl) (fun _ _ _ h => h) (Or.inl ⟨by rfl, ?_⟩) hHeld ?_
    rotate_left
    · intro u hSu; go_simp; try with_reducible rfl
    simp only [Act.put, List.setIfInBounds_toArray, List.set_cons_zero, List.set_cons_succ, List.getElem_toArray, List.getElem_cons_succ, List.getElem_cons_zero]
    refine wpAnyH_take (i := 4) (v := ?_) rfl (by kernel_rfl) (by kernel_rfl) (by kernel_rfl) (fun _ _ _ h => h) (Or.inl ⟨by rfl, ?_⟩) hHeld ?_
    rotate_left
    · intro u hSu; obtain ⟨c0, _, _, _⟩ := hSu.xp; go_simp; try with_reducible rfl
    simp only [Act.put, List.setIfInBounds_toArray, List.set_cons_zero, List.set_cons_succ, List.getElem_toArray, List.getElem_cons_succ, List.getElem_cons_zero]
    refine wpAnyH_take (i := 6) (v := ?_) rfl (by kernel_rfl) (by kernel_rfl) (by kernel_rfl) (fun _ _ _ h => h) (Or.inl ⟨by rfl, ?_⟩) hHeld ?_
    rotate_left
    · intro u hSu; go_simp; try with_reducible rfl
    simp only [Act.put, List.setIfInBounds_toArray, List.set_cons_zero, List.set_cons_succ, List.getElem_toArray, List.getElem_cons_succ, List.getElem_cons_zero]
    refine wpAnyH_take (i := 7) (v := ?_) rfl (by kernel_rfl) (by kernel_rfl) (by kernel_rfl) (fun _ _ _ h => h) (Or.inl ⟨by rfl, ?_⟩) hHeld ?_
    rotate_left
    · intro u hSu; go_simp; try with_reducible rfl
    simp only [Act.put, List.setIfInBounds_toArray, List.set_cons_zero, List.set_cons_succ, List.getElem_toArray, List.getElem_cons_succ, List.getElem_cons_zero]
    refine wpAnyH_ready (rs := [2, 8]) (by kernel_rfl) (by simp) ?_
    refine AllReadyH.cons (o := { dst := some 74, op := Op.buildSlice 34 0 #[], type := 34, pos := "law.go:245", after := #[], guard := none }) rfl (fun K hK => ?_) ?_
    · skip
      go_simp
      have hV := hHeld
      try go_simp
      refine hK.out _ _ (hHeld.go ((Below.refl _ _).alloc (Nat.le_refl _) _)) (fun hHeld2 => ?_)
      clear hK K hHeld
      rename NtI _ _ _ _ _ _ _ _ _ _ _ _ _ _ _ _ _ => hHeld3
      have hHeld := hHeld3
      clear hHeld3
      try simp only [Act.put, List.setIfInBounds_toArray, List.set_cons_zero, List.set_cons_succ, List.getElem_toArray, List.getElem_cons_succ, List.getElem_cons_zero]
      refine wpAnyH_ready (rs := [5, 8]) (by kernel_rfl) (by simp) ?_
      refine AllReadyH.cons (o := { dst := some 77, op := Op.call { callee := Callee.builtin Builtin.append, args := #[Operand.tmp 74, Operand.tmp 76], argTypes := #[34, 34] }, type := 34, pos := "law.go:245", after := #[{ on := 2, ground := Ground.data }, { on := 4, ground := Ground.data }], guard := none }) rfl (fun K hK => ?_) ?_
      · skip
        obtain ⟨V1, V2, o1, c1, o2, c2, HQ0⟩ := pair_i (n := T.flat.length) hV.vp (noteStp 6 wd) (by first | omega | (simp only [List.length_append]; omega)) (by first | rfl | exact List.length_append)
        refine step_app2 (by rfl) (Operand.tmp 74) (Operand.tmp 76) 34 34 rfl HQ0.hr1 ?_
        refine hK.out _ _ (hV.go HQ0.b1) (fun hHeld2 => ?_)
        clear hK K hHeld
        have hHeld := hHeld2
        clear hHeld2
        try simp only [Act.put, List.setIfInBounds_toArray, List.set_cons_zero, List.set_cons_succ, List.getElem_toArray, List.getElem_cons_succ, List.getElem_cons_zero]
        refine wpAnyH_ready (rs := [8]) (by kernel_rfl) (by simp) ?_
        refine AllReadyH.cons (o := { dst := some 80, op := Op.buildSlice 34 1 #[(0, Operand.tmp 79)], type := 34, pos := "law.go:245", after := #[{ on := 7, ground := Ground.data }], guard := none }) rfl (fun K hK => ?_) AllReadyH.nil
        go_simp
        try go_simp
        refine hK.out _ _ (hHeld.go ((Below.refl _ _).alloc (Nat.le_refl _) _)) (fun hHeld2 => ?_)
        clear hK K hHeld
        rename NtI _ _ _ _ _ _ _ _ _ _ _ _ _ _ _ _ _ => hHeld3
        have hHeld := hHeld3
        clear hHeld3
        try simp only [Act.put, List.setIfInBounds_toArray, List.set_cons_zero, List.set_cons_succ, List.getElem_toArray, List.getElem_cons_succ, List.getElem_cons_zero]
        refine wpAnyH_ready (rs := [9]) (by kernel_rfl) (by simp) ?_
        refine AllReadyH.cons (o := { dst := some 81, op := Op.call { callee := Callee.builtin Builtin.append, args := #[Operand.tmp 77, Operand.tmp 80], argTypes := #[34, 34] }, type := 34, pos := "law.go:245", after := #[{ on := 5, ground := Ground.data }, { on := 8, ground := Ground.data }, { on := 5, ground := Ground.chain }], guard := none }) rfl (fun K hK => ?_) AllReadyH.nil
        refine step_app2 (by rfl) (Operand.tmp 77) (Operand.tmp 80) 34 34 rfl HQ0.hr2 ?_
        refine hK.out _ _ (hV.go HQ0.b2) (fun hHeld2 => ?_)
        clear hK K hHeld hV
        have hHeld := hHeld2
        clear hHeld2
        try simp only [Act.put, List.setIfInBounds_toArray, List.set_cons_zero, List.set_cons_succ, List.getElem_toArray, List.getElem_cons_succ, List.getElem_cons_zero]
        refine wpAnyH_ready (rs := [10]) (by kernel_rfl) (by simp) ?_
        refine AllReadyH.cons (o := { dst := some 82, op := Op.call { callee := Callee.value (Operand.func 19), args := #[Operand.tmp 73, Operand.tmp 81], argTypes := #[34, 34] }, type := 4, pos := "law.go:245", after := #[{ on := 1, ground := Ground.data }, { on := 9, ground := Ground.data }, { on := 9, ground := Ground.chain }], guard := none }) rfl (fun K hK => ?_) AllReadyH.nil
        go_simp
        refine (hSame _ _ _ hHeld.vq HQ0.rows.view).mono ?_
        rintro e u10 ⟨rfl, hb⟩
        try go_simp
        refine hK.out _ _ (hHeld.go hb) (fun hHeld2 => ?_)
        clear hK K hb hHeld
        rename NtI _ _ _ _ _ _ _ _ _ _ _ _ _ _ _ _ _ => hHeld
        try simp only [Act.put, List.setIfInBounds_toArray, List.set_cons_zero, List.set_cons_succ, List.getElem_toArray, List.getElem_cons_succ, List.getElem_cons_zero]
        refine wpAnyH_take (i := 11) (v := ?_) rfl (by kernel_rfl) (by kernel_rfl) (by kernel_rfl) (fun _ _ _ h => h) (Or.inl ⟨by rfl, ?_⟩) hHeld ?_
        rotate_left
        · intro u hSu; go_simp; try with_reducible rfl
        simp only [Act.put, List.setIfInBounds_toArray, List.set_cons_zero, List.set_cons_succ, List.getElem_toArray, List.getElem_cons_succ, List.getElem_cons_zero]
        refine wpAnyH_done (by kernel_rfl) ?_ _
        go_wp2_with fail
        go_meet
        exact ⟨rfl, hHeld⟩
      refine AllReadyH.cons (o := { dst := some 80, op := Op.buildSlice 34 1 #[(0, Operand.tmp 79)], type := 34, pos := "law.go:245", after := #[{ on := 7, ground := Ground.data }], guard := none }) rfl (fun K hK => ?_) AllReadyH.nil
      go_simp
      try go_simp
      refine hK.out _ _ (hHeld.go ((Below.refl _ _).alloc (Nat.le_refl _) _)) (fun hHeld2 => ?_)
      clear hK K hHeld
      rename NtI _ _ _ _ _ _ _ _ _ _ _ _ _ _ _ _ _ => hHeld3
      have hHeld := hHeld3
      clear hHeld3
      try simp only [Act.put, List.setIfInBounds_toArray, List.set_cons_zero, List.set_cons_succ, List.getElem_toArray, List.getElem_cons_succ, List.getElem_cons_zero]
      refine wpAnyH_ready (rs := [5]) (by kernel_rfl) (by simp) ?_
      refine AllReadyH.cons (o := { dst := some 77, op := Op.call { callee := Callee.builtin Builtin.append, args := #[Operand.tmp 74, Operand.tmp 76], argTypes := #[34, 34] }, type := 34, pos := "law.go:245", after := #[{ on := 2, ground := Ground.data }, { on := 4, ground := Ground.data }], guard := none }) rfl (fun K hK => ?_) AllReadyH.nil
      obtain ⟨V1, V2, o1, c1, o2, c2, HQ0⟩ := pair_ii (n := T.flat.length) hV.vp (noteStp 6 wd) (by first | omega | (simp only [List.length_append]; omega)) (by first | rfl | exact List.length_append)
      refine step_app2 (by rfl) (Operand.tmp 74) (Operand.tmp 76) 34 34 rfl HQ0.hr1 ?_
      refine hK.out _ _ (hV.go HQ0.b1) (fun hHeld2 => ?_)
      clear hK K hHeld
      have hHeld := hHeld2
      clear hHeld2
      try simp only [Act.put, List.setIfInBounds_toArray, List.set_cons_zero, List.set_cons_succ, List.getElem_toArray, List.getElem_cons_succ, List.getElem_cons_zero]
      refine wpAnyH_ready (rs := [9]) (by kernel_rfl) (by simp) ?_
      refine AllReadyH.cons (o := { dst := some 81, op := Op.call { callee := Callee.builtin Builtin.append, args := #[Operand.tmp 77, Operand.tmp 80], argTypes := #[34, 34] }, type := 34, pos := "law.go:245", after := #[{ on := 5, ground := Ground.data }, { on := 8, ground := Ground.data }, { on := 5, ground := Ground.chain }], guard := none }) rfl (fun K hK => ?_) AllReadyH.nil
      refine step_app2 (by rfl) (Operand.tmp 77) (Operand.tmp 80) 34 34 rfl HQ0.hr2 ?_
      refine hK.out _ _ (hV.go HQ0.b2) (fun hHeld2 => ?_)
      clear hK K hHeld hV
      have hHeld := hHeld2
      clear hHeld2
      try simp only [Act.put, List.setIfInBounds_toArray, List.set_cons_zero, List.set_cons_succ, List.getElem_toArray, List.getElem_cons_succ, List.getElem_cons_zero]
      refine wpAnyH_ready (rs := [10]) (by kernel_rfl) (by simp) ?_
      refine AllReadyH.cons (o := { dst := some 82, op := Op.call { callee := Callee.value (Operand.func 19), args := #[Operand.tmp 73, Operand.tmp 81], argTypes := #[34, 34] }, type := 4, pos := "law.go:245", after := #[{ on := 1, ground := Ground.data }, { on := 9, ground := Ground.data }, { on := 9, ground := Ground.chain }], guard := none }) rfl (fun K hK => ?_) AllReadyH.nil
      go_simp
      refine (hSame _ _ _ hHeld.vq HQ0.rows.view).mono ?_
      rintro e u10 ⟨rfl, hb⟩
      try go_simp
      refine hK.out _ _ (hHeld.go hb) (fun hHeld2 => ?_)
      clear hK K hb hHeld
      rename NtI _ _ _ _ _ _ _ _ _ _ _ _ _ _ _ _ _ => hHeld
      try simp only [Act.put, List.setIfInBounds_toArray, List.set_cons_zero, List.set_cons_succ, List.getElem_toArray, List.getElem_cons_succ, List.getElem_cons_zero]
      refine wpAnyH_take (i := 11) (v := ?_) rfl (by kernel_rfl) (by kernel_rfl) (by kernel_rfl) (fun _ _ _ h => h) (Or.inl ⟨by rfl, ?_⟩) hHeld ?_
      rotate_left
      · intro u hSu; go_simp; try with_reducible rfl
      simp only [Act.put, List.setIfInBounds_toArray, List.set_cons_zero, List.set_cons_succ, List.getElem_toArray, List.getElem_cons_succ, List.getElem_cons_zero]
      refine wpAnyH_done (by kernel_rfl) ?_ _
      go_wp2_with fail
      go_meet
      exact ⟨rfl, hHeld⟩
    refine AllReadyH.cons (o := { dst := some 80, op := Op.buildSlice 34 1 #[(0, Operand.tmp 79)], type := 34, pos := "law.go:245", after := #[{ on := 7, ground := Ground.data }], guard := none }) rfl (fun K hK => ?_) AllReadyH.nil
    go_simp
    have hV := hHeld
    try go_simp
    refine hK.out _ _ (hHeld.go ((Below.refl _ _).alloc (Nat.le_refl _) _)) (fun hHeld2 => ?_)
    clear hK K hHeld
    rename NtI _ _ _ _ _ _ _ _ _ _ _ _ _ _ _ _ _ => hHeld3
    have hHeld := hHeld3
    clear hHeld3
    try simp only [Act.put, List.setIfInBounds_toArray, List.set_cons_zero, List.set_cons_succ, List.getElem_toArray, List.getElem_cons_succ, List.getElem_cons_zero]
    refine wpAnyH_ready (rs := [2]) (by kernel_rfl) (by simp) ?_
    refine AllReadyH.cons (o := { dst := some 74, op := Op.buildSlice 34 0 #[], type := 34, pos := "law.go:245", after := #[], guard := none }) rfl (fun K hK => ?_) AllReadyH.nil
    go_simp
    try go_simp
    refine hK.out _ _ (hHeld.go ((Below.refl _ _).alloc (Nat.le_refl _) _)) (fun hHeld2 => ?_)
    clear hK K hHeld
    rename NtI _ _ _ _ _ _ _ _ _ _ _ _ _ _ _ _ _ => hHeld3
    have hHeld := hHeld3
    clear hHeld3
    try simp only [Act.put, List.setIfInBounds_toArray, List.set_cons_zero, List.set_cons_succ, List.getElem_toArray, List.getElem_cons_succ, List.getElem_cons_zero]
    refine wpAnyH_ready (rs := [5]) (by kernel_rfl) (by simp) ?_
    refine AllReadyH.cons (o := { dst := some 77, op := Op.call { callee := Callee.builtin Builtin.append, args := #[Operand.tmp 74, Operand.tmp 76], argTypes := #[34, 34] }, type := 34, pos := "law.go:245", after := #[{ on := 2, ground := Ground.data }, { on := 4, ground := Ground.data }], guard := none }) rfl (fun K hK => ?_) AllReadyH.nil
    obtain ⟨V1, V2, o1, c1, o2, c2, HQ0⟩ := pair_iii (n := T.flat.length) hV.vp (noteStp 6 wd) (by first | omega | (simp only [List.length_append]; omega)) (by first | rfl | exact List.length_append)
    refine step_app2 (by rfl) (Operand.tmp 74) (Operand.tmp 76) 34 34 rfl HQ0.hr1 ?_
    refine hK.out _ _ (hV.go HQ0.b1) (fun hHeld2 => ?_)
    clear hK K hHeld
    have hHeld := hHeld2
    clear hHeld2
    try simp only [Act.put, List.setIfInBounds_toArray, List.set_cons_zero, List.set_cons_succ, List.getElem_toArray, List.getElem_cons_succ, List.getElem_cons_zero]
    refine wpAnyH_ready (rs := [9]) (by kernel_rfl) (by simp) ?_
    refine AllReadyH.cons (o := { dst := some 81, op := Op.call { callee := Callee.builtin Builtin.append, args := #[Operand.tmp 77, Operand.tmp 80], argTypes := #[34, 34] }, type := 34, pos := "law.go:245", after := #[{ on := 5, ground := Ground.data }, { on := 8, ground := Ground.data }, { on := 5, ground := Ground.chain }], guard := none }) rfl (fun K hK => ?_) AllReadyH.nil
    refine step_app2 (by rfl) (Operand.tmp 77) (Operand.tmp 80) 34 34 rfl HQ0.hr2 ?_
    refine hK.out _ _ (hV.go HQ0.b2) (fun hHeld2 => ?_)
    clear hK K hHeld hV
    have hHeld := hHeld2
    clear hHeld2
    try simp only [Act.put, List.setIfInBounds_toArray, List.set_cons_zero, List.set_cons_succ, List.getElem_toArray, List.getElem_cons_succ, List.getElem_cons_zero]
    refine wpAnyH_ready (rs := [10]) (by kernel_rfl) (by simp) ?_
    refine AllReadyH.cons (o := { dst := some 82, op := Op.call { callee := Callee.value (Operand.func 19), args := #[Operand.tmp 73, Operand.tmp 81], argTypes := #[34, 34] }, type := 4, pos := "law.go:245", after := #[{ on := 1, ground := Ground.data }, { on := 9, ground := Ground.data }, { on := 9, ground := Ground.chain }], guard := none }) rfl (fun K hK => ?_) AllReadyH.nil
    go_simp
    refine (hSame _ _ _ hHeld.vq HQ0.rows.view).mono ?_
    rintro e u10 ⟨rfl, hb⟩
    try go_simp
    refine hK.out _ _ (hHeld.go hb) (fun hHeld2 => ?_)
    clear hK K hb hHeld
    rename NtI _ _ _ _ _ _ _ _ _ _ _ _ _ _ _ _ _ => hHeld
    try simp only [Act.put, List.setIfInBounds_toArray, List.set_cons_zero, List.set_cons_succ, List.getElem_toArray, List.getElem_cons_succ, List.getElem_cons_zero]
    refine wpAnyH_take (i := 11) (v := ?_) rfl (by kernel_rfl) (by kernel_rfl) (by kernel_rfl) (fun _ _ _ h => h) (Or.inl ⟨by rfl, ?_⟩) hHeld ?_
    rotate_left
    · intro u hSu; go_simp; try with_reducible rfl
    simp only [Act.put, List.setIfInBounds_toArray, List.set_cons_zero, List.set_cons_succ, List.getElem_toArray, List.getElem_cons_succ, List.getElem_cons_zero]
    refine wpAnyH_done (by kernel_rfl) ?_ _
    go_wp2_with fail
    go_meet
    exact ⟨rfl, hHeld⟩
  case rest =>
    clear hI hSame
    obtain ⟨hc1, hI⟩ := hcut
    subst hc1
    have HB := Lib.hid hI.below
    obtain ⟨q0, q1, _, _⟩ := hI.xq
    obtain ⟨_, r1, r2, _⟩ := hI.xr
    obtain ⟨a0, a1, _, _⟩ := hI.xa
    have ta := hI.ta
    have hsi : (S.length : Int) ≤ 240 := by omega
    have hni : (nt.length : Int) ≤ 5 := by omega
    have hzn : ((bs nt).size : Int) = (nt.length : Int) := by rw [bs_size]
    clear hI
    go_wp2_with fail
    go_ret
    exact ⟨rfl, HB.out⟩

end Go.Proofs.YthofogokpolhdaaGreatDoor.Parses

/-
  The walk of LexStops.
-/
import Derived.Test.YtmcmmbacehldbaaDoorX8
import Derived.Test.YtmcmmbacehldbaaDoorXN
namespace Go.Proofs.YtmcmmbacehldbaaDoor.Toks
open Go.RowKit Go.Shelf Go.Proofs.YtmcmmbacehldbaaDoor.Ranges
open Go.Proofs.YtmcmmbacehldbaaDoor.Style
attribute [local go_sem] Oper.semAt_some
set_option linter.unusedVariables false
set_option linter.unusedSimpArgs false

theorem ToksAt.short {W : World} {o : Option Addr} {c : Nat} {L : List Tok} (h : ToksAt W (.slice o L.length c) L) (m : Nat) (hm : m ≤ L.length) : ToksAt W (.slice o m c) (L.take m) := by
  have hl : (L.take m).length = m := by rw [List.length_take]; omega
  show SliceAt W _ 4 (L.take m).length _
  rw [hl]
  rcases h with ⟨h0, hs⟩ | ⟨b, c', hs, hc, hsp, hg⟩
  · injection hs with e1 e2 e3
    left
    exact ⟨by omega, by rw [e1, e3]; congr 1; omega⟩
  · injection hs with e1 e2 e3
    right
    refine ⟨b, c, by rw [e1], by omega, by rw [e3]; exact hsp, (hg.short hm).ext fun i hi j hj => ?_⟩
    unfold cellK
    rw [List.getD_eq_getElem?_getD, List.getD_eq_getElem?_getD, List.getElem?_take, if_pos hi]

set_option maxRecDepth 100000 in
set_option maxHeartbeats 4000000 in
theorem stops_in (n many : Int) (s0 s : List UInt8) (w : World) (hE : Env w) (hs0 : s0.length ≤ 9223372036854775807) (es : s0.take 120 = s) :
    CallsIn Fence.wide 9 Tryd.prog 6 #[.int .i64 n, .string (bs s0), .int .i64 many] w fun e w' => e = .returned (.bool true) ∧ Below w.heap.size w w' := by
  have hR := rest_any n 5
  have hr := restN_lt n 5 (by omega)
  generalize restN n 5 = r at hR hr
  have hR2 := rest_any many 12
  have hm := restN_lt many 12 (by omega)
  generalize restN many 12 = m at hR2 hm
  have hri : (r : Int) < 5 := by omega
  have hmi : (m : Int) < 12 := by omega
  have hs1 := fun W => short_any s0 120 W hs0 (by omega)
  rw [es] at hs1
  have ls : s.length ≤ 120 := by rw [← es, List.length_take]; omega
  have hA := fun W hW => eachL_any (1 + (r : Int)) s W hW (by omega)
  have hll : (toks (1 + (r : Int)) s).length ≤ 120 := by
    unfold toks
    rw [List.length_map]
    have := lex_len (1 + (r : Int)) s
    omega
  clear es hs0
  refine callsIn_of_wp_marks Tryd.func6 rfl trivial ?_ rfl
  simp only [Tryd.ntmps6, List.size_toArray, List.length_cons, List.length_nil, Nat.reduceAdd, Nat.reduceSub, Array.replicate_succ, Array.replicate_zero, List.push_toArray, List.append_toArray, List.nil_append, List.cons_append]
  gi_wp2
  refine ⟨trivial, (callsIn_wide.2 (awake_yes w hE)).mono ?_⟩
  rintro e w1 ⟨rfl, hb1⟩
  have hE1 := hE.go hb1
  gi_wp2
  refine ⟨trivial, (callsIn_wide.2 (hR w1 (by omega) (by omega))).mono ?_⟩
  rintro e w2 ⟨rfl, rfl⟩
  gi_wp2
  refine ⟨trivial, (callsIn_wide.2 (hs1 w1)).mono ?_⟩
  rintro e w2 ⟨rfl, rfl⟩
  gi_wp2
  refine ⟨trivial, (callsIn_wide.2 (hA w1 hE1)).mono ?_⟩
  rintro e w3 ⟨⟨oa, ca, rfl, hTa, _⟩, hb3⟩
  have hB3 := hb1.trans (hb3.mono hb1.size)
  gi_wp2
  refine ⟨trivial, (callsIn_wide.2 (hR2 w3 (by omega) (by omega))).mono ?_⟩
  rintro e w4 ⟨rfl, rfl⟩
  have hut : Below w3.heap.size w3 (w3.alloc (.cells #[.int .i64 (m : Int)] 3)) := (Below.refl _ _).alloc (Nat.le_refl _) _
  have ct : (w3.alloc (.cells #[.int .i64 (m : Int)] 3)).cell? ⟨w3.heap.size, 0, none⟩ = some (.int .i64 (m : Int)) := by simp [go_sem]
  have hst : (w3.alloc (.cells #[.int .i64 (m : Int)] 3)).heap.size = w3.heap.size + 1 := World.size_alloc _ _
  have huf : Below (w3.heap.size + 1) (w3.alloc (.cells #[.int .i64 (m : Int)] 3)) ((w3.alloc (.cells #[.int .i64 (m : Int)] 3)).alloc (.cells #[.slice none 0 0] 28)) := (Below.refl _ _).alloc (by rw [hst]; exact Nat.le_refl _) _
  have c1 : ((w3.alloc (.cells #[.int .i64 (m : Int)] 3)).alloc (.cells #[.slice none 0 0] 28)).cell? ⟨w3.heap.size + 1, 0, none⟩ = some (.slice none 0 0) := by simp [go_sem]
  have d1 : ((w3.alloc (.cells #[.int .i64 (m : Int)] 3)).alloc (.cells #[.slice none 0 0] 28)).frozen? ⟨w3.heap.size + 1, 0, none⟩ = false := by simp [go_sem]
  have hsz : ((w3.alloc (.cells #[.int .i64 (m : Int)] 3)).alloc (.cells #[.slice none 0 0] 28)).heap.size = w3.heap.size + 1 + 1 := by rw [World.size_alloc, hst]
  gi_wp2
  generalize hWt : w3.alloc (.cells #[.int .i64 (m : Int)] 3) = Wt at *
  generalize hWf : Wt.alloc (.cells #[.slice none 0 0] 28) = Wf at *
  clear hWt hWf
  have hBt := hB3.trans (hut.mono hB3.size)
  have hBf := hBt.trans (huf.mono (by have := hB3.size; omega))
  have hE3 : 3 ≤ w.heap.size := hE.err.1
  refine ⟨trivial, (callsIn_wide.2 (each_any (1 + (r : Int)) s Wf (hE.go hBf))).mono ?_⟩
  rintro e V ⟨rfl, hbV, hSp, hfz⟩
  have hVs := hbV.size
  have hl1 := hSp.o1.lt
  have hw3 := hB3.size
  have hT3 := hTa.go hut
  have hI0 : LxI Wt V (w3.heap.size + 1) none 0 [] (.int .i64 (1 + (r : Int))) V := ⟨(hbV.cell (p := ⟨w3.heap.size + 1, 0, none⟩) (cell_lt c1)).trans c1, by rw [← hsz]; exact hSp.x2, (hbV.frozen (p := ⟨w3.heap.size + 1, 0, none⟩) (cell_lt c1)).trans d1, by rw [← hsz]; exact hfz, .inl ⟨rfl, rfl⟩, fun a m c e => (by cases e), fun _ => rfl, by rw [hst]; exact huf.trans (hbV.mono (by omega)), Nat.le_refl _, ⟨by omega, by omega⟩⟩
  have hseq := (seq_each (by omega) hSp) 8 (by omega)
  have hnf := not_fn
  have HST := Lib.hid hst
  have HSZ := Lib.hid hsz
  have hst1 : Wt.heap.size ≤ w3.heap.size + 1 := by omega
  have hst2 : w3.heap.size + 1 ≤ Wt.heap.size := by omega
  have hsz1 : Wf.heap.size ≤ w3.heap.size + 1 + 1 := by omega
  have hsz2 : w3.heap.size + 1 + 1 ≤ Wf.heap.size := by omega
  have HL : Hid (toks (1 + (r : Int)) s = (lexL (1 + (r : Int)) 0 s).map Prod.fst) := rfl
  clear c1 d1 hst hsz hTa hb1 hb3 hE1 hs1 hR hR2 hA hut huf
  generalize hbx : w3.heap.size + 1 = bx at *
  have HBX := Lib.hid hbx
  have hbx3 : 3 ≤ bx := by omega
  clear hbx
  generalize hLL : toks (1 + (r : Int)) s = L at *
  have HLL := Lib.hid hLL
  clear hLL
  gi_wp2
  have eg := enters_of Tryd.func28 (by kernel_rfl) rfl
  refine range_own rfl (by omega) (gf := 28) (lb := #[.pointer (some ⟨Wf.heap.size, 0, none⟩), .pointer (some ⟨Wf.heap.size + 1, 0, none⟩)]) rfl trivial eg hseq (fun _ => rfl) (fun h k => h.trans k)
    (fun W o o' ho hc => Kept.put W _ o' (Nat.le_refl _) (by omega) ho hc) (fun W W' hs hb => Kept.of hb)
    (fun pre x W W' h hb => h) (fun pre x W l o o' h _ _ _ _ => h)
    (fun pre W => pre.length ≤ m ∧ ∃ o c, LxI Wt V bx o c (pre.map Prod.fst) (.int .i64 (1 + (r : Int))) W)
    (fun cd xs W => cd = .exit 0 ∧ ∃ pre x, xs = pre ++ [x] ∧ pre.length = m ∧ ∃ o c, LxI Wt V bx o c (pre.map Prod.fst) (.int .i64 (1 + (r : Int))) W)
    (fun pre W W' h hb => by obtain ⟨h0, o, c, h⟩ := h; exact ⟨h0, o, c, h.go hb⟩)
    (fun pre W l o o' h hl hob hc _ => by obtain ⟨h0, o1, c, h⟩ := h; exact ⟨h0, o1, c, h.put hob hc hl⟩)
    (fun cd pre W W' h hb => by obtain ⟨h0, p1, x1, h1, h2, o, c, h⟩ := h; exact ⟨h0, p1, x1, h1, h2, o, c, h.go hb⟩)
    (fun cd pre W l o o' h hl hob hc _ => by obtain ⟨h0, p1, x1, h1, h2, o1, c, h⟩ := h; exact ⟨h0, p1, x1, h1, h2, o1, c, h.put hob hc hl⟩)
    ⟨by simp, none, 0, hI0⟩
    (fun x W0 => { tmps := #[Value.int .i64 n, Value.string (bs s), Value.int .i64 many, undef, undef, undef, Value.bool false, Value.bool true, Value.int .i64 (1 + (r : Int)), Value.slice oa L.length ca, Value.pointer (some ⟨w3.heap.size, 0, none⟩), Value.pointer (some ⟨bx, 0, none⟩), Value.func (.func 28) #[] #[Value.pointer (some ⟨Wf.heap.size, 0, none⟩), Value.pointer (some ⟨Wf.heap.size + 1, 0, none⟩)], Value.pointer (some ⟨W0.heap.size, 0, none⟩), Value.bool true, Value.int .i64 n, Value.int .i64 (r : Int), Value.int .i64 (1 + (r : Int)), Value.string (bs s0), Value.string (bs s), Value.int .i64 (1 + (r : Int)), Value.string (bs s), Value.slice oa L.length ca, Value.int .i64 many, Value.int .i64 (m : Int), Value.int .i64 (1 + (r : Int)), Value.string (bs s), Value.func (.func 28) #[] #[Value.pointer (some ⟨Wf.heap.size, 0, none⟩), Value.pointer (some ⟨Wf.heap.size + 1, 0, none⟩)], Value.func (.func 28) #[] #[Value.pointer (some ⟨Wf.heap.size, 0, none⟩), Value.pointer (some ⟨Wf.heap.size + 1, 0, none⟩)], Value.bool false, Value.func (.func 28) #[] #[Value.pointer (some ⟨Wf.heap.size, 0, none⟩), Value.pointer (some ⟨Wf.heap.size + 1, 0, none⟩)], x.1.v, undef, undef, undef, undef, undef, undef, undef, undef, undef, undef, undef, undef, undef, undef, undef, undef, undef, undef, undef], defers := [] })
    (fun x W0 W => TokBox W W0.heap.size x.1) (fun x W0 => TokBox.bears _ _ _) ?assign ?body ?done ?stop
  case assign =>
    rintro l pre ⟨⟨k, q, tx, v⟩, en⟩ W KK hI hG hK
    have HK := hK (W.alloc (.cells #[.int .i64 k, .int .i64 (q : Int), .string (bs tx), .int .i64 v] 36)) ((Below.refl _ _).alloc (Nat.le_refl _) _) (TokBox.new W ⟨k, q, tx, v⟩ _)
    clear hK hI hG
    simp only [encE, Tok.v] at HK ⊢
    gi_wp2
    exact HK
  case body =>
    rintro l pre ⟨⟨k, q, tx, v⟩, en⟩ W0 W hs0 ⟨hpm, o, c, hI⟩ hG hR
    have HM : Hid ((pre ++ [((⟨k, q, tx, v⟩ : Tok), en)]).map Prod.fst = pre.map Prod.fst ++ [⟨k, q, tx, v⟩]) := by show _ = _; rw [List.map_append]; rfl
    have HPL : Hid ((pre.map Prod.fst).length = pre.length) := List.length_map _
    have hpl : (pre.map Prod.fst).length ≤ 1000 := by rw [List.length_map]; omega
    have hpi : ((pre.map Prod.fst).length : Int) ≤ m := by rw [List.length_map]; omega
    have HG := Lib.hid hG
    clear hG
    dsimp only at hR
    obtain ⟨y0, y1, y2, y3⟩ := hR.cells
    dsimp only at y0 y1 y2 y3
    have x1 := hI.x1
    have xt := (hI.below.cell (p := ⟨w3.heap.size, 0, none⟩) (show w3.heap.size < Wt.heap.size by have := HBX.out; omega)).trans ct
    by_cases hle : pre.length = m
    · have hle2 : (pre.map Prod.fst).length = m := by rw [List.length_map]; exact hle
      have hkf : KeepsFrom V.heap.size W W := KeepsFrom.refl _ _
      have HIx : Hid (∃ o c, LxI Wt V bx o c (pre.map Prod.fst) (.int .i64 (1 + (r : Int))) W) := ⟨o, c, hI⟩
      rw [hle2] at x1
      clear hI HM HPL hpl hpi
      gi_wp2
      exact ⟨hkf, Kept.refl _ _ _, rfl, pre, _, rfl, hle, HIx.out⟩
    · have hne : ¬ ((pre.map Prod.fst).length : Int) = m := by rw [List.length_map]; omega
      have hneb : (((pre.map Prod.fst).length : Int) == m) = false := by simpa using hne
      have hlt : pre.length < m := by omega
      obtain ⟨X, o', c', happ, z1, g1, z2, g2, hL2, hkf, hkp⟩ := hI.more hpl ⟨k, q, tx, v⟩
      dsimp only at happ
      have hkp4 := hkp Wf.heap.size (by omega) (by omega)
      generalize pre.map Prod.fst = L1 at *
      dsimp only [Tok.v]
      gi_wp2_with (first | (gi_at_builtin; refine wpListIn_app rfl _ _ 28 28 rfl happ ?_))
      refine ⟨hkf, hkp4, ?_, o', c', ?_⟩
      · rw [List.length_append]; simp; omega
      · rw [HM.out]; exact hL2
  case done =>
    intro xs V' hSx hI hD
    obtain ⟨hxm, o, c, hI⟩ := hI
    have hx : xs.map Prod.fst = L := by rw [hSx, ← HL.out]
    rw [hx] at hI
    have hLm : L.length ≤ m := by rw [← hx, List.length_map]; exact hxm
    have x1 := hI.x1
    have xt := (hI.below.cell (p := ⟨w3.heap.size, 0, none⟩) (show w3.heap.size < Wt.heap.size by have := HBX.out; omega)).trans ct
    have hTA := hT3.go hI.below
    have hLmi : (L.length : Int) ≤ m := by omega
    have hmn : min (m : Int) (L.length : Int) = (L.length : Int) := by omega
    have hBV : Below w.heap.size w V' := hBt.trans (hI.below.mono (by have := hBt.size; omega))
    have HSA := Lib.hid (same_yes L o oa c ca V'.drew hI.at_.drew hTA.drew (by omega))
    have hnz := hI.nz
    rcases id hTA with ⟨l0, hsl⟩ | ⟨b, c', hsl, hcc, _, _⟩
    · injection hsl with e1 e2 e3
      subst e1 e3
      have hs2 := hnz l0
      injection hs2 with q1 q2 q3
      subst q1 q3
      have hL0 : L = [] := List.length_eq_zero_iff.1 l0
      clear hx hSx hxm hI0 hseq eg hI hTA hT3 hnz
      subst hL0
      simp only [List.length_nil] at x1 HSA hLmi hmn l0 ⊢
      have hmn0 : min (m : Int) 0 = 0 := by omega
      gi_wp2
      refine wpIn_calm ?_
      gi_region_with (first | (refine ⟨trivial, ?_⟩; gi_at_call 16; with_reducible refine (callsIn_wide.2 HSA.out).mono ?_; rintro e w7 ⟨rfl, hb7⟩))
      all_goals
        have hD7 : w7.heap[V.heap.size]? = some (.deferred (some [])) := (hb7.block _ (show V.heap.size < V'.heap.size from (Array.getElem?_eq_some_iff.1 hD).1)).trans hD
        have hfin : Below w.heap.size w (w7.putObj V.heap.size (.deferred none)) := below_putObj (hBV.drew.trans (hb7.mono (show w.heap.size ≤ V'.heap.size from hBV.size))) _ (by have := HBX.out; omega) _
        gi_wp2
        refine ⟨by simp, .inl ⟨_, _, rfl, run_takeDeferred hD7, ?_⟩⟩
        exact ⟨.bool true, by simp [results, Tryd.f6, go_sem], rfl, hfin⟩
    · injection hsl with e1 e2 e3
      subst e1 e3
      have hcci : (L.length : Int) ≤ ca := by omega
      clear hx hSx hxm hI0 hseq eg hI hTA hT3
      gi_wp2
      refine wpIn_calm ?_
      gi_region_with (first | (refine ⟨trivial, ?_⟩; gi_at_call 16; with_reducible refine (callsIn_wide.2 HSA.out).mono ?_; rintro e w7 ⟨rfl, hb7⟩))
      all_goals
        have hD7 : w7.heap[V.heap.size]? = some (.deferred (some [])) := (hb7.block _ (show V.heap.size < V'.heap.size from (Array.getElem?_eq_some_iff.1 hD).1)).trans hD
        have hfin : Below w.heap.size w (w7.putObj V.heap.size (.deferred none)) := below_putObj (hBV.drew.trans (hb7.mono (show w.heap.size ≤ V'.heap.size from hBV.size))) _ (by have := HBX.out; omega) _
        gi_wp2
        refine ⟨by simp, .inl ⟨_, _, rfl, run_takeDeferred hD7, ?_⟩⟩
        exact ⟨.bool true, by simp [results, Tryd.f6, go_sem], rfl, hfin⟩
  case stop =>
    intro cd xs V' hSp' hI hD
    obtain ⟨rfl, pre, x, rfl, hpm, o, c, hI⟩ := hI
    obtain ⟨post, hpost⟩ := hSp'
    have hLe : L = pre.map Prod.fst ++ (x.1 :: post.map Prod.fst) := by rw [HL.out, hpost]; simp
    have hLl : m < L.length := by rw [hLe, List.length_append, List.length_map, List.length_cons]; omega
    have hLt : L.take m = pre.map Prod.fst := by rw [hLe, List.take_left' (by rw [List.length_map]; exact hpm)]
    have hml : (pre.map Prod.fst).length = m := by rw [List.length_map]; exact hpm
    have x1 := hI.x1
    rw [hml] at x1
    have xt := (hI.below.cell (p := ⟨w3.heap.size, 0, none⟩) (show w3.heap.size < Wt.heap.size by have := HBX.out; omega)).trans ct
    have hTA := hT3.go hI.below
    have hmn : min (m : Int) (L.length : Int) = (m : Int) := by omega
    have hBV : Below w.heap.size w V' := hBt.trans (hI.below.mono (by have := hBt.size; omega))
    have hT1 : ToksAt V'.drew (.slice oa m ca) (L.take m) := (hTA.short m (by omega)).drew
    have hT2 : ToksAt V'.drew (.slice o m c) (L.take m) := by
      have := hI.at_.drew
      rw [hml] at this
      rw [hLt]; exact this
    have hS0 := same_yes (L.take m) o oa c ca V'.drew (by rw [List.length_take, Nat.min_eq_left (by omega)]; exact hT2) (by rw [List.length_take, Nat.min_eq_left (by omega)]; exact hT1) (by rw [List.length_take]; omega)
    rw [List.length_take, Nat.min_eq_left (by omega)] at hS0
    have HSA := Lib.hid hS0
    rcases id hTA with ⟨l0, hsl⟩ | ⟨b, c', hsl, hcc, _, _⟩
    · omega
    · injection hsl with e1 e2 e3
      subst e1 e3
      have hcci : (L.length : Int) ≤ ca := by omega
      have hmc : (m : Int) ≤ ca := by omega
      have hml2 : (m : Int) < L.length := by omega
      clear hLe hLt hml hI0 hseq eg hI hTA hT3 hT1 hT2 hS0 hpost
      gi_wp2
      refine wpIn_calm ?_
      gi_region_with (first | (refine ⟨trivial, ?_⟩; gi_at_call 16; with_reducible refine (callsIn_wide.2 HSA.out).mono ?_; rintro e w7 ⟨rfl, hb7⟩))
      all_goals
        have hD7 : w7.heap[V.heap.size]? = some (.deferred (some [])) := (hb7.block _ (show V.heap.size < V'.heap.size from (Array.getElem?_eq_some_iff.1 hD).1)).trans hD
        have hfin : Below w.heap.size w (w7.putObj V.heap.size (.deferred none)) := below_putObj (hBV.drew.trans (hb7.mono (show w.heap.size ≤ V'.heap.size from hBV.size))) _ (by have := HBX.out; omega) _
        gi_wp2
        refine ⟨by simp, .inl ⟨_, _, rfl, run_takeDeferred hD7, ?_⟩⟩
        exact ⟨.bool true, by simp [results, Tryd.f6, go_sem], rfl, hfin⟩

theorem stops_any (n many : Int) (s0 : List UInt8) (w : World) (hE : Env w) (hs0 : s0.length ≤ 9223372036854775807) :
    Calls Tryd.prog 6 #[.int .i64 n, .string (bs s0), .int .i64 many] w fun e w' => e = .returned (.bool true) ∧ Below w.heap.size w w' := callsIn_wide.1 (stops_in n many s0 _ w hE hs0 rfl)
theorem len_st (s : ByteArray) (h : s.size ≤ maxLen) : s.data.toList.length ≤ 9223372036854775807 := by
  have : s.data.toList.length = s.size := by rw [Array.length_toList]; rfl
  have hm : maxLen ≤ 9223372036854775807 := by decide
  omega
theorem stops_law (n : Int) (s : ByteArray) (many : Int) (w : World) (hE : Env w) (hn : -9223372036854775808 ≤ n ∧ n ≤ 9223372036854775807) (hs : s.size ≤ maxLen) (hm : -9223372036854775808 ≤ many ∧ many ≤ 9223372036854775807) :
    Calls Tryd.prog 6 #[.int .i64 n, .string s, .int .i64 many] w fun e w' => e = .returned (.bool true) ∧ Below w.heap.size w w' := by
  have h := stops_any n many s.data.toList w hE (len_st s hs)
  rw [bs_of] at h
  exact h

end Go.Proofs.YtmcmmbacehldbaaDoor.Toks

/-
  Contract of atoms.wrongAtom: the first atom that is not right.
-/
import Derived.Test.YtpmibcdmaaagjaaDoorA8
import Derived.Stop.RegionWithIn
import Derived.Shelf.Abstract
namespace Go.Proofs.YtpmibcdmaaagjaaDoor.Atoms
open Go.RowKit Go.Shelf Go.Proofs.YtpmibcdmaaagjaaDoor.Ranges
attribute [local go_sem] Oper.semAt_some
set_option linter.unusedVariables false
set_option linter.unusedSimpArgs false

theorem cell_same {W W' : World} {b j : Nat} {v : Value} (hc : W.cell? ⟨b, j, none⟩ = some v) (h : W'.heap[b]? = W.heap[b]?) : W'.cell? ⟨b, j, none⟩ = some v := (World.cell?_of_block (a := ⟨b, j, none⟩) h).trans hc
theorem cell_lt {W : World} {b j : Nat} {v : Value} (hc : W.cell? ⟨b, j, none⟩ = some v) : b < W.heap.size := World.block_lt_of_cell? _ _ hc

/-- A cell does not lie in a map. -/
theorem MapAt.no_cell {W : World} {M : Nat} {K : List (List Int)} (h : MapAt W M K) {b j : Nat} {v : Value} (hc : W.cell? ⟨b, j, none⟩ = some v) : b ≠ M := by
  intro e
  subst e
  obtain ⟨es, clock, h1, _⟩ := h
  simp [World.cell?, h1] at hc
theorem ten_same {W W' : World} (h : Frac.OfTen W) (hs : W.heap.size ≤ W'.heap.size) (hb : W'.heap[0]? = W.heap[0]?) : Frac.OfTen W' :=
  ⟨cell_same h.1 hb, cell_same h.2.1 hb, by have := h.2.2; omega⟩

/-- How the world stands in wrongAtom, whose boxes lie from w's end on. -/
structure WrongI (w : World) (M : Nat) (o : Option Addr) (c : Nat) (rows : List Row) (S : Nat → Value) (v : Int) (W : World) : Prop where
  box : W.cell? ⟨w.heap.size, 0, none⟩ = some (.slice o rows.length c)
  was : W.cell? ⟨w.heap.size + 1, 0, none⟩ = some (.map (some M))
  wrong : W.cell? ⟨w.heap.size + 1 + 1, 0, none⟩ = some (.int .i64 v)
  thaw : W.frozen? ⟨w.heap.size + 1 + 1, 0, none⟩ = false
  grid : ∀ b, o = some ⟨b, 0, none⟩ → 0 < rows.length → b < w.heap.size ∧ Grid W b 12 rows.length (cellA rows S)
  ten : Frac.OfTen W
  g : 0 < w.heap.size
  but : But M w W
  size : w.heap.size + 3 ≤ W.heap.size
/-- It hangs on the blocks below w's end and its boxes alone. -/
theorem WrongI.same {w : World} {M : Nat} {o : Option Addr} {c : Nat} {rows : List Row} {S : Nat → Value} {v : Int} {W W' : World} (h : WrongI w M o c rows S v W) (hos : W'.os = W.os) (ht : W'.tape = W.tape) (hou : W'.output = W.output) (hs : W.heap.size ≤ W'.heap.size)
    (hb : ∀ k, k < w.heap.size + 3 → k ≠ M → W'.heap[k]? = W.heap[k]?) (hM : M < w.heap.size) (hG : ∀ b, o = some ⟨b, 0, none⟩ → 0 < rows.length → b ≠ M) (hT : 0 ≠ M) : WrongI w M o c rows S v W' := by
  have hg := h.g
  have hz := h.size
  refine ⟨cell_same h.box (hb _ (by omega) (by omega)), cell_same h.was (hb _ (by omega) (by omega)), cell_same h.wrong (hb _ (by omega) (by omega)), (frozen_of_block (hb _ (by omega) (by omega)) 0).trans h.thaw, ?_, ten_same h.ten hs (hb _ (by omega) hT), hg, ?_, by omega⟩
  · intro b hb' hn
    obtain ⟨h1, h2⟩ := h.grid b hb' hn
    exact ⟨h1, h2.block hs (hb b (by omega) (hG b hb' hn))⟩
  · exact ⟨hos.trans h.but.os, ht.trans h.but.tape, hou.trans h.but.output, Nat.le_trans h.but.size hs, fun k hk hM' => (hb k (by omega) hM').trans (h.but.block k hk hM')⟩
theorem WrongI.put {w : World} {M : Nat} {o : Option Addr} {c : Nat} {rows : List Row} {S : Nat → Value} {v : Int} {W : World} (h : WrongI w M o c rows S v W) (hM : M < w.heap.size) (v' : Int) : WrongI w M o c rows S v' (W.setCell ⟨w.heap.size + 1 + 1, 0, none⟩ (.int .i64 v')) := by
  have hg := h.g
  have hz := h.size
  have hne : ∀ k, k ≠ w.heap.size + 1 + 1 → (W.setCell ⟨w.heap.size + 1 + 1, 0, none⟩ (.int .i64 v')).heap[k]? = W.heap[k]? := fun k hk => Below.heap_setCell W ⟨w.heap.size + 1 + 1, 0, none⟩ _ k hk
  have hs : W.heap.size ≤ (W.setCell ⟨w.heap.size + 1 + 1, 0, none⟩ (.int .i64 v')).heap.size := by rw [World.size_setCell]; exact Nat.le_refl _
  refine ⟨cell_same h.box (hne _ (by omega)), cell_same h.was (hne _ (by omega)), World.cell?_setCell_same _ _ _ h.wrong, by rw [World.frozen?_setCell]; exact h.thaw, ?_, ten_same h.ten hs (hne _ (by omega)), hg, ?_, by omega⟩
  · intro b hb' hn
    obtain ⟨h1, h2⟩ := h.grid b hb' hn
    exact ⟨h1, h2.block hs (hne b (by omega))⟩
  · exact ⟨h.but.os, h.but.tape, h.but.output, Nat.le_trans h.but.size hs, fun k hk hM' => (hne k (by omega)).trans (h.but.block k hk hM')⟩
theorem Grid.putObj {W : World} {b k n : Nat} {f : Nat → Nat → Value} (h : Grid W b k n f) {l : Nat} {o o' : Obj} (hl : W.heap[l]? = some o) (ho : o.isCells = false) (ho' : o'.isCells = false) : Grid (W.putObj l o') b k n f := by
  have hlt : l < W.heap.size := (Array.getElem?_eq_some_iff.1 hl).1
  have hs : W.heap.size ≤ (W.putObj l o').heap.size := by simp [World.putObj]
  by_cases e : b = l
  · subst e
    have hf : (W.putObj b o').heap[b]? = some o' := World.putObj_heap_same hlt
    refine ⟨fun i hi j hj => ?_, fun j => ?_, by have := h.2.2; omega⟩
    · have := h.1 i hi j hj
      cases o <;> simp [Obj.isCells] at ho <;> simp [World.cell?, hl] at this
    · cases o' <;> simp [Obj.isCells] at ho' <;> simp [World.frozen?, hf]
  · exact h.block hs (World.putObj_heap_other e)
theorem Spare.putObj {W : World} {b m : Nat} (h : Spare W b m) {l : Nat} {o o' : Obj} (hl : W.heap[l]? = some o) (ho : o.isCells = false) : Spare (W.putObj l o') b m := by
  by_cases e : b = l
  · subst e
    intro j hj
    have := h j hj
    cases o <;> simp [Obj.isCells] at ho <;> simp [World.cell?, hl] at this
  · exact h.block (World.putObj_heap_other e)
theorem SliceAt.putObj {W : World} {s : Value} {k n : Nat} {f : Nat → Nat → Value} (h : SliceAt W s k n f) {l : Nat} {o o' : Obj} (hl : W.heap[l]? = some o) (ho : o.isCells = false) (ho' : o'.isCells = false) : SliceAt (W.putObj l o') s k n f := by
  rcases h with h | ⟨b, c, hs, hc, hm, hg⟩
  · exact .inl h
  · exact .inr ⟨b, c, hs, hc, hm.putObj hl ho, hg.putObj hl ho ho'⟩
theorem But.book {M D : Nat} {w W : World} (h : But M w W) (hD : w.heap.size ≤ D) (o : Obj) : But M w (W.putObj D o) :=
  ⟨h.os, h.tape, h.output, by simpa [World.putObj] using h.size, fun k hk hM => (World.putObj_heap_other (by omega)).trans (h.block k hk hM)⟩
theorem But.keeps {M B : Nat} {W W' : World} (h : But M W W') (hM : M < B) : KeepsFrom B W W' :=
  ⟨h.size, fun k o hB hk _ => (h.block k (Array.getElem?_eq_some_iff.1 hk).1 (by omega)).trans hk⟩
theorem keeps_set {B : Nat} (W : World) (b j : Nat) (u : Value) (hb : b < B) : KeepsFrom B W (W.setCell ⟨b, j, none⟩ u) :=
  ⟨by rw [World.size_setCell]; exact Nat.le_refl _, fun k o hB hk _ => (Below.heap_setCell W ⟨b, j, none⟩ u k (by show k ≠ b; omega)).trans hk⟩
theorem But.kept {M lo hi : Nat} {W W' : World} (h : But M W W') (hM : M < lo) (hs : hi ≤ W.heap.size) : Kept lo hi W W' := ⟨h.size, fun k h1 h2 => h.block k (by omega) (by omega)⟩
theorem WrongI.but' {w : World} {M : Nat} {o : Option Addr} {c : Nat} {rows : List Row} {S : Nat → Value} {v : Int} {W W' : World} (h : WrongI w M o c rows S v W) (hB : But M W W') (hM : M < w.heap.size) (hG : ∀ b, o = some ⟨b, 0, none⟩ → 0 < rows.length → b ≠ M) (hT : 0 ≠ M) : WrongI w M o c rows S v W' :=
  h.same hB.os hB.tape hB.output hB.size (fun k hk hM' => hB.block k (by have := h.size; omega) hM') hM hG hT
theorem all_succ (p : Int × Int → Bool) (ts : List (Int × Int)) (j : Nat) (hj : j < ts.length) : (ts.take (j + 1)).all p = ((ts.take j).all p && p (ts.getD j default)) := by
  rw [List.take_succ_eq_append_getElem hj, List.all_append]
  simp [List.getElem?_eq_getElem hj]
theorem all_stop (p : Int × Int → Bool) (ts : List (Int × Int)) (j : Nat) (hj : j < ts.length) (h : p (ts.getD j default) = false) : ts.all p = false := by
  rw [List.all_eq_false]
  refine ⟨ts[j], List.getElem_mem hj, ?_⟩
  rw [List.getD_eq_getElem?_getD, List.getElem?_eq_getElem hj] at h
  simpa using h
/-- How wrongAtom ends. -/
def WrongEnd (w : World) (M : Nat) (v : Int) (e : Ending) (w' : World) : Prop := e = .returned (.int .i64 v) ∧ But M w w' ∧ (v = -1 → ∃ K, MapAt w' M K)
theorem getD_lt {rows : List Row} {k : Nat} (m : Nat) (K : List (List Int)) : True := trivial
theorem wrong_none {rows : List Row} {m k : Nat} {K : List (List Int)} (h : addP K (rows.getD k default).codes = none) : wrongA rows (m + 1) k K = k := by
  show (match addP K (rows.getD k default).codes with | none => (k : Int) | some K' => _) = _
  rw [h]
theorem wrong_row {rows : List Row} {m k : Nat} {K K' : List (List Int)} (h : addP K (rows.getD k default).codes = some K') (hr : rowB rows k = false) : wrongA rows (m + 1) k K = k := by
  show (match addP K (rows.getD k default).codes with | none => (k : Int) | some K' => if rowB rows k then wrongA rows m (k + 1) K' else k) = _
  rw [h]
  simp only []
  rw [hr]; rfl
theorem wrong_next {rows : List Row} {m k : Nat} {K K' : List (List Int)} (h : addP K (rows.getD k default).codes = some K') (hr : rowB rows k = true) : wrongA rows (m + 1) k K = wrongA rows m (k + 1) K' := by
  show (match addP K (rows.getD k default).codes with | none => (k : Int) | some K' => if rowB rows k then wrongA rows m (k + 1) K' else k) = _
  rw [h]
  simp only []
  rw [hr]; rfl

/-- The return, behind the rounds' mark. -/
theorem wrong_finish (w W : World) (tmps : Array Value) (D M : Nat) (v v' : Int) (hv : Hid (v' = v)) (hB : But M w W) (hm : v = -1 → ∃ K, MapAt W M K) (hM : M < w.heap.size) (hD : W.heap[D]? = some (.deferred (some []))) (hD1 : w.heap.size ≤ D) (ht : tmps[4]? = some (.int .i64 v)) :
    LeavesInM Fence.wide 9 Tryd.prog Tryd.f17 tmps (WrongEnd w M v') [{ target := .collected D, args := #[] }] .returning W := by
  refine ⟨by simp, .inl ⟨_, _, rfl, run_takeDeferred hD, ?_⟩⟩
  refine ⟨.int .i64 v, ?_, by rw [hv.out], hB.book hD1 _, fun h => ?_⟩
  · simp [results, Tryd.f17, go_sem, ht]
  · obtain ⟨K, hK⟩ := hm (hv.out.symm.trans h)
    exact ⟨K, hK.block (World.putObj_heap_other (by omega))⟩

set_option maxRecDepth 100000 in
set_option maxHeartbeats 4000000 in
theorem wrongAtom_in (sa sp : Value) (rows : List Row) (S : Nat → Value) (M : Nat) (K : List (List Int)) (w : World) (hf : Fits rows) (hA : AtomsSl w sa rows S) (hM : MapAt w M K) (hT : Frac.OfTen w) :
    CallsIn Fence.wide 9 Tryd.prog 17 #[.agg #[sa, sp], .map (some M)] w (WrongEnd w M (wrongA rows rows.length 0 K)) := by
  obtain ⟨o, c, rfl⟩ := SliceAt.slice hA.1
  have hu : Below w.heap.size w (((w.alloc (.cells #[.slice o rows.length c, sp] 29)).alloc (.cells #[.map (some M)] 51)).alloc (.cells #[.int .i64 (-1)] 3)) := by go_grown
  have hcl := each_call (.slice o rows.length c) sp rows S (((w.alloc (.cells #[.slice o rows.length c, sp] 29)).alloc (.cells #[.map (some M)] 51)).alloc (.cells #[.int .i64 (-1)] 3)) hf (hA.go hu)
  refine callsIn_of_wp_marks Tryd.func17 rfl trivial ?_ rfl
  simp only [Tryd.ntmps17, List.size_toArray, List.length_cons, List.length_nil, Nat.reduceAdd, Nat.reduceSub, Array.replicate_succ, Array.replicate_zero, List.push_toArray, List.append_toArray, List.nil_append, List.cons_append]
  gi_wp2
  refine scope_wide ?_
  gi_wp2
  refine wpIn_label ?_
  gi_wp2
  refine ⟨trivial, (callsIn_wide.2 hcl).mono ?_⟩
  rintro e w1 ⟨ob, s, T, rfl, hE⟩
  have hMl := hM.lt
  have hGM : ∀ b, o = some ⟨b, 0, none⟩ → 0 < rows.length → b ≠ M := by
    intro b hb hn
    rcases hA.1 with ⟨h0, _⟩ | ⟨b', c', he, _, _, hg⟩
    · omega
    · injection he with e1 e2 e3
      rw [hb] at e1
      injection e1 with e1
      injection e1 with e1
      rw [e1]
      exact hM.no_cell (hg.1 0 hn 0 (by omega))
  have hTM : 0 ≠ M := hM.no_cell hT.1
  have hzE : (((w.alloc (.cells #[.slice o rows.length c, sp] 29)).alloc (.cells #[.map (some M)] 51)).alloc (.cells #[.int .i64 (-1)] 3)).heap.size = w.heap.size + 1 + 1 + 1 := by simp only [World.size_alloc]
  have hz1 := hE.below.size
  rw [hzE] at hz1
  have hWE : WrongI w M o c rows S (-1) (((w.alloc (.cells #[.slice o rows.length c, sp] 29)).alloc (.cells #[.map (some M)] 51)).alloc (.cells #[.int .i64 (-1)] 3)) := by
    refine ⟨by simp [go_sem], by simp [go_sem], by simp [go_sem], by simp [go_sem], ?_, hT.below hu, hT.2.2, But.of hu, by omega⟩
    intro b hb hn
    rcases hA.1 with ⟨h0, _⟩ | ⟨b', c', he, _, _, hg⟩
    · omega
    · injection he with e1 e2 e3
      rw [hb] at e1
      injection e1 with e1
      injection e1 with e1
      rw [e1]
      exact ⟨hg.2.2, hg.go hu⟩
  have hW1 : WrongI w M o c rows S (-1) w1 := hWE.same hE.below.os hE.below.tape hE.below.output hE.below.size (fun k hk _ => hE.below.block k (by omega)) hMl hGM hTM
  have hM1 : MapAt w1 M K := (hM.go hu).go hE.below
  have hln := hf.len
  clear hWE hcl
  gi_wp2
  refine range_law rfl (by omega) (gf := 23) (lb := #[.pointer (some ⟨ob, 0, none⟩)]) rfl trivial (enters_of Tryd.func23 (by kernel_rfl) rfl) (each_seq 8 ob rows T s _ w1 (by omega) hf hE) (fun _ => rfl) (fun h k => h.trans k)
    (fun W l ob ob' hl _ _ => Kept.put W l ob' hl) (fun W W' hs hb => Kept.of hb hs)
    (fun pre x W W' h hb => ⟨h.1, h.2.1, h.2.2.go hb⟩) (fun pre x W l ob ob' h hl hh h1 h2 => ⟨h.1, h.2.1, SliceAt.putObj h.2.2 hh h1 h2⟩)
    (fun pre W => ∃ K', Hid (wrongA rows rows.length 0 K = wrongA rows (rows.length - pre.length) pre.length K') ∧ pre.length ≤ rows.length ∧ MapAt W M K' ∧ WrongI w M o c rows S (-1) W)
    (fun cd pre W => cd = .exit 0 ∧ ∃ v, Hid (wrongA rows rows.length 0 K = v ∧ v ≠ -1) ∧ WrongI w M o c rows S v W)
    (fun pre W W' hs h hb => by
      obtain ⟨K', h1, h2, h3, h4⟩ := h
      exact ⟨K', h1, h2, h3.block (hb.block M (by omega)), h4.same hb.os hb.tape hb.output hb.size (fun k hk _ => hb.block k (by omega)) hMl hGM hTM⟩)
    (fun cd pre W W' hs h hb => by
      obtain ⟨h1, v, h2, h4⟩ := h
      exact ⟨h1, v, h2, h4.same hb.os hb.tape hb.output hb.size (fun k hk _ => hb.block k (by omega)) hMl hGM hTM⟩)
    ⟨K, rfl, by simp, hM1, hW1⟩
    (fun x W0 => { tmps := #[.agg #[.slice o rows.length c, sp], .map (some M), .pointer (some ⟨w.heap.size, 0, none⟩), .pointer (some ⟨w.heap.size + 1, 0, none⟩), .int .i64 0, .pointer (some ⟨w.heap.size + 1 + 1, 0, none⟩), .int .i64 (x.1 : Int), .pointer (some ⟨W0.heap.size, 0, none⟩), undef, undef,
      .agg #[.slice o rows.length c, sp], .func (.func 23) #[] #[.pointer (some ⟨ob, 0, none⟩)], .int .i64 (x.1 : Int), .agg #[.string (bs (rows.getD x.1 default).c0), .string (bs (rows.getD x.1 default).c1), .string (bs (rows.getD x.1 default).c2), .string (bs (rows.getD x.1 default).c3), .string (bs (rows.getD x.1 default).c4), .bool (rows.getD x.1 default).m, .int .i64 (rows.getD x.1 default).tag, .int .i64 (rows.getD x.1 default).base, .int .i64 (rows.getD x.1 default).num, .int .i64 (rows.getD x.1 default).den, .int .i64 (rows.getD x.1 default).ten, x.2], undef, undef, undef, undef, undef, undef, undef, undef, undef, undef, undef, undef, undef, undef, undef, undef, undef, undef, undef, undef, undef, undef, undef, undef, undef, undef, undef, undef], defers := [] })
    (fun x W0 W => AtomBox W W0.heap.size (rows.getD x.1 default) x.2) (fun x W0 W l ob ob' h hl hh h1 h2 => Grid.putObj h hh h1 h2) ?assign ?body ?done ?stop
  case assign =>
    rintro l pre ⟨k, sx⟩ W KK hI hG hK
    obtain ⟨os, cs, hsl⟩ := SliceAt.slice hG.2.2
    dsimp only at hsl
    subst hsl
    have hbx := AtomBox.new W (rows.getD k default) (.slice os (rows.getD k default).ts.length cs)
    have hb := (Below.refl W.heap.size W).alloc (Nat.le_refl _) (.cells ((rows.getD k default).cs (.slice os (rows.getD k default).ts.length cs)) 40)
    have HK := hK _ hb hbx
    clear hbx hb hK hI hG
    simp only [encA, Row.cs] at HK ⊢
    generalize rows.getD k default = r at HK ⊢
    gi_wp2
    exact HK
  case body =>
    rintro l pre ⟨k, sx⟩ W0 W hs0 ⟨K', h1, h2, h3, h4⟩ ⟨hk, hkn, hts⟩ hR
    dsimp only at hk hkn hts hR ⊢
    have hk' : k < rows.length := hkn
    have HK0 : Hid (wrongA rows rows.length 0 K = wrongA rows ((rows.length - k - 1) + 1) k K') := by
      show _ = _
      rw [h1.out, ← hk]
      congr 1; omega
    have hrf := hf.fine k
    obtain ⟨r, hr⟩ : ∃ r, rows.getD k default = r := ⟨_, rfl⟩
    rw [hr] at hts hR hrf ⊢
    have HR := Lib.hid hr
    have HK := Lib.hid hk
    obtain ⟨os, cs, rfl⟩ := SliceAt.slice hts
    clear h1 hr hk
    have hab : W0.heap.size ≠ M := by omega
    have hWs : w1.heap.size ≤ W.heap.size := by have := hR.2.2; omega
    have hadd := add_any r.c5 M K' W hrf.codes h3
    have hwas := h4.was
    obtain ⟨x0, x1, x2, x3, x4, x5, x6, x7, x8, x9, x10, x11⟩ := AtomBox.cells hR
    gi_wp2
    refine ⟨trivial, (CallsIn.inRound l (callsIn_wide.2 hadd)).mono ?_⟩
    rintro e W2 ⟨hB2, hend⟩
    replace h4 := h4.but' hB2 hMl hGM hTM
    replace hR := hB2.grid hR hab
    clear x0 x1 x2 x3 x4 x5 x6 x7 x8 x9 x10 x11 hwas hadd
    rcases hend with ⟨K2, hK2, rfl, hM2⟩ | ⟨hK2, rfl⟩
    · have HA : Hid (addP K' (rows.getD k default).codes = some K2) := by show _ = _; rw [HR.out]; exact hK2
      clear hK2
      obtain ⟨x0, x1, x2, x3, x4, x5, x6, x7, x8, x9, x10, x11⟩ := AtomBox.cells hR
      have hw := rightWorth_any r os cs W2 h4.ten hrf
      obtain ⟨wb, hwb⟩ : ∃ wb, worthB r = wb := ⟨_, rfl⟩
      rw [hwb] at hw
      have HW := Lib.hid hwb
      clear hwb
      simp only [Row.cs] at hw
      gi_wp2
      refine ⟨trivial, (CallsIn.inRound l (callsIn_wide.2 hw)).mono ?_⟩
      rintro e W3 ⟨rfl, hb3⟩
      replace h4 := h4.but' (But.of hb3) hMl hGM hTM
      replace hR := Grid.go hR hb3
      replace hM2 := hM2.go hb3
      have hB3 := hB2.trans (But.of (M := M) hb3)
      clear x0 x1 x2 x3 x4 x5 x6 x7 x8 x9 x10 x11 hw hb3
      cases wb with
      | false =>
        have HN : Hid (wrongA rows rows.length 0 K = k ∧ (k : Int) ≠ -1) := by
          refine ⟨?_, by omega⟩
          rw [HK0.out, wrong_row HA.out]
          unfold rowB
          rw [HR.out, HW.out]; rfl
        have hwr := h4.wrong
        have hth := h4.thaw
        gi_wp2
        refine ⟨(hB3.keeps (by omega)).trans (keeps_set W3 _ _ _ (by omega)), rfl, k, HN, h4.put hMl k⟩
      | true =>
        have hwr := h4.wrong
        have hth := h4.thaw
        have x11 := (AtomBox.cells hR).2.2.2.2.2.2.2.2.2.2.2
        have hts3 : TermsAt W3 (.slice os r.ts.length cs) r.ts := by
          rcases hts with h | ⟨bt, ct, he, hct, hsp, hg⟩
          · exact .inl h
          · by_cases h0 : r.ts.length = 0
            · refine .inr ⟨bt, ct, he, hct, ?_, ?_⟩
              · intro j hj
                have hsj := hsp j hj
                obtain ⟨u, hu⟩ := Option.isSome_iff_exists.1 hsj
                rw [cell_same hu (hB3.block bt (cell_lt hu) (h3.no_cell hu))]
                rfl
              · rw [h0]
                refine ⟨fun i hi => absurd hi (by omega), fun j => ?_, by have := hB3.size; have := hg.2.2; omega⟩
                by_cases e : bt = M
                · subst e
                  obtain ⟨es, ck, hm, _⟩ := hM2
                  simp [World.frozen?, hm]
                · rw [frozen_of_block (hB3.block bt hg.2.2 e) j]
                  exact hg.2.1 j
            · have hne := h3.no_cell (hg.1 0 (by omega) 0 (by omega))
              exact .inr ⟨bt, ct, he, hct, hsp.block (hB3.block bt hg.2.2 hne), hB3.grid hg hne⟩
        have hrl := hf.ts k
        rw [HR.out] at hrl
        clear hts
        gi_wp2
        gi_loopw [28] (fun x wr => ∃ j : Nat, x = .int .i64 j ∧ j ≤ r.ts.length ∧ Hid ((r.ts.take j).all (termB rows k) = true) ∧ But M W wr ∧ MapAt wr M K2 ∧ WrongI w M o c rows S (-1) wr ∧ TermsAt wr (.slice os r.ts.length cs) r.ts) (fun x _ => (r.ts.length - intOf x).toNat)
        case atStart => exact ⟨0, rfl, by omega, by show _ = _; simp, hB3, hM2, h4, hts3⟩
        case round =>
          clear hB3 hM2 h4 hts3 hwr hth x11 hR hB2
          obtain ⟨j, rfl, hj, hL, hB3, hM2, h4, hts⟩ := hrel
          by_cases hjl : j < r.ts.length
          · have hji : (j : Int) < (r.ts.length : Int) := by omega
            obtain ⟨bt, rfl⟩ : ∃ b, os = some ⟨b, 0, none⟩ := by
              rcases hts with ⟨h0, _⟩ | ⟨b', c', he, _⟩
              · omega
              · injection he with e1 e2 e3
                exact ⟨b', e1⟩
            obtain ⟨b, rfl⟩ : ∃ b, o = some ⟨b, 0, none⟩ := by
              rcases hA.1 with ⟨h0, _⟩ | ⟨b', c', he, _⟩
              · omega
              · injection he with e1 e2 e3
                exact ⟨b', e1⟩
            have hcap : (k : Int) ≤ (c : Int) := by
              rcases hA.1 with ⟨h0, _⟩ | ⟨b', c', he, hc', _⟩
              · omega
              · injection he with e1 e2 e3
                omega
            have hg : Grid wr bt 2 r.ts.length (cellT r.ts) := by
              rcases hts with ⟨h0, _⟩ | ⟨b', c', he, _, _, hg⟩
              · omega
              · injection he with e1 e2 e3
                injection e1 with e1
                injection e1 with e1
                rw [e1]
                exact hg
            obtain ⟨tj, htj⟩ : ∃ tj, r.ts.getD j default = tj := ⟨_, rfl⟩
            have q1 : wr.cell? ⟨bt, j * 2, none⟩ = some (.int .i64 tj.1) := by rw [← htj]; exact hg.1 j hjl 0 (by omega)
            have q2 : wr.cell? ⟨bt, j * 2 + 1, none⟩ = some (.int .i64 tj.2) := by rw [← htj]; exact hg.1 j hjl 1 (by omega)
            have HTJ := Lib.hid htj
            clear htj hg
            have hu4 : Below wr.heap.size wr (wr.alloc (.cells #[.int .i64 tj.1, .int .i64 tj.2] 47)) := by go_grown
            have h5 := h4.but' (But.of (M := M) hu4) hMl hGM hTM
            have hbx := h5.box
            have hrt := fun V (hb : Below (wr.alloc (.cells #[.int .i64 tj.1, .int .i64 tj.2] 47)).heap.size (wr.alloc (.cells #[.int .i64 tj.1, .int .i64 tj.2] 47)) V) => rightTerm_any tj rows S b k c V (by omega) (((h5.grid b rfl (by omega)).2).go hb) (by omega)
            obtain ⟨v, hv⟩ : ∃ v, termB rows k tj = v := ⟨_, rfl⟩
            rw [hv] at hrt
            have HV := Lib.hid hv
            clear hv
            have hwr := h5.wrong
            have hth := h5.thaw
            gi_wp2
            gi_region_with (first | (refine ⟨trivial, ?_⟩; gi_at_call 32; refine (CallsIn.inRound l (callsIn_wide.2 (hrt _ (Below.refl _ _).drew))).mono ?_; rintro e W5 ⟨rfl, hb5⟩))
            all_goals
              have hB5 : Below wr.heap.size wr W5 := hu4.trans ((show Below (wr.alloc (.cells #[.int .i64 tj.1, .int .i64 tj.2] 47)).heap.size (wr.alloc (.cells #[.int .i64 tj.1, .int .i64 tj.2] 47)) W5 from (Below.refl _ _).drew.trans hb5).mono hu4.size)
              replace h4 := h4.but' (But.of hB5) hMl hGM hTM
              replace hM2 := hM2.go hB5
              replace hts := hts.go hB5
              replace hB3 := hB3.trans (But.of (M := M) hB5)
              have hwr5 := h4.wrong
              have hth5 := h4.thaw
              clear hrt h5 hbx hwr hth q1 q2 hb5 hu4 hB5
              cases v with
              | true =>
                gi_wp2
                go_roundw
                case rel =>
                  refine ⟨j + 1, rfl, by omega, ?_, hB3, hM2, h4, hts⟩
                  show _ = _
                  rw [all_succ _ _ j hjl, hL.out, HTJ.out, HV.out]; rfl
                case measure => simp only [intOf]; omega
              | false =>
                have HN : Hid (wrongA rows rows.length 0 K = k ∧ (k : Int) ≠ -1) := by
                  refine ⟨?_, by omega⟩
                  rw [HK0.out, wrong_row HA.out]
                  unfold rowB
                  rw [HR.out, all_stop _ _ j hjl (by rw [HTJ.out]; exact HV.out)]
                  simp
                gi_wp2
                exact ⟨(hB3.keeps (by omega)).trans (keeps_set W5 _ _ _ (by omega)), rfl, k, HN, h4.put hMl k⟩
          · have hje : j = r.ts.length := by omega
            have hji : ¬ (j : Int) < (r.ts.length : Int) := by omega
            have HN : Hid (wrongA rows rows.length 0 K = wrongA rows (rows.length - k - 1) (k + 1) K2) := by
              show _ = _
              rw [HK0.out, wrong_next HA.out]
              unfold rowB
              rw [HR.out, HW.out]
              have := hL.out
              rw [hje, List.take_length] at this
              rw [this]; rfl
            clear hje
            gi_wp2
            have hle : ∀ x : Nat × Value, (pre ++ [x]).length = k + 1 := fun x => by rw [List.length_append, ← HK.out]; rfl
            refine ⟨hB3.keeps (by omega), hB3.kept (by omega) hWs, K2, ?_, ?_, hM2, h4⟩
            · show _ = _
              rw [HN.out, hle, Nat.sub_sub]
            · rw [hle]
              omega
    · have HN : Hid (wrongA rows rows.length 0 K = k ∧ (k : Int) ≠ -1) := by
        refine ⟨?_, by omega⟩
        rw [HK0.out]
        exact wrong_none (by rw [HR.out]; exact hK2)
      clear hK2
      have hwr := h4.wrong
      have hth := h4.thaw
      gi_wp2
      refine ⟨trivial, ?_⟩
      gi_wp2
      refine ⟨(hB2.keeps (by omega)).trans (keeps_set W2 _ _ _ (by omega)), rfl, k, HN, h4.put hMl k⟩
  case done =>
    intro xs V hS hI hD
    obtain ⟨K', h1, h2, h3, h4⟩ := hI
    have hbx := h4.wrong
    have HV : Hid (wrongA rows rows.length 0 K = -1) := by
      show _ = _
      rw [h1.out, show xs.length = rows.length from hS, Nat.sub_self]
      rfl
    clear h1
    gi_wp2
    rw [Exit.noGoto_ret]
    exact wrong_finish w V _ w1.heap.size M (-1) _ HV h4.but (fun _ => ⟨K', h3⟩) hMl hD (by omega) rfl
  case stop =>
    intro cd pre V hS hI hD
    obtain ⟨rfl, v, h1, h4⟩ := hI
    have hbx := h4.wrong
    have HV : Hid (wrongA rows rows.length 0 K = v) := h1.out.1
    have HN := Lib.hid h1.out.2
    clear h1
    gi_wp2
    rw [Exit.noGoto_ret]
    exact wrong_finish w V _ w1.heap.size M v _ HV h4.but (fun h => absurd h HN.out) hMl hD (by omega) rfl

theorem wrongAtom_any (sa sp : Value) (rows : List Row) (S : Nat → Value) (M : Nat) (K : List (List Int)) (w : World) (hf : Fits rows) (hA : AtomsSl w sa rows S) (hM : MapAt w M K) (hT : Frac.OfTen w) :
    Calls Tryd.prog 17 #[.agg #[sa, sp], .map (some M)] w (WrongEnd w M (wrongA rows rows.length 0 K)) :=
  callsIn_wide.1 (wrongAtom_in sa sp rows S M K w hf hA hM hT)

end Go.Proofs.YtpmibcdmaaagjaaDoor.Atoms

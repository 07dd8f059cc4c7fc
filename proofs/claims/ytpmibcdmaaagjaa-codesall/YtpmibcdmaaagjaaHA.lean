/-
  The walk of CodesAll.
-/
import Derived.Test.YtpmibcdmaaagjaaHM
import Derived.Stop.RegionWithIn
import Derived.Shelf.Abstract
namespace Go.Proofs.Ytpmibcdmaaagjaa.Atoms
open Go.RowKit Go.Shelf Go.Proofs.Ytpmibcdmaaagjaa.Ranges
attribute [local go_sem] Oper.semAt_some
set_option linter.unusedVariables false
set_option linter.unusedSimpArgs false

theorem all_not_nil (lb : Array Value) (W : World) : (binOp BinOp.eql 43 (.func (.func 34) #[] lb) .nilFunc).run Try.prog W = .ok (.bool false) W := by
  kernel_rfl

/-- The boxes of all: n, the result, the last place, how many were told. -/
structure AllI (w : World) (s : Nat) (n la go : Int) (W : World) : Prop where
  b : BoxI w (.int .i64 n) (.bool false) W
  l : W.cell? ⟨s, 0, none⟩ = some (.int .i64 la)
  lt : W.frozen? ⟨s, 0, none⟩ = false
  g : W.cell? ⟨s + 1, 0, none⟩ = some (.int .i64 go)
  gt : W.frozen? ⟨s + 1, 0, none⟩ = false
  lo : w.heap.size + 2 ≤ s
  size : s + 2 ≤ W.heap.size
theorem AllI.go_ {w : World} {s : Nat} {n la go : Int} {W W' : World} (h : AllI w s n la go W) (hb : Below (s + 2) W W') : AllI w s n la go W' := by
  have hz := hb.size
  have hs := h.size
  have hl := h.lo
  exact ⟨h.b.go (hb.mono (by omega)), (hb.cell (p := ⟨s, 0, none⟩) (show s < s + 2 by omega)).trans h.l, (hb.frozen (p := ⟨s, 0, none⟩) (show s < s + 2 by omega)).trans h.lt, (hb.cell (p := ⟨s + 1, 0, none⟩) (show s + 1 < s + 2 by omega)).trans h.g, (hb.frozen (p := ⟨s + 1, 0, none⟩) (show s + 1 < s + 2 by omega)).trans h.gt, hl, by omega⟩
theorem AllI.grow {w : World} {s : Nat} {n la go : Int} {W W' : World} (h : AllI w s n la go W) (hb : Below W.heap.size W W') : AllI w s n la go W' := h.go_ (hb.mono h.size)
/-- Both turned. -/
theorem AllI.set {w : World} {s : Nat} {n la go : Int} {W : World} (h : AllI w s n la go W) (la' go' : Int) : AllI w s n la' go' ((W.setCell ⟨s, 0, none⟩ (.int .i64 la')).setCell ⟨s + 1, 0, none⟩ (.int .i64 go')) := by
  have hl := h.lo
  have o1 : ∀ (V : World) u b, b ≠ s → (V.setCell ⟨s, 0, none⟩ u).cell? ⟨b, 0, none⟩ = V.cell? ⟨b, 0, none⟩ := fun V u b hb => World.cell?_setCell_other _ _ _ _ (by intro hh; injection hh with e1 e2; omega)
  have o2 : ∀ (V : World) u b, b ≠ s + 1 → (V.setCell ⟨s + 1, 0, none⟩ u).cell? ⟨b, 0, none⟩ = V.cell? ⟨b, 0, none⟩ := fun V u b hb => World.cell?_setCell_other _ _ _ _ (by intro hh; injection hh with e1 e2; omega)
  refine ⟨⟨by rw [o2 _ _ _ (by omega), o1 _ _ _ (by omega)]; exact h.b.bx, by rw [o2 _ _ _ (by omega), o1 _ _ _ (by omega)]; exact h.b.rs, by rw [World.frozen?_setCell, World.frozen?_setCell]; exact h.b.th, ?_, by rw [World.size_setCell, World.size_setCell]; exact h.b.size⟩, by rw [o2 _ _ _ (by omega)]; exact World.cell?_setCell_same _ _ _ h.l, by rw [World.frozen?_setCell, World.frozen?_setCell]; exact h.lt, World.cell?_setCell_same _ _ _ ((o1 W _ _ (by omega)).trans h.g), by rw [World.frozen?_setCell, World.frozen?_setCell]; exact h.gt, hl, by rw [World.size_setCell, World.size_setCell]; exact h.size⟩
  exact (h.b.below.setCell (p := ⟨s, 0, none⟩) (show w.heap.size ≤ s by omega) _).setCell (p := ⟨s + 1, 0, none⟩) (show w.heap.size ≤ s + 1 by omega) _
theorem Kept.cell {lo hi : Nat} (V : World) (b i : Nat) (u : Value) (h : hi ≤ b) : Kept lo hi V (V.setCell ⟨b, i, none⟩ u) := ⟨by rw [World.size_setCell]; exact Nat.le_refl _, fun k _ h2 => Below.heap_setCell V ⟨b, i, none⟩ u k (by show k ≠ b; omega)⟩
theorem keeps_below {B : Nat} {W W' : World} (h : Below W.heap.size W W') : KeepsFrom B W W' := ⟨h.size, fun k o _ hk _ => (h.block k (Array.getElem?_eq_some_iff.1 hk).1).trans hk⟩

/-- And of what comes then: how many are taken, how many were had; the first rounds' mark. -/
structure HadI (w : World) (s : Nat) (n la go : Int) (t D : Nat) (tk h : Int) (W : World) : Prop where
  a : AllI w s n la go W
  x1 : W.cell? ⟨t, 0, none⟩ = some (.int .i64 tk)
  x2 : W.cell? ⟨t + 1, 0, none⟩ = some (.int .i64 h)
  x3 : W.frozen? ⟨t + 1, 0, none⟩ = false
  m : W.heap[D]? = some (.deferred (some []))
  lo : s + 2 ≤ t
  ld : D < t
  size : t + 2 ≤ W.heap.size
theorem HadI.go_ {w : World} {s : Nat} {n la go : Int} {t D : Nat} {tk h : Int} {W W' : World} (i : HadI w s n la go t D tk h W) (hb : Below (t + 2) W W') : HadI w s n la go t D tk h W' := by
  have hz := hb.size
  have hs := i.size
  have hl := i.lo
  have hd := i.ld
  exact ⟨i.a.go_ (hb.mono (by omega)), (hb.cell (p := ⟨t, 0, none⟩) (show t < t + 2 by omega)).trans i.x1, (hb.cell (p := ⟨t + 1, 0, none⟩) (show t + 1 < t + 2 by omega)).trans i.x2, (hb.frozen (p := ⟨t + 1, 0, none⟩) (show t + 1 < t + 2 by omega)).trans i.x3, (hb.block D (by omega)).trans i.m, hl, hd, by omega⟩
theorem HadI.set {w : World} {s : Nat} {n la go : Int} {t D : Nat} {tk h : Int} {W : World} (i : HadI w s n la go t D tk h W) (h' : Int) : HadI w s n la go t D tk h' (W.setCell ⟨t + 1, 0, none⟩ (.int .i64 h')) := by
  have hl := i.lo
  have hd := i.ld
  have hw := i.a.lo
  have o1 : ∀ b, b ≠ t + 1 → (W.setCell ⟨t + 1, 0, none⟩ (.int .i64 h')).cell? ⟨b, 0, none⟩ = W.cell? ⟨b, 0, none⟩ := fun b hb => World.cell?_setCell_other _ _ _ _ (by intro hh; injection hh with e1 e2; omega)
  refine ⟨⟨⟨by rw [o1 _ (by omega)]; exact i.a.b.bx, by rw [o1 _ (by omega)]; exact i.a.b.rs, by rw [World.frozen?_setCell]; exact i.a.b.th, i.a.b.below.setCell (p := ⟨t + 1, 0, none⟩) (show w.heap.size ≤ t + 1 by omega) _, by rw [World.size_setCell]; exact i.a.b.size⟩,
    by rw [o1 _ (by omega)]; exact i.a.l, by rw [World.frozen?_setCell]; exact i.a.lt, by rw [o1 _ (by omega)]; exact i.a.g, by rw [World.frozen?_setCell]; exact i.a.gt, hw, by rw [World.size_setCell]; exact i.a.size⟩,
    by rw [o1 _ (by omega)]; exact i.x1, World.cell?_setCell_same _ _ _ i.x2, by rw [World.frozen?_setCell]; exact i.x3, (Below.heap_setCell W ⟨t + 1, 0, none⟩ _ D (show D ≠ t + 1 by omega)).trans i.m, hl, hd, by rw [World.size_setCell]; exact i.size⟩

/-- The return: the result is true, behind the rounds' two marks. -/
theorem all_finish (w W : World) (tmps : Array Value) (E D : Nat) (n : Int) (hI : BoxI w (.int .i64 n) (.bool false) W) (hE : W.heap[E]? = some (.deferred (some []))) (hD : W.heap[D]? = some (.deferred (some []))) (hne : D ≠ E) (hE1 : w.heap.size + 2 ≤ E) (hD1 : w.heap.size + 2 ≤ D)
    (ht : tmps[4]? = some (.pointer (some ⟨w.heap.size + 1, 0, none⟩))) :
    LeavesInM Fence.wide 9 Try.prog Try.f16 tmps (fun e w' => e = .returned (.bool true) ∧ Below w.heap.size w w') [{ target := .collected E, args := #[] }, { target := .collected D, args := #[] }] .returning (W.setCell ⟨w.heap.size + 1, 0, none⟩ (.bool true)) := by
  have hI2 := hI.set (.bool true)
  have k1 : (W.setCell ⟨w.heap.size + 1, 0, none⟩ (.bool true)).heap[E]? = some (.deferred (some [])) := (Below.heap_setCell W ⟨w.heap.size + 1, 0, none⟩ _ E (show E ≠ w.heap.size + 1 by omega)).trans hE
  have k2 : (W.setCell ⟨w.heap.size + 1, 0, none⟩ (.bool true)).heap[D]? = some (.deferred (some [])) := (Below.heap_setCell W ⟨w.heap.size + 1, 0, none⟩ _ D (show D ≠ w.heap.size + 1 by omega)).trans hD
  generalize W.setCell ⟨w.heap.size + 1, 0, none⟩ (.bool true) = Y at *
  have hput : ∀ (X : World) (l : Nat) (o : Obj), w.heap.size + 2 ≤ l → Below (w.heap.size + 2) X (X.putObj l o) := fun X l o hl => ⟨rfl, rfl, rfl, by simp [World.putObj], fun k hk => World.putObj_heap_other (by omega)⟩
  have k3 : (Y.putObj E (.deferred none)).heap[D]? = some (.deferred (some [])) := (World.putObj_heap_other hne).trans k2
  have hI3 := (hI2.go (hput Y E (.deferred none) hE1)).go (hput _ D (.deferred none) hD1)
  refine ⟨by simp, .inl ⟨_, _, rfl, run_takeDeferred k1, ?_⟩⟩
  refine ⟨by simp, .inl ⟨_, _, rfl, run_takeDeferred k3, ?_⟩⟩
  refine ⟨.bool true, ?_, rfl, hI3.below⟩
  have hrs := hI3.rs
  simp [results, Try.f16, go_sem, ht, hrs]

attribute [local irreducible] tableRs tablePs csA csP placeI codeAtI codeI told toldTo

set_option maxRecDepth 100000 in
set_option maxHeartbeats 8000000 in
theorem all_in (n many : Int) (w : World) (hn : -9223372036854775808 ≤ n ∧ n ≤ 9223372036854775807) :
    CallsIn Fence.wide 9 Try.prog 16 #[.int .i64 n, .int .i64 many] w fun e w' => e = .returned (.bool true) ∧ Below w.heap.size w w' := by
  have hnn := all_not_nil
  have hu : Below w.heap.size w ((w.alloc (.cells #[.int .i64 n] 3)).alloc (.cells #[.bool false] 4)) := by go_grown
  have x1 : ((w.alloc (.cells #[.int .i64 n] 3)).alloc (.cells #[.bool false] 4)).cell? ⟨w.heap.size, 0, none⟩ = some (.int .i64 n) := by simp [go_sem]
  have x2 : ((w.alloc (.cells #[.int .i64 n] 3)).alloc (.cells #[.bool false] 4)).cell? ⟨w.heap.size + 1, 0, none⟩ = some (.bool false) := by simp [go_sem]
  have x3 : ((w.alloc (.cells #[.int .i64 n] 3)).alloc (.cells #[.bool false] 4)).frozen? ⟨w.heap.size + 1, 0, none⟩ = false := by simp [go_sem]
  have hz : w.heap.size + 2 ≤ ((w.alloc (.cells #[.int .i64 n] 3)).alloc (.cells #[.bool false] 4)).heap.size := by simp only [World.size_alloc]; omega
  refine callsIn_of_wp_marks Try.func16 rfl trivial ?_ rfl
  simp only [Try.ntmps16, List.size_toArray, List.length_cons, List.length_nil, Nat.reduceAdd, Nat.reduceSub, Array.replicate_succ, Array.replicate_zero, List.push_toArray, List.append_toArray, List.nil_append, List.cons_append]
  gi_wp2
  generalize ((w.alloc (.cells #[.int .i64 n] 3)).alloc (.cells #[.bool false] 4)) = w0 at *
  refine ⟨trivial, (callsIn_wide.2 (awake6_yes w0)).mono ?_⟩
  rintro e w1 ⟨rfl, hb1⟩
  have hI1 : BoxI w (.int .i64 n) (.bool false) w1 := BoxI.go ⟨x1, x2, x3, hu, hz⟩ (hb1.mono hz)
  clear x1 x2 x3
  have y1 := hI1.bx
  gi_wp2
  refine ⟨trivial, (callsIn_wide.2 (all_any n w1 hn)).mono ?_⟩
  rintro e w2 ⟨lb, rfl, hb2, hS⟩
  have hI2 := hI1.go (hb2.mono hI1.size)
  have hz2 := hI2.size
  clear y1 hI1 hb1 hu hz
  gi_wp2
  have hu3 : Below w2.heap.size w2 ((w2.alloc (.cells #[.int .i64 (-1)] 3)).alloc (.cells #[.int .i64 0] 3)) := by go_grown
  have hA3 : AllI w w2.heap.size n (-1) 0 ((w2.alloc (.cells #[.int .i64 (-1)] 3)).alloc (.cells #[.int .i64 0] 3)) := ⟨hI2.go (hu3.mono hz2), by simp [go_sem], by simp [go_sem], by simp [go_sem], by simp [go_sem], hz2, by simp only [World.size_alloc]; omega⟩
  have hz3 : ((w2.alloc (.cells #[.int .i64 (-1)] 3)).alloc (.cells #[.int .i64 0] 3)).heap.size ≤ w2.heap.size + 2 := by simp only [World.size_alloc]; omega
  generalize ((w2.alloc (.cells #[.int .i64 (-1)] 3)).alloc (.cells #[.int .i64 0] 3)) = w3 at *
  have hz4 := hA3.size
  have hseq := seq_later (hS 8 (by omega)) hu3
  have eg := enters_of Try.func34 (by kernel_rfl) rfl
  have HS := Lib.hid hS
  clear hS hnn
  refine range_law rfl (by omega) (gf := 34) (lb := lb) rfl trivial eg hseq (fun _ => rfl) (fun h k => h.trans k)
    (fun W l o o' hl _ _ => Kept.put W l o' (by omega)) (fun W W' hs hb => Kept.of hb (by omega))
    (fun pre x W W' h hb => h) (fun pre x W l o o' h _ _ _ _ => h)
    (fun pre W => ∃ la go : Int, Hid (la = lastOf pre ∧ go = pre.length) ∧ AllI w w2.heap.size n la go W ∧ Below w2.heap.size w2 W)
    (fun cd pre W => False)
    (fun pre W W' hs h hb => by obtain ⟨la, go, h1, h2, h3⟩ := h; exact ⟨la, go, h1, h2.go_ (hb.mono hz4), h3.trans (hb.mono (by omega))⟩)
    (fun cd pre W W' hs h hb => h)
    ⟨-1, 0, ⟨rfl, rfl⟩, hA3, hu3⟩
    (fun x W0 => { tmps := #[.int .i64 n, .int .i64 many, .pointer (some ⟨w.heap.size, 0, none⟩), undef, .pointer (some ⟨w.heap.size + 1, 0, none⟩), .bool true, .func (.func 34) #[] lb, .pointer (some ⟨w2.heap.size, 0, none⟩), .pointer (some ⟨w2.heap.size + 1, 0, none⟩), .int .i64 (x.1 : Int), .string (bs x.2), undef, undef, undef, undef, .bool true, .int .i64 n, .func (.func 34) #[] lb, .func (.func 34) #[] lb, .bool false, .func (.func 34) #[] lb, .int .i64 (x.1 : Int), .string (bs x.2), undef, undef, undef, undef, undef, undef, undef, undef, undef, undef, undef, undef, undef, undef, undef, undef, undef, undef, undef, undef, undef, undef, undef, undef, undef, undef, undef, undef, undef, undef, undef, undef, undef, undef, undef, undef, undef, undef, undef, undef, undef, undef, undef, undef, undef, undef, undef, undef, undef, undef, undef, undef, undef, undef, undef, undef, undef, undef, undef, undef, undef, undef, undef, undef, undef, undef, undef], defers := [] })
    (fun x W0 W => True) (fun x W0 W l o o' h _ _ _ _ => trivial) ?assign ?body ?done ?stop
  case assign =>
    rintro l pre ⟨k, c⟩ W KK hI hG hK
    have HK := hK _ (Below.refl _ _) trivial
    clear hK hI hG
    simp only [encN] at HK ⊢
    gi_wp2
    exact HK
  case body =>
    rintro l pre ⟨k, c⟩ W0 W hs0 ⟨la, go, hlg, hA, hW2⟩ ⟨hk, hpre, hc, hne⟩ _
    dsimp only at hk hpre hc hne ⊢
    rw [csA_len] at hk
    have hWs := hA.size
    obtain ⟨f1, f2, f3⟩ := last_facts csA n k
    rw [← hpre, ← hlg.out.1] at f1 f2 f3
    have hgo : 0 ≤ go ∧ go ≤ 48 := by
      have h1 := hlg.out.2
      have h2 : (toldTo csA n k).length ≤ k := by
        have := List.length_filterMap_le (tell1 csA n) (List.range k)
        rw [List.length_range] at this
        unfold toldTo; exact this
      rw [hpre] at h1
      omega
    have HF := Lib.hid f3
    have HC := Lib.hid hc
    have HP := Lib.hid hpre
    have hki : (k : Int) < 48 := by omega
    have hcall := fun (j : Int) V => code_any n j V hn
    have hck : codeAtI csA n (k : Int) = c := by unfold codeAtI; rw [if_pos (by omega), Int.toNat_natCast, HC.out]
    have hcj : Hid (∀ j : Int, la < j → j < (k : Int) → codeAtI csA n j = []) := by
      intro j h1 h2
      unfold codeAtI
      rw [if_pos (by omega)]
      exact HF.out j.toNat (by omega) (by omega)
    have hcallk := hcall k
    rw [hck] at hcallk
    have e1 := bs_some hne
    have g1 : ¬ (k : Int) ≤ la := by omega
    have y1 := hA.b.bx
    have y2 := hA.l
    clear f3 hc hpre hck hne
    gi_wp2
    refine ⟨trivial, (CallsIn.inRound l (callsIn_wide.2 (hcallk _))).mono ?_⟩
    rintro e W1 ⟨rfl, hb1⟩
    replace hA := hA.grow hb1
    have y1 := hA.b.bx
    have y2 := hA.l
    clear hcallk
    gi_wp2
    gi_loopw [11] (fun x wr => ∃ j : Int, x = .int .i64 j ∧ la < j ∧ j ≤ (k : Int) ∧ AllI w w2.heap.size n la go wr ∧ Below W.heap.size W wr) (fun x _ => ((k : Int) - intOf x).toNat)
    case atStart => exact ⟨la + 1, rfl, by omega, by omega, hA, hb1⟩
    case round =>
      clear hA hb1 y1 y2
      obtain ⟨j, rfl, hj1, hj2, hA, hbj⟩ := hrel
      have y1 := hA.b.bx
      by_cases hjk : j < (k : Int)
      · have hcj0 := hcall j
        rw [hcj.out j hj1 hjk] at hcj0
        have e0 := bs_none
        gi_wp2
        refine ⟨trivial, (CallsIn.inRound l (callsIn_wide.2 (hcj0 _))).mono ?_⟩
        rintro e W2 ⟨rfl, hb2'⟩
        replace hA := hA.grow hb2'
        replace hbj := hbj.trans (hb2'.mono hbj.size)
        clear hcj0 y1
        gi_wp2
        go_roundw
        case rel => exact ⟨j + 1, rfl, by omega, by omega, hA, hbj⟩
        case measure => simp only [intOf]; omega
      · have y2 := hA.l
        have y3 := hA.lt
        have y4 := hA.g
        have y5 := hA.gt
        have hse := hA.set (k : Int) (go + 1)
        have hkp : KeepsFrom w3.heap.size W ((wr.setCell ⟨w2.heap.size, 0, none⟩ (.int .i64 (k : Int))).setCell ⟨w2.heap.size + 1, 0, none⟩ (.int .i64 (go + 1))) := (keeps_below hbj).trans (keeps_two wr _ _ _ _ _ _ _ (by omega) (by omega))
        have hkt : Kept w1.heap.size w2.heap.size W ((wr.setCell ⟨w2.heap.size, 0, none⟩ (.int .i64 (k : Int))).setCell ⟨w2.heap.size + 1, 0, none⟩ (.int .i64 (go + 1))) := ((Kept.of hbj (by omega)).trans (Kept.cell _ _ _ _ (Nat.le_refl _))).trans (Kept.cell _ _ _ _ (by omega))
        have hw2e : Below w2.heap.size w2 ((wr.setCell ⟨w2.heap.size, 0, none⟩ (.int .i64 (k : Int))).setCell ⟨w2.heap.size + 1, 0, none⟩ (.int .i64 (go + 1))) := ((hW2.trans (hbj.mono (by omega))).setCell (p := ⟨w2.heap.size, 0, none⟩) (Nat.le_refl _) _).setCell (p := ⟨w2.heap.size + 1, 0, none⟩) (show w2.heap.size ≤ w2.heap.size + 1 by omega) _
        gi_wp2
        refine ⟨hkp, hkt, k, go + 1, ⟨(lastOf_snoc pre (k, c)).symm, ?_⟩, hse, hw2e⟩
        rw [List.length_append, hlg.out.2]; simp
  case done =>
    intro xs V hSx hI hD
    obtain ⟨la, go, hlg, hA, hV2⟩ := hI
    have hxs : xs = told csA n := hSx
    rw [hxs] at hlg
    obtain ⟨f1, f2, f3⟩ := last_facts csA n csA.length
    have htd : toldTo csA n csA.length = told csA n := by unfold told; rfl
    rw [htd, ← hlg.out.1] at f1 f2 f3
    rw [csA_len] at f2 f3
    have hcj : Hid (∀ j : Int, la < j → j < 48 → codeAtI csA n j = []) := by
      intro j h1 h2
      unfold codeAtI
      rw [if_pos (by omega)]
      exact f3 j.toNat (by omega) (by omega)
    have hmany := many_of n
    have hgo := hlg.out.2
    have hcall := fun (j : Int) V => code_any n j V hn
    have y1 := hA.b.bx
    have y2 := hA.l
    have hDl : w3.heap.size < V.heap.size := (Array.getElem?_eq_some_iff.1 hD).1
    have HDD := Lib.hid hD
    have HGO := Lib.hid hgo
    have HMM := Lib.hid hmany
    clear f3 htd hxs hSx hgo hmany hD
    gi_wp2
    gi_loopw [12] (fun x wr => ∃ j : Int, x = .int .i64 j ∧ la < j ∧ j ≤ 48 ∧ AllI w w2.heap.size n la go wr ∧ Below V.heap.size V wr) (fun x _ => (48 - intOf x).toNat)
    case atStart => exact ⟨la + 1, rfl, by omega, by omega, hA, Below.refl _ _⟩
    case round =>
      clear hA y1 y2
      obtain ⟨j, rfl, hj1, hj2, hA, hbj⟩ := hrel
      have y1 := hA.b.bx
      by_cases hjk : j < 48
      · have hcj0 := hcall j
        rw [hcj.out j hj1 hjk] at hcj0
        have e0 := bs_none
        gi_wp2
        refine ⟨trivial, (callsIn_wide.2 (hcj0 _)).mono ?_⟩
        rintro e W2 ⟨rfl, hb2'⟩
        replace hA := hA.grow hb2'
        replace hbj := hbj.trans (hb2'.mono hbj.size)
        clear hcj0 y1
        gi_wp2
        go_roundw
        case rel => exact ⟨j + 1, rfl, by omega, by omega, hA, hbj⟩
        case measure => simp only [intOf]; omega
      · obtain ⟨tk, htk⟩ : ∃ a, restN many 60 = a := ⟨_, rfl⟩
        have tk60 : tk < 60 := by rw [← htk]; exact restN_lt many 60 (by omega)
        have rt := fun W => rest6_any many 60 W (by omega) (by omega)
        rw [htk] at rt
        clear htk
        gi_wp2
        refine ⟨trivial, (callsIn_wide.2 (rt _)).mono ?_⟩
        rintro e w' ⟨rfl, rfl⟩
        gi_wp2
        have hwr := hA.size
        have hDw : wr.heap[w3.heap.size]? = some (.deferred (some [])) := (hbj.block _ hDl).trans HDD.out
        have hzw := hbj.size
        have hu5 : Below wr.heap.size wr ((wr.alloc (.cells #[.int .i64 (tk : Int)] 3)).alloc (.cells #[.int .i64 0] 3)) := by go_grown
        have hH : HadI w w2.heap.size n la go wr.heap.size w3.heap.size tk 0 ((wr.alloc (.cells #[.int .i64 (tk : Int)] 3)).alloc (.cells #[.int .i64 0] 3)) := ⟨hA.grow hu5, by simp [go_sem], by simp [go_sem], by simp [go_sem], (hu5.block _ (by omega)).trans hDw, hwr, by omega, by simp only [World.size_alloc]; omega⟩
        have hz5 : ((wr.alloc (.cells #[.int .i64 (tk : Int)] 3)).alloc (.cells #[.int .i64 0] 3)).heap.size ≤ wr.heap.size + 2 := by simp only [World.size_alloc]; omega
        have hV5 : Below w2.heap.size w2 ((wr.alloc (.cells #[.int .i64 (tk : Int)] 3)).alloc (.cells #[.int .i64 0] 3)) := hV2.trans ((hbj.trans (hu5.mono hzw)).mono (by omega))
        generalize ((wr.alloc (.cells #[.int .i64 (tk : Int)] 3)).alloc (.cells #[.int .i64 0] 3)) = w5 at *
        have hz6 := hH.size
        have hseq2 := seq_later (HS.out 8 (by omega)) hV5
        clear hDw y1 rt hu5 hcall hcj
        refine range_law rfl (by omega) (gf := 34) (lb := lb) rfl trivial eg hseq2 (fun _ => rfl) (fun h k => h.trans k)
          (fun W l o o' hl _ _ => Kept.put W l o' (by omega)) (fun W W' hs hb => Kept.of hb (by omega))
          (fun pre x W W' h hb => h) (fun pre x W l o o' h _ _ _ _ => h)
          (fun pre W => ∃ h : Int, Hid (h = pre.length ∧ h ≤ tk) ∧ HadI w w2.heap.size n la go wr.heap.size w3.heap.size tk h W)
          (fun cd pre W => cd = .exit 6 ∧ Hid ((tk : Int) < go) ∧ HadI w w2.heap.size n la go wr.heap.size w3.heap.size tk tk W)
          (fun pre W W' hs h hb => by obtain ⟨h, h1, h2⟩ := h; exact ⟨h, h1, h2.go_ (hb.mono hz6)⟩)
          (fun cd pre W W' hs h hb => ⟨h.1, h.2.1, h.2.2.go_ (hb.mono hz6)⟩)
          ⟨0, ⟨rfl, by omega⟩, hH⟩
          (fun x W0 => { tmps := #[.int .i64 n, .int .i64 many, .pointer (some ⟨w.heap.size, 0, none⟩), undef, .pointer (some ⟨w.heap.size + 1, 0, none⟩), .bool true, .func (.func 34) #[] lb, .pointer (some ⟨w2.heap.size, 0, none⟩), .pointer (some ⟨w2.heap.size + 1, 0, none⟩), undef, undef, undef, .int .i64 j, .pointer (some ⟨wr.heap.size, 0, none⟩), .pointer (some ⟨wr.heap.size + 1, 0, none⟩), .bool true, .int .i64 n, .func (.func 34) #[] lb, .func (.func 34) #[] lb, .bool false, .func (.func 34) #[] lb, undef, undef, undef, undef, undef, undef, undef, undef, undef, undef, undef, undef, undef, undef, undef, undef, undef, undef, undef, undef, undef, undef, undef, undef, undef, undef, undef, undef, undef, undef, .int .i64 la, .int .i64 (la + 1), .int .i64 j, .bool false, u55, u56, u57, u58, u59, u60, .int .i64 many, .int .i64 (tk : Int), .func (.func 34) #[] lb, .int .i64 (x.1 : Int), .string (bs x.2), undef, undef, undef, undef, undef, undef, undef, undef, undef, undef, undef, undef, undef, undef, undef, undef, undef, undef, undef, undef, undef, undef, undef, undef], defers := [] })
          (fun x W0 W => True) (fun x W0 W l o o' h _ _ _ _ => trivial) ?assign2 ?body2 ?done2 ?stop2
        case assign2 =>
          rintro l pre ⟨k, c⟩ W KK hI hG hK
          have HK := hK _ (Below.refl _ _) trivial
          clear hK hI hG
          simp only [encN] at HK ⊢
          gi_wp2
          exact Eq.mp (congrArg (fun t => KK { tmps := t, defers := [] } W) (by kernel_rfl)) HK
        case body2 =>
          rintro l pre ⟨k, c⟩ W0 W hs0 ⟨h, hh, hI⟩ hG _
          have hnx := hG.next
          have hk := hG.1
          dsimp only at hk hnx ⊢
          have hle : ((pre.length : Int) + 1) ≤ go := by
            have h1 := toldTo_len_le csA n (show k + 1 ≤ csA.length by omega)
            rw [← hnx, List.length_append] at h1
            have h2 := HGO.out
            simp only [List.length_cons, List.length_nil] at h1
            omega
          have HLE := Lib.hid hle
          have hh0 : 0 ≤ h ∧ h ≤ 60 := by have := hh.out; omega
          clear hle hnx hG
          have q1 := hI.x1
          have q2 := hI.x2
          have q3 := hI.x3
          by_cases e : h = (tk : Int)
          · have eb : (h == (tk : Int)) = true := by simpa using e
            have HE := Lib.hid e
            clear e
            gi_wp2
            refine ⟨KeepsFrom.refl _ _, rfl, ?_, ?_⟩
            · have h1 := HLE.out
              have h2 := hh.out
              have h3 := HE.out
              show _ < _
              omega
            · rw [← HE.out]; exact HE.out ▸ hI
          · have eb : (h == (tk : Int)) = false := by simpa using e
            have HE := Lib.hid e
            clear e
            have hse := hI.set (h + 1)
            gi_wp2
            refine ⟨keeps_cell _ _ _ _ _ (by omega), Kept.cell _ _ _ _ (by omega), h + 1, ⟨?_, ?_⟩, hse⟩
            · rw [List.length_append, hh.out.1]; simp
            · have h1 := HE.out
              have h2 := hh.out.2
              omega
        case done2 =>
          intro xs V2 hSx hI hD2
          obtain ⟨h, hh, hI⟩ := hI
          have hx : xs = told csA n := hSx
          have HH : Hid (h = go ∧ go ≤ (tk : Int)) := by
            have h1 := hh.out
            have h2 := HGO.out
            rw [hx] at h1
            refine ⟨?_, ?_⟩
            · omega
            · omega
          obtain ⟨he, hle⟩ := HH.out
          rw [he] at hI
          have q1 := hI.x1
          have q2 := hI.x2
          have q4 := hI.a.g
          have q5 := hI.a.b.bx
          have q6 := hI.a.b.rs
          have q7 := hI.a.b.th
          clear he hx hSx hh HH
          by_cases r1 : n ≥ 1
          · by_cases r2 : n ≤ 5
            · have hg30 : 30 < go := by have h1 := HMM.out.1.2 ⟨r1, r2⟩; have h2 := HGO.out; omega
              gi_wp2
              all_goals exact all_finish w _ _ _ _ n hI.a.b hD2 hI.m (by omega) (by omega) (by omega) rfl
            · have hg30 : ¬ 30 < go := by
                have h1 : ¬ 30 < (told csA n).length := fun h => by have := HMM.out.1.1 h; omega
                have h2 := HGO.out
                omega
              gi_wp2
              all_goals exact all_finish w _ _ _ _ n hI.a.b hD2 hI.m (by omega) (by omega) (by omega) rfl
          · have hg30 : ¬ 30 < go := by
              have h1 : ¬ 30 < (told csA n).length := fun h => by have := HMM.out.1.1 h; omega
              have h2 := HGO.out
              omega
            gi_wp2
            all_goals exact all_finish w _ _ _ _ n hI.a.b hD2 hI.m (by omega) (by omega) (by omega) rfl
        case stop2 =>
          intro cd pre V2 hSx hI hD2
          obtain ⟨rfl, hlt, hI⟩ := hI
          have hlt := hlt.out
          have q1 := hI.x1
          have q2 := hI.x2
          have q4 := hI.a.g
          have q5 := hI.a.b.bx
          have q6 := hI.a.b.rs
          have q7 := hI.a.b.th
          clear hSx
          by_cases r1 : n ≥ 1
          · by_cases r2 : n ≤ 5
            · have hg30 : 30 < go := by have h1 := HMM.out.1.2 ⟨r1, r2⟩; have h2 := HGO.out; omega
              gi_wp2
              all_goals exact all_finish w _ _ _ _ n hI.a.b hD2 hI.m (by omega) (by omega) (by omega) rfl
            · have hg30 : ¬ 30 < go := by
                have h1 : ¬ 30 < (told csA n).length := fun h => by have := HMM.out.1.1 h; omega
                have h2 := HGO.out
                omega
              gi_wp2
              all_goals exact all_finish w _ _ _ _ n hI.a.b hD2 hI.m (by omega) (by omega) (by omega) rfl
          · have hg30 : ¬ 30 < go := by
              have h1 : ¬ 30 < (told csA n).length := fun h => by have := HMM.out.1.1 h; omega
              have h2 := HGO.out
              omega
            gi_wp2
            all_goals exact all_finish w _ _ _ _ n hI.a.b hD2 hI.m (by omega) (by omega) (by omega) rfl
  case stop =>
    intro cd pre V hSx hI hD
    exact hI.elim

theorem all_yes (n many : Int) (w : World) (hn : -9223372036854775808 ≤ n ∧ n ≤ 9223372036854775807) :
    Calls Try.prog 16 #[.int .i64 n, .int .i64 many] w fun e w' => e = .returned (.bool true) ∧ Below w.heap.size w w' := callsIn_wide.1 (all_in n many w hn)

theorem all_law (n many : Int) (w : World) (hn : -9223372036854775808 ≤ n ∧ n ≤ 9223372036854775807) (_ : -9223372036854775808 ≤ many ∧ many ≤ 9223372036854775807) :
    Calls Try.prog 5 #[.int .i64 n, .int .i64 many] w fun e w' => e = .returned (.bool true) ∧ Below w.heap.size w w' := by
  obtain ⟨k, hk⟩ : ∃ a, restN n 8 = a := ⟨_, rfl⟩
  have k8 : k < 8 := by rw [← hk]; exact restN_lt n 8 (by omega)
  have rn := fun W => rest6_any n 8 W (by omega) (by omega)
  rw [hk] at rn
  clear hk
  go_enter Try.func5, Try.ntmps5
  go_wp2_with fail
  refine (all_yes n many w hn).mono ?_
  rintro e w1 ⟨rfl, hb1⟩
  go_wp2_with fail
  refine (rn _).mono ?_
  rintro e w' ⟨rfl, rfl⟩
  go_wp2_with fail
  refine (all_yes ((k : Int) - 1) many w1 (by omega)).mono ?_
  rintro e w2 ⟨rfl, hb2⟩
  go_wp2
  go_ret
  exact ⟨rfl, hb1.trans (hb2.mono hb1.size)⟩

end Go.Proofs.Ytpmibcdmaaagjaa.Atoms

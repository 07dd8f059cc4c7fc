/-
  Contract of drachmref16.Next.
-/
import Derived.Test.YtlfpfijhimngmaaER
import Derived.Test.YtlfpfijhimngmaaEC
namespace Go.Proofs.Ytlfpfijhimngmaa.Edits
open Go.RowKit Go.Shelf
set_option linter.unusedVariables false
set_option linter.unusedSimpArgs false

set_option maxHeartbeats 1000000 in
theorem rnext_none (s : List UInt8) (o : Option Addr) (n cr : Nat) (c : UInt8) (w : World) (hl : s.length ≤ 1000) (hn : n ≠ s.length + 1) (hn1 : n ≤ 9223372036854775807) :
    Calls Try.prog 19 #[.string (bs s), .slice o n cr, .int .u8 (c.toNat : Int)] w fun e w' => e = .returned (.slice none 0 0) ∧ w = w' := by
  have hz : (bs s).size = s.length := bs_size s
  have hb : ((n : Int) != (s.length : Int) + 1) = true := by rw [bne_iff_ne]; omega
  go_enter Try.func19, Try.ntmps19
  go_wp2
  go_ret
  exact ⟨rfl, rfl⟩

theorem step_app {P : Program} {ops : Array Oper} {o : Oper} {a : Act} {w : World} {K : Act → World → Prop} {Q : Exit → Act → World → Prop} {E : Prop}
    (hg : o.guard = none) (s x : Operand) (t tx : TypeId) (ho : o.op = .call { callee := .builtin .append, args := #[s, x], argTypes := #[t, tx] }) {v : Value} {V : World}
    (hr : ∀ ty, (Builtin.append_ #[t, tx] ty #[a.eval s, a.eval x]).run P w = .ok v V) (hK : K (a.put o.dst v) V) :
    if Region.wanted o (yielded ops a.tmps) = true then Oper.wp P o a w K Q else E := by
  have hw : Region.wanted o (yielded ops a.tmps) = true := by simp [Region.wanted, hg]
  rw [if_pos hw]
  unfold Oper.wp execOp
  simp only [ho, resolve, invoke, builtin, Sem.run_bind, Sem.run_pure, Result.andThen_ok, List.map_toArray, List.map_cons, List.map_nil, hr]
  exact hK
theorem listF_succ (f : Nat → Int) (n : Nat) : listF f (n + 1) = listF f n ++ [f n] := by simp [listF, List.range_succ]

/-- A row is told. -/
def NVEnd (w : World) (l : List Int) (e : Ending) (w' : World) : Prop := ∃ v, e = .returned v ∧ NV w' v l ∧ Below w.heap.size w w'

set_option maxRecDepth 100000 in
set_option maxHeartbeats 2000000 in
theorem rnext_any (s : List UInt8) (c : UInt8) (br or cr : Nat) (f : Nat → Int) (w : World) (hl : s.length ≤ 200)
    (hr : Reads w br or (s.length + 1) f) (hf : ∀ j, j < s.length + 1 → 0 ≤ f j ∧ f j ≤ 100000000) :
    Calls Try.prog 19 #[.string (bs s), .slice (some ⟨br, or, none⟩) (s.length + 1) cr, .int .u8 (c.toNat : Int)] w fun e w' => NVEnd w (listF (fillF (fun i => s.getD i 0) f c) (s.length + 1)) e w' := by
  have hz : (bs s).size = s.length := bs_size s
  have h0 := hr 0 (by omega)
  rw [Nat.add_zero] at h0
  have hbr := hr.lt (by omega)
  have hf0 := hf 0 (by omega)
  have HR := Lib.hid hr
  have HF := Lib.hid hf
  have hv0 : Hid (fillF (fun i => s.getD i 0) f c 0 = f 0 + 1) := rfl
  have hst : Hid (GrowN w (.slice (some ⟨w.heap.size, 0, none⟩) 1 1) (listF (fillF (fun i => s.getD i 0) f c) 1) (w.alloc (.cells #[.int .i64 (f 0 + 1)] 3))) :=
    ⟨num_one w (f 0 + 1), fun a n c e => by injection e with e; injection e with e; subst e; exact Nat.le_refl _, (Below.refl _ _).alloc (Nat.le_refl _) _⟩
  clear hr hf
  generalize f 0 = x0 at *
  go_enter Try.func19, Try.ntmps19
  go_wp2
  go_loopw [7, 8] (fun y x wr => ∃ (i j : Nat) (o : Option Addr) (cc : Nat), y = .slice o i cc ∧ x = .int .i64 (i : Int) ∧ Hid (i = j + 1) ∧ i ≤ s.length + 1 ∧ GrowN w (.slice o i cc) (listF (fillF (fun i => s.getD i 0) f c) i) wr) (fun _ x _ => ((s.length : Int) + 1 - intOf x).toNat)
  case atStart => exact ⟨1, 0, _, _, rfl, rfl, rfl, by omega, hst.out⟩
  case round =>
    obtain ⟨i, j, o, cc, rfl, rfl, hij, hi, hG⟩ := hrel
    clear hst h0 hv0
    by_cases hil : i < s.length + 1
    · have hii : (i : Int) < (s.length : Int) + 1 := by omega
      have e1 : (i : Int) - 1 = (j : Int) := by have := hij.out; omega
      have e2 : IntKind.i64.wrap ((i : Int) - 1) = (j : Int) := by rw [e1, IntKind.wrap_i64]; omega
      have e3 : IntKind.i64.wrap (j : Int) = (j : Int) := by rw [IntKind.wrap_i64]; have := hij.out; omega
      have j1 : (j : Int) < (s.length : Int) + 1 := by have := hij.out; omega
      have j2 : j < s.length + 1 := by have := hij.out; omega
      have j3 : j < s.length := by have := hij.out; omega
      have j4 : (j : Int) < (s.length : Int) := by omega
      have j5 : j < i := by have := hij.out; omega
      have j6 : (j : Int) < (i : Int) := by omega
      have j7 : 0 ≤ (j : Int) := by omega
      have j8 : 0 ≤ (i : Int) := by omega
      have jb : j < (bs s).size := by omega
      have hby := bs_at s j jb
      have hRw := HR.out.go hG.below hbr
      have hc0 := hRw j (by omega)
      have hc1 := hRw i (by omega)
      obtain ⟨bo, rfl, hbo, hco⟩ : ∃ bo, o = some ⟨bo, 0, none⟩ ∧ w.heap.size ≤ bo ∧ wr.cell? ⟨bo, j, none⟩ = some (.int .i64 (fillF (fun i => s.getD i 0) f c j)) := by
        rcases hG.at_ with ⟨h0, _⟩ | ⟨b, c0, e, _, _, hg⟩
        · rw [listF_len] at h0; omega
        · injection e with e
          refine ⟨b, e, hG.above _ _ _ (by rw [e]), ?_⟩
          have := hg.1 j (by rw [listF_len]; omega) 0 (by omega)
          rw [Nat.mul_one, Nat.add_zero] at this
          rw [this]
          unfold cellN
          rw [listF_at _ _ _ j5]
      have hnv : min (min (f i + 1) (fillF (fun i => s.getD i 0) f c j + 1)) (f j + (off (s.getD j 0) c : Nat)) = fillF (fun i => s.getD i 0) f c i := by
        rw [hij.out]; rfl
      have v0 := fillF_low (fun i => s.getD i 0) f c 0 j (fun k hk => (HF.out k (by omega)).1)
      have v1 := fillF_high (fun i => s.getD i 0) f c j
      have f1 := HF.out i (by omega)
      have f0 := HF.out j (by omega)
      have hls := listF_succ (fillF (fun i => s.getD i 0) f c) i
      generalize fillF (fun i => s.getD i 0) f c i = nv at *
      generalize fillF (fun i => s.getD i 0) f c j = v at *
      generalize s.getD j 0 = ch at *
      generalize f i = x1 at *
      generalize f j = y0 at *
      have HLS := Lib.hid hls
      clear hls hRw
      have hne : ¬ bo = br := by omega
      cases hb : ((ch.toNat : Int) == (c.toNat : Int)) with
      | true =>
        have hd := off_eq ch c hb
        rw [hd] at hnv
        have hbn : ((ch.toNat : Int) != (c.toNat : Int)) = false := by rw [bne, hb]; rfl
        clear hb
        have hv : min y0 (min (x1 + 1) (v + 1)) = nv := by rw [← hnv]; omega
        obtain ⟨mm, hmm⟩ : ∃ mm, min (x1 + 1) (v + 1) = mm := ⟨_, rfl⟩
        have g1 : IntKind.i64.wrap (v + 1) = v + 1 := by rw [IntKind.wrap_i64]; omega
        have g2 : IntKind.i64.wrap (x1 + 1) = x1 + 1 := by rw [IntKind.wrap_i64]; omega
        have hvI : (if v + 1 < x1 + 1 then v + 1 else x1 + 1) = mm := (go_min _ _).trans hmm
        have hvI' : (if v < x1 then v + 1 else x1 + 1) = mm := by rw [← hmm]; split <;> omega
        have hvJ : (if mm < y0 then mm else y0) = nv := by rw [go_min, ← hv, ← hmm]
        clear hnv hd hv hmm
        obtain ⟨X, hX⟩ : ∃ X, (wr.alloc (.cells #[.int .i64 nv] 3)).drew = X := ⟨_, rfl⟩
        have hbX : Below wr.heap.size wr X := by rw [← hX]; exact ((Below.refl _ _).alloc (Nat.le_refl _) _).drew
        have hsX : SliceAt X (.slice (some ⟨wr.heap.size, 0, none⟩) 1 1) 1 1 (cellN [nv]) := by rw [← hX]; exact SliceAt.go (num_one wr nv) ((Below.refl _ _).drew)
        obtain ⟨V, o', c', hrun, hG2, hkeep⟩ := hG.more (by rw [listF_len]; omega) nv wr.heap.size hbX hsX
        have a1 : X.cell? ⟨br, or + i, none⟩ = some (.int .i64 x1) := (hbX.cell (p := ⟨br, or + i, none⟩) (cell_lt hc1)).trans hc1
        have a2 : X.cell? ⟨bo, j, none⟩ = some (.int .i64 v) := (hbX.cell (p := ⟨bo, j, none⟩) (cell_lt hco)).trans hco
        have b1 : V.cell? ⟨br, or + i, none⟩ = some (.int .i64 x1) := hkeep _ _ _ a1 (fun a e e2 => by injection e with e; subst e; exact absurd e2 (by omega))
        have b2 : V.cell? ⟨bo, j, none⟩ = some (.int .i64 v) := hkeep _ _ _ a2 (fun a e e2 => by omega)
        have hS0 : wr.cell? ⟨br, or + i, none⟩ = some (.int .i64 x1) ∧ wr.cell? ⟨bo, j, none⟩ = some (.int .i64 v) := ⟨hc1, hco⟩
        have hS1 : wr.drew.cell? ⟨br, or + i, none⟩ = some (.int .i64 x1) ∧ wr.drew.cell? ⟨bo, j, none⟩ = some (.int .i64 v) := ⟨hc1, hco⟩
        have hS2 : X.cell? ⟨br, or + i, none⟩ = some (.int .i64 x1) ∧ X.cell? ⟨bo, j, none⟩ = some (.int .i64 v) := ⟨a1, a2⟩
        have hS3 : V.cell? ⟨br, or + i, none⟩ = some (.int .i64 x1) ∧ V.cell? ⟨bo, j, none⟩ = some (.int .i64 v) := ⟨b1, b2⟩
        have HG2 := Lib.hid hG2
        clear hkeep hbX hsX hG hG2 a1 a2 b1 b2
        go_upto_region 10 with fail
        go_region_held3 (fun v' => v'.cell? ⟨br, or + i, none⟩ = some (.int .i64 x1) ∧ v'.cell? ⟨bo, j, none⟩ = some (.int .i64 v))
          (first | (with_reducible exact hS0) | (with_reducible exact hS1) | (with_reducible exact hS2) | (with_reducible exact hS3))
          (first | (refine step_app rfl (Operand.tmp 40) (Operand.tmp 55) 28 28 rfl (v := Value.slice o' (i + 1) c') (V := V) ?_ ?_; · exact hrun))
        clear hS0 hS1 hS2 hS3 hrun
        have HG3 : Hid (GrowN w (.slice o' (i + 1) c') (listF (fillF (fun i => s.getD i 0) f c) (i + 1)) V) := by show GrowN _ _ _ _; rw [HLS.out]; exact HG2.out
        clear HG2 HLS
        go_wp2
        go_roundw
        case rel => exact ⟨i + 1, i, o', c', rfl, rfl, rfl, by omega, HG3.out⟩
        case measure => simp only [intOf]; omega
      | false =>
        have hd := off_ne ch c hb
        rw [hd] at hnv
        have hbn : ((ch.toNat : Int) != (c.toNat : Int)) = true := by rw [bne, hb]; rfl
        clear hb
        have hv : min (y0 + 1) (min (x1 + 1) (v + 1)) = nv := by rw [← hnv]; omega
        obtain ⟨mm, hmm⟩ : ∃ mm, min (x1 + 1) (v + 1) = mm := ⟨_, rfl⟩
        have g1 : IntKind.i64.wrap (v + 1) = v + 1 := by rw [IntKind.wrap_i64]; omega
        have g2 : IntKind.i64.wrap (x1 + 1) = x1 + 1 := by rw [IntKind.wrap_i64]; omega
        have hvI : (if v + 1 < x1 + 1 then v + 1 else x1 + 1) = mm := (go_min _ _).trans hmm
        have hvI' : (if v < x1 then v + 1 else x1 + 1) = mm := by rw [← hmm]; split <;> omega
        have hvJ : (if mm < (y0 + 1) then mm else (y0 + 1)) = nv := by rw [go_min, ← hv, ← hmm]
        have hvJ' : (if mm ≤ y0 then mm else (y0 + 1)) = nv := by rw [← hv, hmm]; split <;> omega
        clear hnv hd hv hmm
        obtain ⟨X, hX⟩ : ∃ X, (wr.alloc (.cells #[.int .i64 nv] 3)).drew = X := ⟨_, rfl⟩
        have hbX : Below wr.heap.size wr X := by rw [← hX]; exact ((Below.refl _ _).alloc (Nat.le_refl _) _).drew
        have hsX : SliceAt X (.slice (some ⟨wr.heap.size, 0, none⟩) 1 1) 1 1 (cellN [nv]) := by rw [← hX]; exact SliceAt.go (num_one wr nv) ((Below.refl _ _).drew)
        obtain ⟨V, o', c', hrun, hG2, hkeep⟩ := hG.more (by rw [listF_len]; omega) nv wr.heap.size hbX hsX
        have a1 : X.cell? ⟨br, or + i, none⟩ = some (.int .i64 x1) := (hbX.cell (p := ⟨br, or + i, none⟩) (cell_lt hc1)).trans hc1
        have a2 : X.cell? ⟨bo, j, none⟩ = some (.int .i64 v) := (hbX.cell (p := ⟨bo, j, none⟩) (cell_lt hco)).trans hco
        have b1 : V.cell? ⟨br, or + i, none⟩ = some (.int .i64 x1) := hkeep _ _ _ a1 (fun a e e2 => by injection e with e; subst e; exact absurd e2 (by omega))
        have b2 : V.cell? ⟨bo, j, none⟩ = some (.int .i64 v) := hkeep _ _ _ a2 (fun a e e2 => by omega)
        have hS0 : wr.cell? ⟨br, or + i, none⟩ = some (.int .i64 x1) ∧ wr.cell? ⟨bo, j, none⟩ = some (.int .i64 v) := ⟨hc1, hco⟩
        have hS1 : wr.drew.cell? ⟨br, or + i, none⟩ = some (.int .i64 x1) ∧ wr.drew.cell? ⟨bo, j, none⟩ = some (.int .i64 v) := ⟨hc1, hco⟩
        have hS2 : X.cell? ⟨br, or + i, none⟩ = some (.int .i64 x1) ∧ X.cell? ⟨bo, j, none⟩ = some (.int .i64 v) := ⟨a1, a2⟩
        have hS3 : V.cell? ⟨br, or + i, none⟩ = some (.int .i64 x1) ∧ V.cell? ⟨bo, j, none⟩ = some (.int .i64 v) := ⟨b1, b2⟩
        have HG2 := Lib.hid hG2
        clear hkeep hbX hsX hG hG2 a1 a2 b1 b2
        go_upto_region 10 with fail
        go_region_held3 (fun v' => v'.cell? ⟨br, or + i, none⟩ = some (.int .i64 x1) ∧ v'.cell? ⟨bo, j, none⟩ = some (.int .i64 v))
          (first | (with_reducible exact hS0) | (with_reducible exact hS1) | (with_reducible exact hS2) | (with_reducible exact hS3))
          (first | (refine step_app rfl (Operand.tmp 40) (Operand.tmp 55) 28 28 rfl (v := Value.slice o' (i + 1) c') (V := V) ?_ ?_; · exact hrun))
        clear hS0 hS1 hS2 hS3 hrun
        have HG3 : Hid (GrowN w (.slice o' (i + 1) c') (listF (fillF (fun i => s.getD i 0) f c) (i + 1)) V) := by show GrowN _ _ _ _; rw [HLS.out]; exact HG2.out
        clear HG2 HLS
        go_wp2
        go_roundw
        case rel => exact ⟨i + 1, i, o', c', rfl, rfl, rfl, by omega, HG3.out⟩
        case measure => simp only [intOf]; omega
    · have hii : ¬ (i : Int) < (s.length : Int) + 1 := by omega
      have hie : i = s.length + 1 := by omega
      rw [hie] at hG
      have HE : Hid (NV wr (.slice o (s.length + 1) cc) (listF (fillF (fun i => s.getD i 0) f c) (s.length + 1)) ∧ Below w.heap.size w wr) := ⟨hG.at_.view, hG.below⟩
      clear hG
      subst hie
      go_wp2
      go_ret
      exact ⟨_, rfl, HE.out⟩

end Go.Proofs.Ytlfpfijhimngmaa.Edits

/-
  Contract of edit.fill.
-/
import Derived.Test.YtlfpfijhimngmaaEA
namespace Go.Proofs.Ytlfpfijhimngmaa.Edits
open Go.RowKit
set_option linter.unusedVariables false
set_option linter.unusedSimpArgs false

theorem off_eq (x c : UInt8) (h : ((x.toNat : Int) == (c.toNat : Int)) = true) : ((off x c : Nat) : Int) = 0 := by
  have h1 : (x.toNat : Int) = (c.toNat : Int) := by simpa using h
  have : x = c := UInt8.toNat_inj.mp (by omega)
  simp [off, this]
theorem off_ne (x c : UInt8) (h : ((x.toNat : Int) == (c.toNat : Int)) = false) : ((off x c : Nat) : Int) = 1 := by
  have : x ≠ c := by rintro rfl; simp at h
  simp [off, this]

set_option maxHeartbeats 1000000 in
theorem changed_any (s : List UInt8) (c : UInt8) (i b0 b1 : Nat) (w : World) (hi : i < s.length) (hl : s.length ≤ 1000) (h0 : w.cell? ⟨b0, 0, none⟩ = some (.string (bs s))) (h1 : w.cell? ⟨b1, 0, none⟩ = some (.int .u8 (c.toNat : Int))) :
    Calls Try.prog 22 #[.int .i64 (i : Int), .pointer (some ⟨b0, 0, none⟩), .pointer (some ⟨b1, 0, none⟩)] w fun e w' => e = .returned (.int .i64 ((off (s.getD i 0) c : Nat) : Int)) ∧ Below w.heap.size w w' := by
  have hz : (bs s).size = s.length := bs_size s
  have hib : i < (bs s).size := by omega
  have hx := bs_at s i hib
  generalize s.getD i 0 = x at *
  cases hb : ((x.toNat : Int) == (c.toNat : Int)) with
  | true =>
    rw [off_eq x c hb]
    go_enter Try.func22, Try.ntmps22
    go_wp2
    go_quiet (fail)
    go_wp2
    go_ret
    exact ⟨rfl, below_drewN (Below.refl _ _) _⟩
  | false =>
    rw [off_ne x c hb]
    go_enter Try.func22, Try.ntmps22
    go_wp2
    go_quiet (fail)
    go_wp2
    go_ret
    exact ⟨rfl, below_drewN (Below.refl _ _) _⟩

/-- From the world w on the m cells of the block b from o on have become the numbers v. -/
structure Fill (w : World) (b o m : Nat) (v : Nat → Int) (w' : World) : Prop where
  os : w'.os = w.os
  tape : w'.tape = w.tape
  output : w'.output = w.output
  size : w.heap.size ≤ w'.heap.size
  block : ∀ k, k < w.heap.size → k ≠ b → w'.heap[k]? = w.heap[k]?
  lt : b < w.heap.size
  inn : ∀ j, j < m → w'.cell? ⟨b, o + j, none⟩ = some (.int .i64 (v j))
  out : ∀ j, j < o ∨ o + m ≤ j → w'.cell? ⟨b, j, none⟩ = w.cell? ⟨b, j, none⟩
  ice : ∀ j, w'.frozen? ⟨b, j, none⟩ = w.frozen? ⟨b, j, none⟩
theorem Fill.start (w : World) (b o : Nat) (v : Nat → Int) (h : b < w.heap.size) : Fill w b o 0 v w :=
  ⟨rfl, rfl, rfl, Nat.le_refl _, fun _ _ _ => rfl, h, fun j hj => absurd hj (Nat.not_lt_zero j), fun _ _ => rfl, fun _ => rfl⟩
theorem Fill.go {w W V : World} {b o m : Nat} {v : Nat → Int} (h : Fill w b o m v W) (hb : Below W.heap.size W V) : Fill w b o m v V := by
  have hlt : b < W.heap.size := by have := h.lt; have := h.size; omega
  have hbl := hb.block b hlt
  refine ⟨hb.os.trans h.os, hb.tape.trans h.tape, hb.output.trans h.output, Nat.le_trans h.size hb.size, fun k hk hn => ?_, h.lt, fun j hj => ?_, fun j hj => ?_, fun j => ?_⟩
  · exact (hb.block k (by have := h.size; omega)).trans (h.block k hk hn)
  · exact (World.cell?_of_block (a := ⟨b, o + j, none⟩) hbl).trans (h.inn j hj)
  · exact (World.cell?_of_block (a := ⟨b, j, none⟩) hbl).trans (h.out j hj)
  · exact (frozen_of_block hbl j).trans (h.ice j)
theorem Fill.put {w W : World} {b o m : Nat} {v : Nat → Int} (h : Fill w b o m v W) (hs : (w.cell? ⟨b, o + m, none⟩).isSome = true) (x : Int) (hx : v m = x) : Fill w b o (m + 1) v (W.setCell ⟨b, o + m, none⟩ (.int .i64 x)) := by
  subst hx
  obtain ⟨y, hy⟩ := Option.isSome_iff_exists.1 hs
  rw [← h.out (o + m) (.inr (Nat.le_refl _))] at hy
  refine ⟨h.os, h.tape, h.output, by rw [World.size_setCell]; exact h.size, fun k hk hn => ?_, h.lt, fun j hj => ?_, fun j hj => ?_, fun j => ?_⟩
  · exact (Below.heap_setCell W ⟨b, o + m, none⟩ (.int .i64 (v m)) k hn).trans (h.block k hk hn)
  · by_cases e : j = m
    · subst e; exact World.cell?_setCell_same _ _ _ hy
    · rw [World.cell?_setCell_other _ _ _ _ (by intro hh; injection hh with e1 e2; exact e (by omega))]
      exact h.inn j (by omega)
  · rw [World.cell?_setCell_other _ _ _ _ (by intro hh; injection hh with e1 e2; omega)]
    exact h.out j (by omega)
  · rw [World.frozen?_setCell]; exact h.ice j
theorem Fill.ext {w W : World} {b o m : Nat} {v v' : Nat → Int} (h : Fill w b o m v W) (e : ∀ j, j < m → v j = v' j) : Fill w b o m v' W :=
  ⟨h.os, h.tape, h.output, h.size, h.block, h.lt, fun j hj => by rw [h.inn j hj, e j hj], h.out, h.ice⟩
theorem Fill.below {w W : World} {b o m : Nat} {v : Nat → Int} (h : Fill w b o m v W) {B : Nat} (hB : B ≤ b) : Below B w W :=
  ⟨h.os, h.tape, h.output, h.size, fun k hk => h.block k (by have := h.lt; omega) (by omega)⟩
theorem Fill.reads {w W : World} {b o m br or n : Nat} {v f : Nat → Int} (h : Fill w b o m v W) (hr : Reads w br or n f) (hn : 0 < n) (hne : br ≠ b) : Reads W br or n f :=
  hr.block (h.block br (hr.lt hn) hne)

theorem least3 (x y z : Int) (W : World) (b : Nat) (h0 : W.cell? ⟨b, 0, none⟩ = some (.int .i64 x)) (h1 : W.cell? ⟨b, 1, none⟩ = some (.int .i64 y)) (h2 : W.cell? ⟨b, 2, none⟩ = some (.int .i64 z)) :
    Calls Try.prog 21 #[.slice (some ⟨b, 0, none⟩) 3 3] W fun e w' => e = .returned (.int .i64 (min (min x y) z)) ∧ W = w' := by
  have h : Reads W b 0 (2 + 1) (fun j => if j = 0 then x else if j = 1 then y else z) := by
    intro j hj
    have : j = 0 ∨ j = 1 ∨ j = 2 := by omega
    rcases this with rfl | rfl | rfl
    · exact h0
    · exact h1
    · exact h2
  exact least_any b 0 2 3 _ W h (by omega) (by omega) (by omega)
theorem least3_any (x y z : Int) (W : World) : Calls Try.prog 21 #[.slice (some ⟨W.heap.size, 0, none⟩) 3 3] (W.alloc (.cells #[.int .i64 x, .int .i64 y, .int .i64 z] 3)) fun e w' => e = .returned (.int .i64 (min (min x y) z)) ∧ Below W.heap.size W w' :=
  (least3 x y z _ _ (by simp [go_sem]) (by simp [go_sem]) (by simp [go_sem])).mono fun e w' ⟨h1, h2⟩ => ⟨h1, by rw [← h2]; go_grown⟩
theorem least3d_any (x y z : Int) (W : World) : Calls Try.prog 21 #[.slice (some ⟨W.heap.size, 0, none⟩) 3 3] (W.alloc (.cells #[.int .i64 x, .int .i64 y, .int .i64 z] 3)).drew fun e w' => e = .returned (.int .i64 (min (min x y) z)) ∧ Below W.heap.size W w' :=
  (least3 x y z _ _ (by simp [go_sem]) (by simp [go_sem]) (by simp [go_sem])).mono fun e w' ⟨h1, h2⟩ => ⟨h1, by rw [← h2]; go_grown⟩

/-- While a row is filled: the boxes of the text and the byte stand. -/
structure FillI (w : World) (s : List UInt8) (c : UInt8) (b o m : Nat) (v : Nat → Int) (W : World) : Prop where
  fill : Fill w b o m v W
  c0 : W.cell? ⟨w.heap.size, 0, none⟩ = some (.string (bs s))
  c1 : W.cell? ⟨w.heap.size + 1, 0, none⟩ = some (.int .u8 (c.toNat : Int))
theorem FillI.go {w W V : World} {s : List UInt8} {c : UInt8} {b o m : Nat} {v : Nat → Int} (h : FillI w s c b o m v W) (hb : Below W.heap.size W V) : FillI w s c b o m v V :=
  ⟨h.fill.go hb, (hb.cell (p := ⟨w.heap.size, 0, none⟩) (cell_lt h.c0)).trans h.c0, (hb.cell (p := ⟨w.heap.size + 1, 0, none⟩) (cell_lt h.c1)).trans h.c1⟩
theorem FillI.put {w W : World} {s : List UInt8} {c : UInt8} {b o m : Nat} {v : Nat → Int} (h : FillI w s c b o m v W) (hs : (w.cell? ⟨b, o + m, none⟩).isSome = true) (x : Int) (hx : v m = x) : FillI w s c b o (m + 1) v (W.setCell ⟨b, o + m, none⟩ (.int .i64 x)) := by
  have hlt := h.fill.lt
  refine ⟨h.fill.put hs x hx, ?_, ?_⟩
  · rw [World.cell?_setCell_other _ _ _ _ (by intro hh; injection hh with e1 e2; omega)]; exact h.c0
  · rw [World.cell?_setCell_other _ _ _ _ (by intro hh; injection hh with e1 e2; omega)]; exact h.c1

set_option maxRecDepth 100000 in
set_option maxHeartbeats 2000000 in
theorem fill_any (s : List UInt8) (c : UInt8) (bn on cn br or cr : Nat) (f : Nat → Int) (w : World) (hl : s.length ≤ 1000)
    (hr : Reads w br or (s.length + 1) f) (hne : br ≠ bn) (hbn : bn < w.heap.size) (hsome : ∀ j, j < s.length + 1 → (w.cell? ⟨bn, on + j, none⟩).isSome = true) (hice : ∀ j, w.frozen? ⟨bn, j, none⟩ = false)
    (hf : ∀ j, j < s.length + 1 → 0 ≤ f j ∧ f j ≤ 100000000) :
    Calls Try.prog 20 #[.slice (some ⟨bn, on, none⟩) (s.length + 1) cn, .slice (some ⟨br, or, none⟩) (s.length + 1) cr, .string (bs s), .int .u8 (c.toNat : Int)] w fun e w' => e = .returned (.tuple #[]) ∧ Fill w bn on (s.length + 1) (fillF (fun i => s.getD i 0) f c) w' := by
  have hz : (bs s).size = s.length := bs_size s
  obtain ⟨W, hW⟩ : ∃ W, (w.alloc (.cells #[.string (bs s)] 9)).alloc (.cells #[.int .u8 (c.toNat : Int)] 5) = W := ⟨_, rfl⟩
  have hBW : Below w.heap.size w W := by rw [← hW]; go_grown
  have hF0 : FillI w s c bn on 0 (fillF (fun i => s.getD i 0) f c) W := ⟨(Fill.start w bn on _ hbn).go hBW, by rw [← hW]; simp [go_sem], by rw [← hW]; simp [go_sem]⟩
  have hcr0 := (hF0.fill.reads hr (by omega) hne) 0 (by omega)
  have hs0 := hsome 0 (by omega)
  have hF1 := hF0.put hs0 (f 0 + 1) rfl
  have hi0 := (hF0.fill.ice on).trans (hice on)
  obtain ⟨y0, hy0⟩ := Option.isSome_iff_exists.1 hs0
  rw [← hF0.fill.out (on + 0) (.inr (Nat.le_refl _))] at hy0
  rw [Nat.add_zero] at hcr0 hy0 hF1
  have hmo := more_any (f 0) 1 W (hf 0 (by omega)).1 (by have := (hf 0 (by omega)).2; omega) (by decide) (by decide)
  obtain ⟨W1, hW1⟩ : ∃ W1, W.setCell ⟨bn, on, none⟩ (.int .i64 (f 0 + 1)) = W1 := ⟨_, rfl⟩
  rw [Nat.add_zero, hW1] at hF1
  have hb0 := hF1.c0
  have HF1 := Lib.hid hF1
  have HR := Lib.hid hr
  have HSM := Lib.hid hsome
  have HICE := Lib.hid hice
  have HFB := Lib.hid hf
  clear hF0 hF1 hr hsome hice hf hs0 hBW
  go_enter Try.func20, Try.ntmps20
  go_wp2_with fail
  refine hmo.mono ?_
  rintro e w1 ⟨rfl, rfl⟩
  go_wp2
  clear hb0 hW hW1 hcr0 hi0 hy0 hmo
  go_loopw [19] (fun x wr => ∃ k : Nat, x = .int .i64 (k : Int) ∧ k ≤ s.length ∧ FillI w s c bn on (k + 1) (fillF (fun i => s.getD i 0) f c) wr) (fun x _ => ((s.length : Int) - intOf x).toNat)
  case atStart => exact ⟨0, rfl, by omega, HF1.out⟩
  case round =>
    obtain ⟨k, rfl, hk, hI⟩ := hrel
    by_cases hkl : k < s.length
    · have hki : (k : Int) < (s.length : Int) := by omega
      have hR := hI.fill.reads HR.out (by omega) hne
      have hr1 := hR (k + 1) (by omega)
      have hr0 := hR k (by omega)
      have hn0 := hI.fill.inn k (by omega)
      have hb0 := hI.c0
      have hb1 := hI.c1
      have hch := changed_any s c k w.heap.size (w.heap.size + 1) wr hkl hl hb0 hb1
      have hoff : off (s.getD k 0) c ≤ 1 := by unfold off; split <;> omega
      have hv : fillF (fun i => s.getD i 0) f c (k + 1) = min (min (f (k + 1) + 1) (fillF (fun i => s.getD i 0) f c k + 1)) (f k + (off (s.getD k 0) c : Nat)) := rfl
      have v0 := fillF_low (fun i => s.getD i 0) f c 0 k (fun j hj => (HFB.out j (by omega)).1)
      have v1 := fillF_high (fun i => s.getD i 0) f c k
      have f1 := HFB.out (k + 1) (by omega)
      have f0 := HFB.out k (by omega)
      have hI2 := fun (W : World) (hb : Below wr.heap.size wr W) => (hI.go hb).put (HSM.out (k + 1) (by omega)) _ hv
      have hic := (hI.fill.ice (on + (k + 1))).trans (HICE.out _)
      obtain ⟨y0, hy0⟩ := Option.isSome_iff_exists.1 (HSM.out (k + 1) (by omega))
      rw [← hI.fill.out (on + (k + 1)) (.inr (by omega))] at hy0
      generalize fillF (fun i => s.getD i 0) f c k = v at *
      generalize hoI : ((off (s.getD k 0) c : Nat) : Int) = d at *
      have d0 : 0 ≤ d ∧ d ≤ 1 := by omega
      generalize f (k + 1) = x1 at *
      generalize f k = x0 at *
      have hm1 := fun (W : World) => more_any x1 1 W (by omega) (by omega) (by decide) (by decide)
      have hm2 := fun (W : World) => more_any v 1 W (by omega) (by omega) (by decide) (by decide)
      have hm3 := fun (W : World) => more_any x0 d W (by omega) (by omega) (by omega) (by omega)
      have hls := fun (W : World) => least3_any (x1 + 1) (v + 1) (x0 + d) W
      have hlsd := fun (W : World) => least3d_any (x1 + 1) (v + 1) (x0 + d) W
      have HI2 := Lib.hid hI2
      have h3 : ∀ W : World, Below wr.heap.size wr W → W.cell? ⟨br, or + (k + 1), none⟩ = some (.int .i64 x1) ∧ W.cell? ⟨bn, on + k, none⟩ = some (.int .i64 v) ∧ W.cell? ⟨br, or + k, none⟩ = some (.int .i64 x0) := fun W hW =>
        ⟨(hW.cell (p := ⟨br, or + (k + 1), none⟩) (cell_lt hr1)).trans hr1, (hW.cell (p := ⟨bn, on + k, none⟩) (cell_lt hn0)).trans hn0, (hW.cell (p := ⟨br, or + k, none⟩) (cell_lt hr0)).trans hr0⟩
      have h3s : ∀ (W : World) (u : Value), Below wr.heap.size wr W → (W.setCell ⟨bn, on + (k + 1), none⟩ u).cell? ⟨br, or + (k + 1), none⟩ = some (.int .i64 x1) ∧ (W.setCell ⟨bn, on + (k + 1), none⟩ u).cell? ⟨bn, on + k, none⟩ = some (.int .i64 v) ∧ (W.setCell ⟨bn, on + (k + 1), none⟩ u).cell? ⟨br, or + k, none⟩ = some (.int .i64 x0) := fun W u hW =>
        ⟨(World.cell?_setCell_other _ _ _ _ (by intro hh; injection hh with e1 e2; omega)).trans (h3 W hW).1, (World.cell?_setCell_other _ _ _ _ (by intro hh; injection hh with e1 e2; omega)).trans (h3 W hW).2.1, (World.cell?_setCell_other _ _ _ _ (by intro hh; injection hh with e1 e2; omega)).trans (h3 W hW).2.2⟩
      have hchW : ∀ W : World, Below wr.heap.size wr W → Calls Try.prog 22 #[.int .i64 (k : Int), .pointer (some ⟨w.heap.size, 0, none⟩), .pointer (some ⟨w.heap.size + 1, 0, none⟩)] W fun e w' => e = .returned (.int .i64 d) ∧ Below W.heap.size W w' := fun W hW => by
        have := changed_any s c k w.heap.size (w.heap.size + 1) W hkl hl ((hW.cell (p := ⟨w.heap.size, 0, none⟩) (cell_lt hb0)).trans hb0) ((hW.cell (p := ⟨w.heap.size + 1, 0, none⟩) (cell_lt hb1)).trans hb1)
        rw [hoI] at this; exact this
      have hA : Below wr.heap.size wr wr := Below.refl _ _
      have hst0 : ∀ W : World, Below wr.heap.size wr W → W.cell? ⟨bn, on + (k + 1), none⟩ = some y0 := fun W hW => (hW.cell (p := ⟨bn, on + (k + 1), none⟩) (cell_lt hy0)).trans hy0
      have hfr0 : ∀ W : World, Below wr.heap.size wr W → W.frozen? ⟨bn, on + (k + 1), none⟩ = false := fun W hW => (frozen_of_block (hW.block bn (cell_lt hy0)) _).trans hic
      have HST := Lib.hid hst0
      have HFR := Lib.hid hfr0
      clear hst0 hfr0 hy0 hic
      have H3 := Lib.hid h3
      have H3S := Lib.hid h3s
      have HC := Lib.hid hchW
      clear hI2 hI hR hoI hv hoff h3 h3s hchW hch
      have hx1 : (k : Int) + 1 < (s.length : Int) + 1 := by omega
      have hx2 : (k : Int) < (s.length : Int) + 1 := by omega
      have hx3 : 0 ≤ (k : Int) + 1 := by omega
      have hx4 : 0 ≤ (k : Int) := by omega
      have hx5 : k + 1 < s.length + 1 := by omega
      have hx6 : k < s.length + 1 := by omega
      have hx7 : IntKind.i64.wrap ((k : Int) + 1) = (k : Int) + 1 := by rw [IntKind.wrap_i64]; omega
      go_upto_region 6 with fail
      go_region_held3 (fun v' => v'.cell? ⟨br, or + (k + 1), none⟩ = some (.int .i64 x1) ∧ v'.cell? ⟨bn, on + k, none⟩ = some (.int .i64 v) ∧ v'.cell? ⟨br, or + k, none⟩ = some (.int .i64 x0))
        (first | (with_reducible exact H3.out _ hA) | (with_reducible exact H3.out _ hA.drew) | (with_reducible exact H3.out _ (hA.alloc hA.size _)) | (with_reducible exact H3.out _ (hA.alloc hA.size _).drew) | (with_reducible exact H3.out _ (hA.drew.alloc hA.size _)) | (with_reducible exact H3.out _ (hA.drew.alloc hA.size _).drew) | (with_reducible exact H3S.out _ _ hA) | (with_reducible exact H3S.out _ _ hA.drew) | (with_reducible exact H3S.out _ _ (hA.alloc hA.size _)) | (with_reducible exact H3S.out _ _ (hA.alloc hA.size _).drew) | (with_reducible exact H3S.out _ _ (hA.drew.alloc hA.size _)) | (with_reducible exact H3S.out _ _ (hA.drew.alloc hA.size _).drew))
        (first
          | (go_at_call 22; (first | (refine (HC.out _ hA).mono ?_; rintro e w' ⟨rfl, hb⟩; (replace hA := hA.trans (hb.mono hA.size)); clear hb) | (refine (HC.out _ hA.drew).mono ?_; rintro e w' ⟨rfl, hb⟩; (replace hA := hA.drew.trans (hb.mono hA.size)); clear hb)))
          | (go_at_call_of 23 (Value.int .i64 x1); refine (hm1 _).mono ?_; rintro e w' ⟨rfl, rfl⟩)
          | (go_at_call_of 23 (Value.int .i64 v); refine (hm2 _).mono ?_; rintro e w' ⟨rfl, rfl⟩)
          | (go_at_call_of 23 (Value.int .i64 x0); refine (hm3 _).mono ?_; rintro e w' ⟨rfl, rfl⟩)
          | (go_at_call 21; (first | (refine (hls _).mono ?_; rintro e w' ⟨rfl, hb⟩) | (refine (hlsd _).mono ?_; rintro e w' ⟨rfl, hb⟩)); (first | (replace hA := hA.trans (hb.mono hA.size)) | (replace hA := hA.drew.trans (hb.mono hA.size))); clear hb; have hst := HST.out _ hA; have hfr := HFR.out _ hA))
      have hfin := HI2.out w' hA
      rw [show min (min (x1 + 1) (v + 1)) (x0 + d) = min (min x1 v + 1) (x0 + d) from by omega] at hfin
      have HFIN := Lib.hid hfin
      clear hfin HI2 hst hfr hA
      go_wp2
      go_roundw
      case rel => exact ⟨k + 1, rfl, by omega, HFIN.out⟩
      case measure => simp only [intOf]; omega
    · have hki : ¬ (k : Int) < (s.length : Int) := by omega
      have hke : k = s.length := by omega
      subst hke
      have HF := Lib.hid hI.fill
      clear hI
      go_wp2
      refine bodyPost_end (results_none rfl _ _ _) rfl ?_
      exact ⟨rfl, HF.out⟩

end Go.Proofs.Ytlfpfijhimngmaa.Edits

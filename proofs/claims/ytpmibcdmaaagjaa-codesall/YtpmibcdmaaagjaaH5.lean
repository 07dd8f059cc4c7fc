/-
  Contracts of codes.codeAt and codes.placeOf: what is found among what is told.
-/
import Derived.Test.YtpmibcdmaaagjaaH4
import Derived.Stop.RegionWithIn
import Derived.Shelf.Abstract
namespace Go.Proofs.Ytpmibcdmaaagjaa.Atoms
open Go.RowKit Go.Shelf Go.Proofs.Ytpmibcdmaaagjaa.Ranges
attribute [local go_sem] Oper.semAt_some
set_option linter.unusedVariables false
set_option linter.unusedSimpArgs false

/-- Two boxes at w's end. -/
structure BoxI (w : World) (p r : Value) (W : World) : Prop where
  bx : W.cell? ⟨w.heap.size, 0, none⟩ = some p
  rs : W.cell? ⟨w.heap.size + 1, 0, none⟩ = some r
  th : W.frozen? ⟨w.heap.size + 1, 0, none⟩ = false
  below : Below w.heap.size w W
  size : w.heap.size + 2 ≤ W.heap.size
theorem BoxI.go {w : World} {p r : Value} {W W' : World} (h : BoxI w p r W) (hb : Below (w.heap.size + 2) W W') : BoxI w p r W' := by
  have hz := hb.size
  have hs := h.size
  exact ⟨(hb.cell (p := ⟨w.heap.size, 0, none⟩) (show w.heap.size < w.heap.size + 2 by omega)).trans h.bx, (hb.cell (p := ⟨w.heap.size + 1, 0, none⟩) (show w.heap.size + 1 < w.heap.size + 2 by omega)).trans h.rs, (hb.frozen (p := ⟨w.heap.size + 1, 0, none⟩) (show w.heap.size + 1 < w.heap.size + 2 by omega)).trans h.th, h.below.trans (hb.mono (by omega)), by omega⟩
theorem BoxI.set {w : World} {p r : Value} {W : World} (h : BoxI w p r W) (u : Value) : BoxI w p u (W.setCell ⟨w.heap.size + 1, 0, none⟩ u) := by
  refine ⟨?_, World.cell?_setCell_same _ _ _ h.rs, by rw [World.frozen?_setCell]; exact h.th, h.below.setCell (p := ⟨w.heap.size + 1, 0, none⟩) (show w.heap.size ≤ w.heap.size + 1 by omega) _, by rw [World.size_setCell]; exact h.size⟩
  rw [World.cell?_setCell_other _ _ _ _ (by intro hh; injection hh with e1 e2; omega)]
  exact h.bx
theorem seq_later {α : Type} {F : Fence} {n : Nat} {P : Program} {g : Nat} {lb : Array Value} {encs : α → Array Value} {G : List α → α → World → Prop} {Kp : World → World → Prop} {S Sp : List α → Prop} {w w' : World} (h : Seq F n P g lb encs G Kp S Sp w) (hb : Below w.heap.size w w') : Seq F n P g lb encs G Kp S Sp w' :=
  fun l J Jx W hW => h l J Jx W (hb.trans (hW.mono hb.size))
theorem keeps_cell (W : World) (b i B : Nat) (u : Value) (hb : b < B) : KeepsFrom B W (W.setCell ⟨b, i, none⟩ u) :=
  ⟨by rw [World.size_setCell]; exact Nat.le_refl _, fun k o hB hk _ => (Below.heap_setCell W ⟨b, i, none⟩ u k (by show k ≠ b; omega)).trans hk⟩

theorem codeL_no {l : List (Nat × List UInt8)} {p : Int} (h : ∀ x ∈ l, (x.1 : Int) ≠ p) : codeL l p = [] := by
  have := codeL_append l [] p h
  rw [List.append_nil] at this
  exact this
theorem placeL_no {l : List (Nat × List UInt8)} {c : List UInt8} (h : ∀ x ∈ l, x.2 ≠ c) : placeL l c = -1 := by
  have := placeL_append l [] c h
  rw [List.append_nil] at this
  exact this
/-- The place of the first that is told with it. -/
theorem placeL_first {cs : List C5} {n : Int} {k : Nat} {c : List UInt8} (hk : k < cs.length) (hc : codeI cs n k = c) (hne : c ≠ []) (h : ∀ x ∈ toldTo cs n k, x.2 ≠ c) : placeL (told cs n) c = (k : Int) := by
  obtain ⟨r, hr, _⟩ := toldTo_split cs n (show k + 1 ≤ cs.length by omega)
  unfold told
  rw [hr, toldTo_some (by rw [hc]; exact hne), List.append_assoc, placeL_append _ _ _ h, hc]
  show (if c = c then (k : Int) else _) = _
  rw [if_pos rfl]

/-- The return, behind the rounds' mark. -/
theorem codeAt_finish (w W : World) (tmps : Array Value) (D : Nat) (p : Value) (r r' : List UInt8) (hv : Hid (r' = r)) (hB : BoxI w p (.string (bs r)) W) (hD : W.heap[D]? = some (.deferred (some []))) (hD1 : w.heap.size + 2 ≤ D) (ht : tmps[4]? = some (.pointer (some ⟨w.heap.size + 1, 0, none⟩))) :
    LeavesInM Fence.wide 9 Try.prog Try.f20 tmps (fun e w' => e = .returned (.string (bs r')) ∧ Below w.heap.size w w') [{ target := .collected D, args := #[] }] .returning W := by
  refine ⟨by simp, .inl ⟨_, _, rfl, run_takeDeferred hD, ?_⟩⟩
  have hput : Below (w.heap.size + 2) W (W.putObj D (.deferred none)) := ⟨rfl, rfl, rfl, by simp [World.putObj], fun k hk => World.putObj_heap_other (by omega)⟩
  have hB2 := hB.go hput
  refine ⟨.string (bs r), ?_, by rw [hv.out], hB2.below⟩
  have hrs := hB2.rs
  simp [results, Try.f20, go_sem, ht, hrs]

set_option maxRecDepth 100000 in
set_option maxHeartbeats 4000000 in
theorem codeAt_in (g : Nat) (lb : Array Value) (cs : List C5) (n p : Int) (lo : Nat) (w : World) (hS : SeqN g lb cs n lo w) (eg : ∀ args w, (callFunc g args).run Try.prog w = .ok (.enter g args) w) :
    CallsIn Fence.wide 9 Try.prog 20 #[.func (.func g) #[] lb, .int .i64 p] w fun e w' => e = .returned (.string (bs (codeL (told cs n) p))) ∧ Below w.heap.size w w' := by
  have hu : Below w.heap.size w ((w.alloc (.cells #[.int .i64 p] 3)).alloc (.cells #[.string ⟨#[]⟩] 9)) := by go_grown
  refine callsIn_of_wp_marks Try.func20 rfl trivial ?_ rfl
  simp only [Try.ntmps20, List.size_toArray, List.length_cons, List.length_nil, Nat.reduceAdd, Nat.reduceSub, Array.replicate_succ, Array.replicate_zero, List.push_toArray, List.append_toArray, List.nil_append, List.cons_append]
  gi_wp2
  have hw1 : BoxI w (.int .i64 p) (.string ⟨#[]⟩) ((w.alloc (.cells #[.int .i64 p] 3)).alloc (.cells #[.string ⟨#[]⟩] 9)) := ⟨by simp [go_sem], by simp [go_sem], by simp [go_sem], hu, by simp only [World.size_alloc]; omega⟩
  have hz : ((w.alloc (.cells #[.int .i64 p] 3)).alloc (.cells #[.string ⟨#[]⟩] 9)).heap.size ≤ w.heap.size + 2 := by simp only [World.size_alloc]; omega
  generalize ((w.alloc (.cells #[.int .i64 p] 3)).alloc (.cells #[.string ⟨#[]⟩] 9)) = w1 at *
  have hz1 := hw1.size
  have hseq := seq_later (hS 8 (by omega)) hu
  refine range_law rfl (by omega) (gf := g) (lb := lb) rfl trivial eg hseq (fun _ => rfl) (fun h k => h.trans k)
    (fun W l o o' hl _ _ => Kept.put W l o' (by omega)) (fun W W' hs hb => Kept.of hb (by omega))
    (fun pre x W W' h hb => h) (fun pre x W l o o' h _ _ _ _ => h)
    (fun pre W => Hid (∀ x ∈ pre, (x.1 : Int) ≠ p) ∧ BoxI w (.int .i64 p) (.string ⟨#[]⟩) W)
    (fun cd pre W => cd = .ret ∧ ∃ r, Hid (codeL (told cs n) p = r) ∧ BoxI w (.int .i64 p) (.string (bs r)) W)
    (fun pre W W' hs h hb => ⟨h.1, h.2.go (hb.mono hz1)⟩)
    (fun cd pre W W' hs h hb => by obtain ⟨h1, r, h2, h3⟩ := h; exact ⟨h1, r, h2, h3.go (hb.mono hz1)⟩)
    ⟨fun x hx => (by cases hx), hw1⟩
    (fun x W0 => { tmps := #[.func (.func g) #[] lb, .int .i64 p, undef, .pointer (some ⟨w.heap.size, 0, none⟩), .pointer (some ⟨w.heap.size + 1, 0, none⟩), .int .i64 (x.1 : Int), .string (bs x.2), .func (.func g) #[] lb, .int .i64 (x.1 : Int), .string (bs x.2), undef, undef, undef, undef], defers := [] })
    (fun x W0 W => True) (fun x W0 W l o o' h _ _ _ _ => trivial) ?assign ?body ?done ?stop
  case assign =>
    rintro l pre ⟨k, c⟩ W KK hI hG hK
    have HK := hK _ (Below.refl _ _) trivial
    clear hK hI hG
    simp only [encN] at HK ⊢
    gi_wp2
    exact HK
  case body =>
    rintro l pre ⟨k, c⟩ W0 W hs0 ⟨h1, h2⟩ ⟨hk, hpre, hc, hne⟩ _
    dsimp only at hk hpre hc hne ⊢
    have q1 := h2.bx
    have q2 := h2.rs
    have q3 := h2.th
    have HC := Lib.hid hc
    have HP := Lib.hid hpre
    have HNE := Lib.hid hne
    clear hc hpre hne
    by_cases e : (k : Int) = p
    · have HR : Hid (codeL (told cs n) p = c) := by
        show _ = _
        rw [codeL_told, codeAtI, if_pos (by omega), show p.toNat = k by omega, HC.out]
      have eb : ((k : Int) == p) = true := by simpa using e
      clear e
      gi_wp2
      refine ⟨keeps_cell _ _ _ _ _ (by omega), rfl, c, HR, h2.set _⟩
    · have eb : ((k : Int) == p) = false := by simpa using e
      have HE := Lib.hid e
      clear e
      gi_wp2
      refine ⟨KeepsFrom.refl _ _, Kept.refl _ _ _, ?_, h2⟩
      intro x hx
      rcases List.mem_append.1 hx with hx | hx
      · exact h1.out x hx
      · have := List.mem_singleton.1 hx
        rw [this]
        exact HE.out
  case done =>
    intro xs V hSx hI hD
    obtain ⟨h1, h2⟩ := hI
    have HR : Hid (codeL (told cs n) p = []) := by
      show _ = _
      rw [← hSx]
      exact codeL_no h1.out
    have q2 := h2.rs
    have q3 := h2.th
    clear h1 hSx
    gi_wp2
    exact codeAt_finish w _ _ _ _ [] _ HR (h2.set _) ((Below.heap_setCell V ⟨w.heap.size + 1, 0, none⟩ _ w1.heap.size (show w1.heap.size ≠ w.heap.size + 1 by omega)).trans hD) (by omega) rfl
  case stop =>
    intro cd pre V hSx hI hD
    obtain ⟨rfl, r, h1, h2⟩ := hI
    have q2 := h2.rs
    gi_wp2
    exact codeAt_finish w _ _ _ _ r _ h1 h2 hD (by omega) rfl

theorem codeAt_any (g : Nat) (lb : Array Value) (cs : List C5) (n p : Int) (lo : Nat) (w : World) (hS : SeqN g lb cs n lo w) (eg : ∀ args w, (callFunc g args).run Try.prog w = .ok (.enter g args) w) :
    Calls Try.prog 20 #[.func (.func g) #[] lb, .int .i64 p] w fun e w' => e = .returned (.string (bs (codeL (told cs n) p))) ∧ Below w.heap.size w w' := callsIn_wide.1 (codeAt_in g lb cs n p lo w hS eg)

/-- Three boxes at w's end. -/
structure BoxJ (w : World) (p r q : Value) (W : World) : Prop where
  bx : W.cell? ⟨w.heap.size, 0, none⟩ = some p
  rs : W.cell? ⟨w.heap.size + 1, 0, none⟩ = some r
  th : W.frozen? ⟨w.heap.size + 1, 0, none⟩ = false
  rs2 : W.cell? ⟨w.heap.size + 1 + 1, 0, none⟩ = some q
  th2 : W.frozen? ⟨w.heap.size + 1 + 1, 0, none⟩ = false
  below : Below w.heap.size w W
  size : w.heap.size + 3 ≤ W.heap.size
theorem BoxJ.go {w : World} {p r q : Value} {W W' : World} (h : BoxJ w p r q W) (hb : Below (w.heap.size + 3) W W') : BoxJ w p r q W' := by
  have hz := hb.size
  have hs := h.size
  exact ⟨(hb.cell (p := ⟨w.heap.size, 0, none⟩) (show w.heap.size < w.heap.size + 3 by omega)).trans h.bx, (hb.cell (p := ⟨w.heap.size + 1, 0, none⟩) (show w.heap.size + 1 < w.heap.size + 3 by omega)).trans h.rs, (hb.frozen (p := ⟨w.heap.size + 1, 0, none⟩) (show w.heap.size + 1 < w.heap.size + 3 by omega)).trans h.th,
    (hb.cell (p := ⟨w.heap.size + 1 + 1, 0, none⟩) (show w.heap.size + 1 + 1 < w.heap.size + 3 by omega)).trans h.rs2, (hb.frozen (p := ⟨w.heap.size + 1 + 1, 0, none⟩) (show w.heap.size + 1 + 1 < w.heap.size + 3 by omega)).trans h.th2, h.below.trans (hb.mono (by omega)), by omega⟩
theorem BoxJ.set {w : World} {p r q : Value} {W : World} (h : BoxJ w p r q W) (u v : Value) : BoxJ w p u v ((W.setCell ⟨w.heap.size + 1, 0, none⟩ u).setCell ⟨w.heap.size + 1 + 1, 0, none⟩ v) := by
  have n1 : ∀ V : World, ∀ x, (V.setCell ⟨w.heap.size + 1, 0, none⟩ x).cell? ⟨w.heap.size, 0, none⟩ = V.cell? ⟨w.heap.size, 0, none⟩ := fun V x => World.cell?_setCell_other _ _ _ _ (by intro hh; injection hh with e1 e2; omega)
  have n2 : ∀ V : World, ∀ x, (V.setCell ⟨w.heap.size + 1 + 1, 0, none⟩ x).cell? ⟨w.heap.size, 0, none⟩ = V.cell? ⟨w.heap.size, 0, none⟩ := fun V x => World.cell?_setCell_other _ _ _ _ (by intro hh; injection hh with e1 e2; omega)
  have n3 : ∀ V : World, ∀ x, (V.setCell ⟨w.heap.size + 1 + 1, 0, none⟩ x).cell? ⟨w.heap.size + 1, 0, none⟩ = V.cell? ⟨w.heap.size + 1, 0, none⟩ := fun V x => World.cell?_setCell_other _ _ _ _ (by intro hh; injection hh with e1 e2; omega)
  have n4 : ∀ V : World, ∀ x, (V.setCell ⟨w.heap.size + 1, 0, none⟩ x).cell? ⟨w.heap.size + 1 + 1, 0, none⟩ = V.cell? ⟨w.heap.size + 1 + 1, 0, none⟩ := fun V x => World.cell?_setCell_other _ _ _ _ (by intro hh; injection hh with e1 e2; omega)
  refine ⟨by rw [n2, n1]; exact h.bx, by rw [n3]; exact World.cell?_setCell_same _ _ _ h.rs, by rw [World.frozen?_setCell, World.frozen?_setCell]; exact h.th, World.cell?_setCell_same _ _ _ ((n4 W u).trans h.rs2), by rw [World.frozen?_setCell, World.frozen?_setCell]; exact h.th2, ?_, by rw [World.size_setCell, World.size_setCell]; exact h.size⟩
  exact (h.below.setCell (p := ⟨w.heap.size + 1, 0, none⟩) (show w.heap.size ≤ w.heap.size + 1 by omega) _).setCell (p := ⟨w.heap.size + 1 + 1, 0, none⟩) (show w.heap.size ≤ w.heap.size + 1 + 1 by omega) _
theorem keeps_two (W : World) (b b' i i' B : Nat) (u v : Value) (hb : b < B) (hb' : b' < B) : KeepsFrom B W ((W.setCell ⟨b, i, none⟩ u).setCell ⟨b', i', none⟩ v) := (keeps_cell W b i B u hb).trans (keeps_cell _ b' i' B v hb')

/-- The return, behind the rounds' mark. -/
theorem placeOf_finish (w W : World) (tmps : Array Value) (D : Nat) (p : Value) (r r' : Int) (b b' : Bool) (hv : Hid (r' = r ∧ b' = b)) (hB : BoxJ w p (.int .i64 r) (.bool b) W) (hD : W.heap[D]? = some (.deferred (some []))) (hD1 : w.heap.size + 3 ≤ D) (ht : tmps[4]? = some (.pointer (some ⟨w.heap.size + 1, 0, none⟩))) (ht2 : tmps[5]? = some (.pointer (some ⟨w.heap.size + 1 + 1, 0, none⟩))) :
    LeavesInM Fence.wide 9 Try.prog Try.f22 tmps (fun e w' => e = .returned (.tuple #[.int .i64 r', .bool b']) ∧ Below w.heap.size w w') [{ target := .collected D, args := #[] }] .returning W := by
  refine ⟨by simp, .inl ⟨_, _, rfl, run_takeDeferred hD, ?_⟩⟩
  have hput : Below (w.heap.size + 3) W (W.putObj D (.deferred none)) := ⟨rfl, rfl, rfl, by simp [World.putObj], fun k hk => World.putObj_heap_other (by omega)⟩
  have hB2 := hB.go hput
  refine ⟨.tuple #[.int .i64 r, .bool b], ?_, by rw [hv.out.1, hv.out.2], hB2.below⟩
  have hrs := hB2.rs
  have hrs2 := hB2.rs2
  simp [results, Try.f22, go_sem, ht, ht2, hrs, hrs2]

set_option maxRecDepth 100000 in
set_option maxHeartbeats 4000000 in
theorem placeOf_in (g : Nat) (lb : Array Value) (cs : List C5) (n : Int) (s : List UInt8) (lo : Nat) (w : World) (hS : SeqN g lb cs n lo w) (eg : ∀ args w, (callFunc g args).run Try.prog w = .ok (.enter g args) w) :
    CallsIn Fence.wide 9 Try.prog 22 #[.func (.func g) #[] lb, .string (bs s)] w fun e w' => e = .returned (.tuple #[.int .i64 (placeL (told cs n) s), .bool (decide (0 ≤ placeL (told cs n) s))]) ∧ Below w.heap.size w w' := by
  have hu : Below w.heap.size w (((w.alloc (.cells #[.string (bs s)] 9)).alloc (.cells #[.int .i64 0] 3)).alloc (.cells #[.bool false] 4)) := by go_grown
  refine callsIn_of_wp_marks Try.func22 rfl trivial ?_ rfl
  simp only [Try.ntmps22, List.size_toArray, List.length_cons, List.length_nil, Nat.reduceAdd, Nat.reduceSub, Array.replicate_succ, Array.replicate_zero, List.push_toArray, List.append_toArray, List.nil_append, List.cons_append]
  gi_wp2
  have hw1 : BoxJ w (.string (bs s)) (.int .i64 0) (.bool false) (((w.alloc (.cells #[.string (bs s)] 9)).alloc (.cells #[.int .i64 0] 3)).alloc (.cells #[.bool false] 4)) := ⟨by simp [go_sem], by simp [go_sem], by simp [go_sem], by simp [go_sem], by simp [go_sem], hu, by simp only [World.size_alloc]; omega⟩
  have hz : (((w.alloc (.cells #[.string (bs s)] 9)).alloc (.cells #[.int .i64 0] 3)).alloc (.cells #[.bool false] 4)).heap.size ≤ w.heap.size + 3 := by simp only [World.size_alloc]; omega
  generalize (((w.alloc (.cells #[.string (bs s)] 9)).alloc (.cells #[.int .i64 0] 3)).alloc (.cells #[.bool false] 4)) = w1 at *
  have hz1 := hw1.size
  have hseq := seq_later (hS 8 (by omega)) hu
  refine range_law rfl (by omega) (gf := g) (lb := lb) rfl trivial eg hseq (fun _ => rfl) (fun h k => h.trans k)
    (fun W l o o' hl _ _ => Kept.put W l o' (by omega)) (fun W W' hs hb => Kept.of hb (by omega))
    (fun pre x W W' h hb => h) (fun pre x W l o o' h _ _ _ _ => h)
    (fun pre W => Hid (∀ x ∈ pre, x.2 ≠ s) ∧ BoxJ w (.string (bs s)) (.int .i64 0) (.bool false) W)
    (fun cd pre W => cd = .ret ∧ ∃ r, Hid (placeL (told cs n) s = r ∧ decide (0 ≤ placeL (told cs n) s) = true) ∧ BoxJ w (.string (bs s)) (.int .i64 r) (.bool true) W)
    (fun pre W W' hs h hb => ⟨h.1, h.2.go (hb.mono hz1)⟩)
    (fun cd pre W W' hs h hb => by obtain ⟨h1, r, h2, h3⟩ := h; exact ⟨h1, r, h2, h3.go (hb.mono hz1)⟩)
    ⟨fun x hx => (by cases hx), hw1⟩
    (fun x W0 => { tmps := #[.func (.func g) #[] lb, .string (bs s), undef, .pointer (some ⟨w.heap.size, 0, none⟩), .pointer (some ⟨w.heap.size + 1, 0, none⟩), .pointer (some ⟨w.heap.size + 1 + 1, 0, none⟩), .int .i64 (x.1 : Int), .string (bs x.2), .func (.func g) #[] lb, .int .i64 (x.1 : Int), .string (bs x.2), undef, undef, undef, undef], defers := [] })
    (fun x W0 W => True) (fun x W0 W l o o' h _ _ _ _ => trivial) ?assign ?body ?done ?stop
  case assign =>
    rintro l pre ⟨k, c⟩ W KK hI hG hK
    have HK := hK _ (Below.refl _ _) trivial
    clear hK hI hG
    simp only [encN] at HK ⊢
    gi_wp2
    exact HK
  case body =>
    rintro l pre ⟨k, c⟩ W0 W hs0 ⟨h1, h2⟩ ⟨hk, hpre, hc, hne⟩ _
    dsimp only at hk hpre hc hne ⊢
    have q1 := h2.bx
    have q2 := h2.rs
    have q3 := h2.th
    have q4 := h2.rs2
    have q5 := h2.th2
    have HC := Lib.hid hc
    have HP := Lib.hid hpre
    have HNE := Lib.hid hne
    clear hc hpre hne
    by_cases e : c = s
    · have HR : Hid (placeL (told cs n) s = (k : Int) ∧ decide (0 ≤ placeL (told cs n) s) = true) := by
        have := placeL_first hk HC.out.symm HNE.out (by rw [← HP.out, e]; exact h1.out)
        rw [e] at this
        refine ⟨this, ?_⟩
        rw [this]; simp
      have eb : ((bs c).toList == (bs s).toList) = true := by rw [e]; simp
      clear e
      gi_wp2
      refine ⟨keeps_two _ _ _ _ _ _ _ _ (by omega) (by omega), rfl, k, HR, h2.set _ _⟩
    · have eb : ((bs c).toList == (bs s).toList) = false := by rw [bs_toList, bs_toList]; simpa using e
      have HE := Lib.hid e
      clear e
      gi_wp2
      refine ⟨KeepsFrom.refl _ _, Kept.refl _ _ _, ?_, h2⟩
      intro x hx
      rcases List.mem_append.1 hx with hx | hx
      · exact h1.out x hx
      · have := List.mem_singleton.1 hx
        rw [this]
        exact HE.out
  case done =>
    intro xs V hSx hI hD
    obtain ⟨h1, h2⟩ := hI
    have HR : Hid (placeL (told cs n) s = -1 ∧ decide (0 ≤ placeL (told cs n) s) = false) := by
      have : placeL (told cs n) s = -1 := by
        rw [← hSx]
        exact placeL_no h1.out
      refine ⟨this, ?_⟩
      rw [this]; simp
    have q2 := h2.rs
    have q3 := h2.th
    have q4 := h2.rs2
    have q5 := h2.th2
    clear h1 hSx
    gi_wp2
    exact placeOf_finish w _ _ _ _ (-1) _ false _ HR (h2.set _ _) ((Below.heap_setCell _ ⟨w.heap.size + 1 + 1, 0, none⟩ _ w1.heap.size (show w1.heap.size ≠ w.heap.size + 1 + 1 by omega)).trans ((Below.heap_setCell V ⟨w.heap.size + 1, 0, none⟩ _ w1.heap.size (show w1.heap.size ≠ w.heap.size + 1 by omega)).trans hD)) (by omega) rfl rfl
  case stop =>
    intro cd pre V hSx hI hD
    obtain ⟨rfl, r, h1, h2⟩ := hI
    have q2 := h2.rs
    gi_wp2
    exact placeOf_finish w _ _ _ _ r _ true _ h1 h2 hD (by omega) rfl rfl

theorem placeOf_any (g : Nat) (lb : Array Value) (cs : List C5) (n : Int) (s : List UInt8) (lo : Nat) (w : World) (hS : SeqN g lb cs n lo w) (eg : ∀ args w, (callFunc g args).run Try.prog w = .ok (.enter g args) w) :
    Calls Try.prog 22 #[.func (.func g) #[] lb, .string (bs s)] w fun e w' => e = .returned (.tuple #[.int .i64 (placeL (told cs n) s), .bool (decide (0 ≤ placeL (told cs n) s))]) ∧ Below w.heap.size w w' := callsIn_wide.1 (placeOf_in g lb cs n s lo w hS eg)

end Go.Proofs.Ytpmibcdmaaagjaa.Atoms

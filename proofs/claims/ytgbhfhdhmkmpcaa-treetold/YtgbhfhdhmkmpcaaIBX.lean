/-
  Contracts of tree.those, and of the function that it hands back. Contract of the function that tree.Notes hands back.
-/
import Derived.Test.YtgbhfhdhmkmpcaaIA
import Derived.Test.YtgbhfhdhmkmpcaaLA
import Derived.Test.YtgbhfhdhmkmpcaaX0
import Derived.Test.YtgbhfhdhmkmpcaaUJX
import Derived.RangeFuncBound
import Derived.RangeFuncFrom
import Derived.RangeFuncBox
import Derived.OwnWalkIn
import Derived.TacticsInMore
import Derived.LoopNIn
import Derived.LoopIn
import Derived.Stop.RegionWithIn
import Derived.Laws.EntriesVeiled
namespace Go.Proofs.Ytgbhfhdhmkmpcaa.Trees
open Go.RowKit Go.Shelf Go.Proofs.Ytgbhfhdhmkmpcaa.Ranges
open Go.Proofs.Ytgbhfhdhmkmpcaa.Style (bs bs_size bs_at getD_at bs_of)
open Go.Proofs.Ytgbhfhdhmkmpcaa.Toks (cell_lt cell_same SliceAt Above)
attribute [local go_sem] Oper.semAt_some
set_option linter.unusedVariables false
set_option linter.unusedSimpArgs false

/-- What a round keeps: blocks below hi, and those above its loop's book. -/
structure Kq (hi l : Nat) (W W' : World) : Prop where
  below : Below hi W W'
  up : ∀ k, l < k → k < W.heap.size → W'.heap[k]? = W.heap[k]?
theorem Kq.refl (hi l : Nat) (W : World) : Kq hi l W W := ⟨Below.refl _ _, fun _ _ _ => rfl⟩
theorem Kq.trans {hi l : Nat} {A B C : World} (h : Kq hi l A B) (k : Kq hi l B C) : Kq hi l A C :=
  ⟨h.below.trans k.below, fun i h1 h2 => (k.up i h1 (by have := h.below.size; omega)).trans (h.up i h1 h2)⟩
theorem Kq.of {hi l : Nat} {W W' : World} (h : Below W.heap.size W W') (hs : hi ≤ W.heap.size) : Kq hi l W W' := ⟨h.mono hs, fun k _ h2 => h.block k h2⟩
theorem Kq.put {hi l : Nat} (W : World) (o' : Obj) (hh : hi ≤ l) : Kq hi l W (W.putObj l o') :=
  ⟨⟨rfl, rfl, rfl, by simp [World.putObj], fun k hk => World.putObj_heap_other (by omega)⟩, fun k h1 _ => World.putObj_heap_other (by omega)⟩
theorem Kq.set {hi l b i : Nat} (W : World) (u : Value) (hh : hi ≤ b) (hl : b ≤ l) : Kq hi l W (W.setCell ⟨b, i, none⟩ u) :=
  ⟨(Below.refl _ _).setCell (p := ⟨b, i, none⟩) hh u, fun k h1 _ => Below.heap_setCell W ⟨b, i, none⟩ u k (by show k ≠ b; omega)⟩
theorem Kq.narrow {hi l l' : Nat} {W W' : World} (h : Kq hi l W W') (hl : l ≤ l') : Kq hi l' W W' := ⟨h.below, fun k h1 h2 => h.up k (by omega) h2⟩
theorem Kq.keeps {hi l B : Nat} {W W' : World} (h : Kq hi l W W') (hB : l < B) : KeepsFrom B W W' :=
  ⟨h.below.size, fun k o h1 h2 _ => (h.up k (by omega) (Array.getElem?_eq_some_iff.1 h2).1).trans h2⟩

def encQ (x : Nat × Stp) : Array Value := #[.int .i64 (x.1 : Int), x.2.v]
def encT (x : Nat × Stp) : Array Value := #[.string (bs x.2.text)]
/-- What comes next. -/
def GuardQ (ops : List Int) (L : List Stp) (pre : List (Nat × Stp)) (x : Nat × Stp) (V : World) : Prop := ∃ post, thoseL ops 0 L = pre ++ x :: post
/-- The boxes of a row of steps, and of numbers. -/
structure ThI (V : World) (b1 b2 : Nat) (L : List Stp) (ops : List Int) : Prop where
  x1 : ∃ s, V.cell? ⟨b1, 0, none⟩ = some s ∧ View V s L
  x2 : ∃ s, V.cell? ⟨b2, 0, none⟩ = some s ∧ IV V s ops
theorem ThI.go {V V' : World} {b1 b2 : Nat} {L : List Stp} {ops : List Int} (h : ThI V b1 b2 L ops) (hb : Below V.heap.size V V') : ThI V' b1 b2 L ops := by
  obtain ⟨⟨s, h1, h2⟩, ⟨s', h3, h4⟩⟩ := h
  exact ⟨⟨s, (hb.cell (p := ⟨b1, 0, none⟩) (cell_lt h1)).trans h1, h2.go hb⟩, ⟨s', (hb.cell (p := ⟨b2, 0, none⟩) (cell_lt h3)).trans h3, h4.go hb⟩⟩
/-- A function that tells such steps, in a world. -/
def SeqQ (enc : Nat × Stp → Array Value) (g : Nat) (lb : Array Value) (ops : List Int) (L : List Stp) (hi : Nat) (w : World) : Prop :=
  ∀ N, 3 ≤ N → SeqL Fence.wide N Try.prog g lb enc (GuardQ ops L) (Kq hi) (fun xs => xs = thoseL ops 0 L) (fun pre => ∃ post, thoseL ops 0 L = pre ++ post) w
theorem SeqQ.go {enc : Nat × Stp → Array Value} {g : Nat} {lb : Array Value} {ops : List Int} {L : List Stp} {hi : Nat} {w w' : World} (h : SeqQ enc g lb ops L hi w) (hb : Below w.heap.size w w') : SeqQ enc g lb ops L hi w' :=
  fun N hN l J Jx W hW => h N hN l J Jx W (hb.trans (hW.mono hb.size))

theorem IV.one (V : World) (t : TypeId) (x : Int) (hx : -9223372036854775808 ≤ x ∧ x ≤ 9223372036854775807) : IV (V.alloc (.cells #[.int .i64 x] t)) (.slice (some ⟨V.heap.size, 0, none⟩) 1 1) [x] :=
  ⟨_, 1, rfl, Nat.le_refl _, fun i hi => by
    have : i = 0 := by simp at hi; omega
    subst this
    exact ⟨_, 0, rfl, by simp [go_sem], hx⟩⟩
theorem IV.two (V : World) (t : TypeId) (x y : Int) (hx : -9223372036854775808 ≤ x ∧ x ≤ 9223372036854775807) (hy : -9223372036854775808 ≤ y ∧ y ≤ 9223372036854775807) : IV (V.alloc (.cells #[.int .i64 x, .int .i64 y] t)) (.slice (some ⟨V.heap.size, 0, none⟩) 2 2) [x, y] :=
  ⟨_, 2, rfl, Nat.le_refl _, fun i hi => by
    have : i = 0 ∨ i = 1 := by simp at hi; omega
    rcases this with rfl | rfl
    · exact ⟨_, 0, rfl, by simp [go_sem], hx⟩
    · exact ⟨_, 0, rfl, by simp [go_sem], hy⟩⟩

set_option maxRecDepth 100000 in
set_option maxHeartbeats 1000000 in
theorem those_any (s so : Value) (L : List Stp) (ops : List Int) (w : World) (hV : View w s L) (hO : IV w so ops) (hl : L.length ≤ 1000) :
    Calls Try.prog 16 #[s, so] w fun e w' => ∃ b1 b2, e = .returned (.func (.func 28) #[] #[.pointer (some ⟨b1, 0, none⟩), .pointer (some ⟨b2, 0, none⟩)]) ∧ Below w.heap.size w w' ∧ ThI w' b1 b2 L ops := by
  obtain ⟨o, c, rfl, hlc⟩ := hV.slice
  obtain ⟨o2, c2, rfl, _⟩ := id hO
  have hu : Below w.heap.size w (w.alloc (.cells #[.slice o2 ops.length c2] 22)) := (Below.refl _ _).alloc (Nat.le_refl _) _
  have c1 : (w.alloc (.cells #[.slice o2 ops.length c2] 22)).cell? ⟨w.heap.size, 0, none⟩ = some (.slice o2 ops.length c2) := by simp [go_sem]
  have hC := clone_any _ L _ (hV.go hu) hl
  have hO1 := hO.go hu
  clear hV hO
  go_enter Try.func16, Try.ntmps16
  go_wp2_with fail
  generalize w.alloc (.cells #[.slice o2 ops.length c2] 22) = W1 at *
  refine hC.mono ?_
  rintro e W2 ⟨s', rfl, hs, ha, hb⟩
  obtain ⟨o', c', rfl⟩ := SliceAt.slice hs
  have hv := hs.view
  clear hC hs ha
  have c3 := (hb.cell (p := ⟨w.heap.size, 0, none⟩) (cell_lt c1)).trans c1
  have hO3 := hO1.go hb
  have hu3 : Below W2.heap.size W2 (W2.alloc (.cells #[.slice o' L.length c'] 26)) := (Below.refl _ _).alloc (Nat.le_refl _) _
  have hbb := hu.trans (hb.mono hu.size)
  go_wp2_with fail
  go_ret
  exact ⟨_, _, rfl, hbb.trans (hu3.mono hbb.size), ⟨⟨_, by simp [go_sem], hv.go hu3⟩, ⟨_, (hu3.cell (p := ⟨w.heap.size, 0, none⟩) (cell_lt c3)).trans c3, hO3.go hu3⟩⟩⟩

set_option maxRecDepth 100000 in
set_option maxHeartbeats 1000000 in
theorem symbols_any (s : Value) (L : List Stp) (w : World) (hV : View w s L) (hl : L.length ≤ 1000) :
    Calls Try.prog 8 #[s] w fun e w' => ∃ b1 b2, e = .returned (.func (.func 28) #[] #[.pointer (some ⟨b1, 0, none⟩), .pointer (some ⟨b2, 0, none⟩)]) ∧ Below w.heap.size w w' ∧ ThI w' b1 b2 L [2] := by
  obtain ⟨o, c, rfl, hlc⟩ := hV.slice
  have hu : Below w.heap.size w (w.alloc (.cells #[.int .i64 2] 3)) := (Below.refl _ _).alloc (Nat.le_refl _) _
  have hT := those_any _ _ L [2] _ (hV.go hu) (IV.one w 3 2 ⟨by omega, by omega⟩) hl
  clear hV
  go_enter Try.func8, Try.ntmps8
  go_wp2_with fail
  refine hT.mono ?_
  rintro e W2 ⟨b1, b2, rfl, hb, hI⟩
  clear hT
  go_wp2_with fail
  go_ret
  exact ⟨_, _, rfl, hu.trans (hb.mono hu.size), hI⟩

/-- The box of a function that tells the steps of notes. -/
structure NtI (V : World) (b3 : Nat) (L : List Stp) : Prop where
  x : ∃ b1 b2, V.cell? ⟨b3, 0, none⟩ = some (.func (.func 28) #[] #[.pointer (some ⟨b1, 0, none⟩), .pointer (some ⟨b2, 0, none⟩)]) ∧ ThI V b1 b2 L [6, 7]
theorem NtI.go {V V' : World} {b3 : Nat} {L : List Stp} (h : NtI V b3 L) (hb : Below V.heap.size V V') : NtI V' b3 L := by
  obtain ⟨b1, b2, h1, h2⟩ := h
  exact ⟨b1, b2, (hb.cell (p := ⟨b3, 0, none⟩) (cell_lt h1)).trans h1, h2.go hb⟩

set_option maxRecDepth 100000 in
set_option maxHeartbeats 1000000 in
theorem notes_any (s : Value) (L : List Stp) (w : World) (hV : View w s L) (hl : L.length ≤ 1000) :
    Calls Try.prog 9 #[s] w fun e w' => ∃ b3, e = .returned (.func (.func 17) #[] #[.pointer (some ⟨b3, 0, none⟩)]) ∧ Below w.heap.size w w' ∧ NtI w' b3 L := by
  obtain ⟨o, c, rfl, hlc⟩ := hV.slice
  have hu : Below w.heap.size w (w.alloc (.cells #[.int .i64 6, .int .i64 7] 3)) := (Below.refl _ _).alloc (Nat.le_refl _) _
  have hT := those_any _ _ L [6, 7] _ (hV.go hu) (IV.two w 3 6 7 ⟨by omega, by omega⟩ ⟨by omega, by omega⟩) hl
  clear hV
  go_enter Try.func9, Try.ntmps9
  go_wp2_with fail
  refine hT.mono ?_
  rintro e W2 ⟨b1, b2, rfl, hb, hI⟩
  clear hT
  have hbb := hu.trans (hb.mono hu.size)
  have hu3 : Below W2.heap.size W2 (W2.alloc (.cells #[.func (.func 28) #[] #[.pointer (some ⟨b1, 0, none⟩), .pointer (some ⟨b2, 0, none⟩)]] 30)) := (Below.refl _ _).alloc (Nat.le_refl _) _
  have hI3 := hI.go hu3
  go_wp2_with fail
  go_ret
  exact ⟨_, rfl, hbb.trans (hu3.mono hbb.size), ⟨_, _, by simp [go_sem], hI3⟩⟩

set_option maxRecDepth 100000 in
set_option maxHeartbeats 4000000 in
theorem those1_in (N l b1 b2 : Nat) (L : List Stp) (ops : List Int) (V : World) (hN : 2 ≤ N) (hl : L.length ≤ 1000) (hlo : ops.length ≤ 1000) (hC : ThI V b1 b2 L ops)
    (J Jx : List (Nat × Stp) → World → Prop) (hJ : ∀ pre, Stays (J pre)) (hJx : ∀ pre, Stays (Jx pre))
    (hY : ∀ pre x W, J pre W → GuardQ ops L pre x W → YieldAt Fence.wide (N - 1) Try.prog l (encQ x) W (RoundL J Jx (Kq V.heap.size l) pre x W))
    (W : World) (hW : Below V.heap.size V W) (h0 : J [] W) :
    CallsIn Fence.wide N Try.prog 28 #[.func (.yield l) #[] #[], .pointer (some ⟨b1, 0, none⟩), .pointer (some ⟨b2, 0, none⟩)] W
      (Ended (fun xs => xs = thoseL ops 0 L) (fun pre => ∃ post, thoseL ops 0 L = pre ++ post) J Jx) := by
  have hCW := hC.go hW
  obtain ⟨s, x1, hv⟩ := hCW.x1
  obtain ⟨s', y1, hv'⟩ := hC.x1
  have hss : s = s' := by
    have := (hW.cell (p := ⟨b1, 0, none⟩) (cell_lt y1)).trans y1
    rw [x1] at this
    injection this
  subst hss
  obtain ⟨o, c, rfl, hlc⟩ := hv.slice
  clear hv hCW y1
  have HY := Lib.hid hY
  clear hY
  have hli : (L.length : Int) ≤ 1000 := by omega
  refine callsIn_of_wp Try.func28 rfl trivial ?_ rfl
  simp only [Try.ntmps28, List.size_toArray, List.length_cons, List.length_nil, Nat.reduceAdd, Nat.reduceSub, Array.replicate_succ, Array.replicate_zero, List.push_toArray, List.append_toArray, List.nil_append, List.cons_append]
  gi_wp2
  clear x1
  gi_loopw [8] (fun x wr => ∃ (pre : List (Nat × Stp)) (p : Nat), x = .int .i64 (p : Int) ∧ p ≤ L.length ∧ Hid (thoseL ops 0 L = pre ++ thoseL ops p (L.drop p)) ∧ J pre wr ∧ Below V.heap.size V wr)
    (fun x _ => (L.length - intOf x).toNat)
  case atStart => exact ⟨[], 0, rfl, by omega, by show _ = _; rw [List.drop_zero]; rfl, h0, hW⟩
  case round =>
    clear h0 hW
    obtain ⟨pre, p, rfl, hpl, HA, hj, hK⟩ := hrel
    obtain ⟨so, x2, hO⟩ := (hC.go hK).x2
    have hvr := hv'.go hK
    by_cases hpn : p < L.length
    · have hpi : (p : Int) < L.length := by omega
      obtain ⟨o', c', e', hc', hcell⟩ := hvr
      obtain ⟨b, off, eo, v0, v1, v2, v3, v4, v5⟩ := hcell p hpn
      injection e' with e1 e2 e3
      subst e1 e3
      subst eo
      clear hcell
      have hyes := fun h => those_yes (ops := ops) hpn h
      have hno := fun h => those_no (ops := ops) hpn h
      generalize L.getD p default = x at *
      obtain ⟨xo, xp, xa, xn, xm, xt⟩ := x
      dsimp only at v0 v1 v2 v3 v4 v5 hyes hno
      have hu : Below wr.heap.size wr (wr.alloc (.cells #[.int .i64 xo, .int .i64 xp, .int .i64 xa, .int .i64 xn, .int .i64 xm, .string (bs xt)] 36)) := (Below.refl _ _).alloc (Nat.le_refl _) _
      have x2u := (hu.cell (p := ⟨b2, 0, none⟩) (cell_lt x2)).trans x2
      have hcl := contains_any so ops xo _ (hO.go hu) hlo
      have hju := hJ pre _ _ hj hu
      have hbu := hK.trans (hu.mono hK.size)
      obtain ⟨o2, c2, rfl, _⟩ := id hO
      cases hcs : ops.contains xo with
      | true =>
        rw [hcs] at hcl
        have HS : Hid (thoseL ops 0 L = pre ++ (p, (⟨xo, xp, xa, xn, xm, xt⟩ : Stp)) :: thoseL ops (p + 1) (L.drop (p + 1))) := by
          show _ = _
          rw [HA.out, hyes hcs]
        have HG : Hid (GuardQ ops L pre (p, ⟨xo, xp, xa, xn, xm, xt⟩) (wr.alloc (.cells #[.int .i64 xo, .int .i64 xp, .int .i64 xa, .int .i64 xn, .int .i64 xm, .string (bs xt)] 36))) := ⟨_, HS.out⟩
        clear hyes hno hcs
        gi_wp2
        refine ⟨trivial, fun _ => by omega, (callsIn_wide.2 hcl).mono ?_⟩
        rintro e W2 ⟨rfl, rfl⟩
        obtain ⟨fn, tmps, assign, body, hy, hR⟩ := HY.out pre (p, ⟨xo, xp, xa, xn, xm, xt⟩) _ hju HG.out
        unfold encQ Stp.v at hy
        dsimp only at hy
        have HR := Lib.hid hR
        clear hR hcl
        gi_wp2
        refine ⟨fun _ => by omega, HR.out.mono ?_⟩
        rintro e W3 (⟨rfl, hJ3, hK3⟩ | ⟨rfl, hJx3, hK3⟩)
        · gi_wp2
          go_roundw
          case rel => exact ⟨_, p + 1, rfl, by omega, by show _ = _; rw [HS.out]; simp, hJ3, hbu.trans hK3.below⟩
          case measure => simp only [intOf]; omega
        · gi_wp2
          refine bodyPost_ret (results_none rfl _ _ _) rfl ?_
          exact ⟨⟨_, rfl⟩, .inr ⟨_, ⟨thoseL ops (p + 1) (L.drop (p + 1)), by rw [HS.out]; simp⟩, hJx3⟩⟩
      | false =>
        rw [hcs] at hcl
        have HS : Hid (thoseL ops 0 L = pre ++ thoseL ops (p + 1) (L.drop (p + 1))) := by
          show _ = _
          rw [HA.out, hno hcs]
        clear hyes hno hcs
        gi_wp2
        refine ⟨trivial, fun _ => by omega, (callsIn_wide.2 hcl).mono ?_⟩
        rintro e W2 ⟨rfl, rfl⟩
        clear hcl
        gi_wp2
        refine ⟨fun _ h => (by cases h), ?_⟩
        gi_wp2
        go_roundw
        case rel => exact ⟨pre, p + 1, rfl, by omega, HS, hju, hbu⟩
        case measure => simp only [intOf]; omega
    · have hpe : p = L.length := by omega
      have hpi : ¬ (p : Int) < L.length := by omega
      subst hpe
      have HS : Hid (pre = thoseL ops 0 L) := by
        show _ = _
        rw [HA.out, those_end]; simp
      gi_wp2
      go_end0
      exact ⟨⟨_, rfl⟩, .inl ⟨pre, HS.out, hj⟩⟩

theorem seq_those {V : World} {b1 b2 : Nat} {L : List Stp} {ops : List Int} (hl : L.length ≤ 1000) (hlo : ops.length ≤ 1000) (h : ThI V b1 b2 L ops) :
    SeqQ encQ 28 #[.pointer (some ⟨b1, 0, none⟩), .pointer (some ⟨b2, 0, none⟩)] ops L V.heap.size V :=
  fun N hN l J Jx W hW _ hJ hJx _ _ hY h0 => those1_in N l b1 b2 L ops V (by omega) hl hlo h J Jx hJ hJx hY W hW h0

end Go.Proofs.Ytgbhfhdhmkmpcaa.Trees

namespace Go.Proofs.Ytgbhfhdhmkmpcaa.Trees
open Go.RowKit Go.Shelf Go.Proofs.Ytgbhfhdhmkmpcaa.Ranges
open Go.Proofs.Ytgbhfhdhmkmpcaa.Style (bs bs_size bs_at getD_at bs_of)
open Go.Proofs.Ytgbhfhdhmkmpcaa.Toks (cell_lt cell_same SliceAt Above)
attribute [local go_sem] Oper.semAt_some
set_option linter.unusedVariables false
set_option linter.unusedSimpArgs false

/-- A round's contract holds inside another round, too. -/
theorem round_in {m m' : Nat} {P : Program} {l l' : Nat} {f : FuncId} {tmps : Array Value} {assign body : Code} {w : World} {R : Ending → World → Prop} (h : RoundIn Fence.wide m P l f tmps assign body w R) : RoundIn (Fence.wide.inRound l') m' P l f tmps assign body w R :=
  ⟨h.1, fun c cs _ => h.2 c cs (room_wide _)⟩

set_option maxRecDepth 100000 in
set_option maxHeartbeats 4000000 in
theorem notes1_in (N l b3 : Nat) (L : List Stp) (V : World) (hN : 3 ≤ N) (hl : L.length ≤ 1000) (hC : NtI V b3 L)
    (J Jx : List (Nat × Stp) → World → Prop) (hJ : ∀ pre, Stays (J pre)) (hJx : ∀ pre, Stays (Jx pre)) (hO : ∀ pre, Over l (J pre)) (hOx : ∀ pre, Over l (Jx pre))
    (hY : ∀ pre x W, J pre W → GuardQ [6, 7] L pre x W → YieldAt Fence.wide (N - 1) Try.prog l (encT x) W (RoundL J Jx (Kq V.heap.size l) pre x W))
    (W : World) (hW : Below V.heap.size V W) (hlW : l < W.heap.size) (h0 : J [] W) :
    CallsIn Fence.wide N Try.prog 17 #[.func (.yield l) #[] #[], .pointer (some ⟨b3, 0, none⟩)] W
      (Ended (fun xs => xs = thoseL [6, 7] 0 L) (fun pre => ∃ post, thoseL [6, 7] 0 L = pre ++ post) J Jx) := by
  obtain ⟨b1, b2, hx, hT⟩ := hC
  have hWs := hW.size
  have hx1 := (hW.cell (p := ⟨b3, 0, none⟩) (cell_lt hx)).trans hx
  have hu : Below W.heap.size W (W.alloc (.cells #[.func (.yield l) #[] #[]] 51)) := (Below.refl _ _).alloc (Nat.le_refl _) _
  have y1 := (hu.cell (p := ⟨b3, 0, none⟩) (cell_lt hx1)).trans hx1
  have yv : (W.alloc (.cells #[.func (.yield l) #[] #[]] 51)).cell? ⟨W.heap.size, 0, none⟩ = some (.func (.yield l) #[] #[]) := by simp [go_sem]
  have hJ0 := hJ [] _ _ h0 hu
  have hWa := hW.trans (hu.mono hWs)
  have hz1 : W.heap.size < (W.alloc (.cells #[.func (.yield l) #[] #[]] 51)).heap.size := by rw [World.size_alloc]; omega
  refine callsIn_of_wp_marks Try.func17 rfl trivial ?_ rfl
  simp only [Try.ntmps17, List.size_toArray, List.length_cons, List.length_nil, Nat.reduceAdd, Nat.reduceSub, Array.replicate_succ, Array.replicate_zero, List.push_toArray, List.append_toArray, List.nil_append, List.cons_append]
  clear hx hx1 h0 hu
  have HY := Lib.hid hY
  clear hY
  gi_wp2
  generalize W.alloc (.cells #[.func (.yield l) #[] #[]] 51) = Wa at *
  have eg := enters_of Try.func28 (by kernel_rfl) rfl
  refine range_own rfl (by omega) (gf := 28) (lb := #[.pointer (some ⟨b1, 0, none⟩), .pointer (some ⟨b2, 0, none⟩)]) rfl trivial eg (Kp := Kq V.heap.size) (S := fun xs => xs = thoseL [6, 7] 0 L) (Sp := fun pre => ∃ post, thoseL [6, 7] 0 L = pre ++ post) (encs := encQ) (G := GuardQ [6, 7] L)
    (fun l' J' Jx' W' hW' _ hJ' hJx' _ _ hY' h0' => those1_in (N - 1) l' b1 b2 L [6, 7] V (by omega) hl (by simp) hT J' Jx' hJ' hJx' hY' W' (hWa.trans (hW'.mono hWa.size)) h0') (fun _ => rfl) (fun h k => h.trans k)
    (fun W o o' ho hc => Kq.put W o' (by omega)) (fun W W' hs hb => Kq.of hb (by omega))
    (fun pre x W W' h hb => h) (fun pre x W l o o' h _ _ _ _ => h)
    (fun pre Wr => J pre Wr ∧ Wr.cell? ⟨W.heap.size, 0, none⟩ = some (.func (.yield l) #[] #[]))
    (fun cd pre Wr => cd = .ret ∧ Jx pre Wr)
    (fun pre X X' h hb => ⟨hJ pre X X' h.1 hb, (hb.cell (p := ⟨W.heap.size, 0, none⟩) (cell_lt h.2)).trans h.2⟩)
    (fun pre X k o o' h hk ho hc hc' => ⟨hO pre X k o o' h.1 (by omega) ho hc hc', cell_same h.2 (cell_put h.2 ho hc).2⟩)
    (fun cd pre X X' h hb => ⟨h.1, hJx pre X X' h.2 hb⟩) (fun cd pre X k o o' h hk ho hc hc' => ⟨h.1, hOx pre X k o o' h.2 (by omega) ho hc hc'⟩)
    ⟨hJ0, yv⟩
    (fun x W0 => { tmps := #[.func (.yield l) #[] #[], .pointer (some ⟨b3, 0, none⟩), .pointer (some ⟨W.heap.size, 0, none⟩), undef, .pointer (some ⟨W0.heap.size, 0, none⟩), .func (.func 28) #[] #[.pointer (some ⟨b1, 0, none⟩), .pointer (some ⟨b2, 0, none⟩)], .int .i64 (x.1 : Int), x.2.v, undef, undef, undef, undef, undef], defers := [] })
    (fun x W0 W => W.cell? ⟨W0.heap.size, 5, none⟩ = some (.string (bs x.2.text))) (fun x W0 W l o o' h _ ho hc _ => cell_same h (cell_put h ho hc).2) ?assign ?body ?done ?stop
  case assign =>
    rintro l' pre ⟨p, ⟨xo, xp, xa, xn, xm, xt⟩⟩ X KK hI hG hK
    have HK := hK (X.alloc (.cells #[.int .i64 xo, .int .i64 xp, .int .i64 xa, .int .i64 xn, .int .i64 xm, .string (bs xt)] 36)) ((Below.refl _ _).alloc (Nat.le_refl _) _) (by simp [go_sem])
    clear hK hI hG
    simp only [encQ, Stp.v] at HK ⊢
    gi_wp2
    exact HK
  case body =>
    rintro l' pre ⟨p, ⟨xo, xp, xa, xn, xm, xt⟩⟩ W0 X hs0 ⟨hI, c1⟩ hG hR
    obtain ⟨fn, tmps, assign, body, hy, hRd⟩ := HY.out pre (p, ⟨xo, xp, xa, xn, xm, xt⟩) X hI hG
    dsimp only at hR
    simp only [encT, Stp.v] at hy ⊢
    have HRd := Lib.hid hRd
    clear hRd hI hG hT
    gi_wp2
    refine ⟨fun h => (by cases h), (round_in HRd.out).mono ?_⟩
    rintro e W3 (⟨rfl, hJ3, hK3⟩ | ⟨rfl, hJx3, hK3⟩)
    · have hkf := hK3.keeps (B := Wa.heap.size) (by omega)
      have hc1 := cell_same c1 (hK3.up W.heap.size (by omega) (cell_lt c1))
      have hkn := hK3.narrow (l' := Wa.heap.size + 1) (by omega)
      gi_wp2
      exact ⟨hkf, hkn, hJ3, hc1⟩
    · have hkf := hK3.keeps (B := Wa.heap.size) (by omega)
      have hkn := hK3.narrow (l' := Wa.heap.size + 1) (by omega)
      gi_wp2
      exact ⟨hkf, hkn, rfl, hJx3⟩
  case done =>
    intro xs V' hSx hI hD
    gi_wp2
    refine ⟨by simp, .inl ⟨_, _, rfl, run_takeDeferred hD, ?_⟩⟩
    exact ⟨_, results_none rfl _ _ _, ⟨⟨_, rfl⟩, .inl ⟨xs, hSx, hO xs _ _ _ _ hI.1 (by omega) hD rfl rfl⟩⟩⟩
  case stop =>
    intro cd pre V' hSp' hI hD
    obtain ⟨rfl, hI⟩ := hI
    gi_wp2
    refine ⟨by simp, .inl ⟨_, _, rfl, run_takeDeferred hD, ?_⟩⟩
    exact ⟨_, results_none rfl _ _ _, ⟨⟨_, rfl⟩, .inr ⟨pre, hSp', hOx pre _ _ _ _ hI (by omega) hD rfl rfl⟩⟩⟩

theorem seq_notes {V : World} {b3 : Nat} {L : List Stp} (hl : L.length ≤ 1000) (h : NtI V b3 L) :
    SeqQ encT 17 #[.pointer (some ⟨b3, 0, none⟩)] [6, 7] L V.heap.size V :=
  fun N hN l J Jx W hW hlW hJ hJx hO hOx hY h0 => notes1_in N l b3 L V (by omega) hl h J Jx hJ hJx hO hOx hY W hW hlW h0

theorem those_not (lb : Array Value) (V : World) : (binOp BinOp.eql 30 (.func (.func 28) #[] lb) .nilFunc).run Try.prog V = .ok (.bool false) V := by kernel_rfl
theorem notes_not (lb : Array Value) (V : World) : (binOp BinOp.eql 33 (.func (.func 17) #[] lb) .nilFunc).run Try.prog V = .ok (.bool false) V := by kernel_rfl

end Go.Proofs.Ytgbhfhdhmkmpcaa.Trees

